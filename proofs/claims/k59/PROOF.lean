import PyProof.Rows.All
import Wide.All
import OpenK.AllK
import Wide.FinOn
import HandS.ForMost
import HandS.ForExc
import HandS.More
import HandS.ExcInit
import HandS.ExcIs
import HandS.ExcField
import HandS.HotCalls
import HandS.IsInst
import HandS.Conv
import HandS.Rev
import HandS.RevRange
import HandS.Flow
import HandS.Style
import HandS.Zip
import HandS.Wide
import HandS.Gcd
import HandS.Defaults
import KE.KExcIs
import PyProof.MaxThree
import HandS.Property
import HandS.CallSlots
import HandS.SetFor
import HandS.Text
import PySem.Challenge.RW_mendsontime_k59_no_bar_for_makeable_sett
set_option Elab.async false
set_option linter.all false
set_option maxRecDepth 100000
set_option maxHeartbeats 4000000
/-! words of my own over the layer -/
namespace Mt
open PySem PySem.Spec PyProof.Rows L2
theorem rel_ty {n : String} : RelV (.ty n) (.type n) := rfl
/-- a def that may be called here: its promise, its place, how it is bound -/
structure Cal (P : Program) (w : World) (K : PySem.W.Frag) (mg : Str → Option Value) (base : Heap) (x : Str) (k : Nat) (ps : List Str) (sp : Sp) : Prop where
  ex : ∃ f fd, FnOk P w K mg base CX0 k f fd ps sp ∧ mg x = some (.ref f) ∧ PySem.W.keepIn K (.ref f) = true ∧ Binds K fd ps []
theorem p_call {X : Cx} {x : Str} {j k : Nat} {ps : List Str} {sp : Sp} {e : Expr} {es : List Expr} {t : TA} {p pos : Pos} (C : Cal X.prog X.w X.K X.mg X.base x j ps sp) (hr : Room k X.A) (ha : PA X (e :: es) t) (hj : j ≤ k := by decide) (hg : Gl X x := by rfl)
    (hdb : (x == ("__debug__" : Str)) = false := by decide) (he : starEach (e :: es) X.env = (false, eval e X.env) :: starEach es X.env := by rfl) (hpl : (backTo pos (starEach es X.env)).any (·.1) = false := by rfl) :
    PE X (.Call (.Name x p) (e :: es) [] pos) (tCall sp [] E0 t) := by
  obtain ⟨f, fd, F, gm, kp, b⟩ := C.ex
  exact pe_call F (hr.mono hj) hg gm kp b .nil pass0 ha hdb he hpl
/-! the store of drawn numbers -/
structure Sto where
  l : Addr
  ns : List Int
  i : Int
  c : Int
  g : Int
  seed : Int
  j : Int
def stV (t : Sto) : List V := [.ref t.l, .int t.i, .int t.c, .int t.g, .int t.seed, .int t.j]
def Wr (G : Hp) (s : Addr) (t : Sto) : Hp := upd G s (.lst (stV t))
structure StOk (G : Hp) (t : Sto) : Prop where
  at_ : G t.l = some (.lst (t.ns.map V.int))
  i0 : 0 ≤ t.i
  il : t.i ≤ t.ns.length
  g0 : 0 ≤ t.g
  gi : 0 < t.g → 1 ≤ t.i
end Mt
/-! readings by rewriting -/
namespace Mt
open PySem PySem.Spec PyProof.Rows L2
section
variable {D : Ends} {σ : L2.St} {H : Hp} {Q : VK} {B : Bool → Hp → Prop} {La : List V → Hp → Prop} {i : Nat} {v x y z : V} {ta tb tc te : TE} {t u : TT} {s1 s2 : TS} {r r' : R2} {aa ar : TA} {K : PySem.W.Frag} {g : TG} {gs : TGs} {b : Bool}
theorem w_seq : tSeq s1 s2 D σ H = s1 { D with nx := s2 D } σ H := rfl
theorem w_next : tNext D σ H = D.nx σ H := rfl
theorem w_ret : tRet te D σ H = te σ H D.rt := rfl
theorem w_asg : tAsg te g D σ H = te σ H fun x H1 => g x σ H1 D.nx := rfl
theorem w_ifs : tIfS t s1 s2 D σ H = t σ H fun b H1 => if b = true then s1 D σ H1 else s2 D σ H1 := rfl
theorem w_drop : tDrop te D σ H = te σ H fun _ H1 => D.nx σ H1 := rfl
theorem w_brk : tBreak D σ H = D.bk σ H := rfl
theorem w_cont : tCont D σ H = D.ct σ H := rfl
theorem w_name {R : L2.St → Hp → Prop} : gName i v σ H R = R (σ.set i (some v)) H := rfl
theorem w_var : tVar i σ H Q = ∃ v, σ[i]? = some (some v) ∧ Q v H := rfl
theorem w_c : tC v σ H Q = Q v H := rfl
theorem w_op : tOp r ta tb σ H Q = ta σ H fun x H1 => tb σ H1 fun y H2 => r x y H2 Q := rfl
theorem w_un {q : V → Hp → VK → Prop} : tUn q ta σ H Q = ta σ H fun x H1 => q x H1 Q := rfl
theorem w_I {C : Int → Int → Prop} {f : Int → Int → V} {a c : Int} : rI C f (.int a) (.int c) H Q = (C a c ∧ Q (f a c) H) := propext ⟨fun ⟨p, q, e1, e2, h⟩ => by cases e1; cases e2; exact h, fun h => ⟨a, c, rfl, rfl, h⟩⟩
theorem w_I0 {f : Int → Int → V} {a c : Int} : rI0 f (.int a) (.int c) H Q = Q (f a c) H := propext ⟨fun ⟨p, q, e1, e2, h⟩ => by cases e1; cases e2; exact h, fun h => ⟨a, c, rfl, rfl, h⟩⟩
theorem w_U {f : Int → V} {a : Int} : rU f (.int a) H Q = Q (f a) H := propext ⟨fun ⟨p, e1, h⟩ => by cases e1; exact h, fun h => ⟨a, rfl, h⟩⟩
theorem w_eq : rEq x y H Q = (scal x y = true ∧ Q (.bl (decide (x = y))) H) := rfl
theorem w_ne : rNe x y H Q = (scal x y = true ∧ Q (.bl (!decide (x = y))) H) := rfl
theorem w_test : tTest te σ H B = te σ H fun x H' => ∃ k, x = .bl k ∧ B k H' := rfl
theorem w_B : tB te σ H B = te σ H fun x H' => ∃ k, x = .bl k ∧ B k H' := rfl
theorem w_and : tAnd t u σ H B = t σ H fun c H1 => if c = true then u σ H1 B else B false H1 := rfl
theorem w_or : tOr t u σ H B = t σ H fun c H1 => if c = true then B true H1 else u σ H1 B := rfl
theorem w_not : tNot t σ H B = t σ H fun c H1 => B (!c) H1 := rfl
theorem w_andV : tAndV ta tb σ H Q = ta σ H fun x H1 => ∃ c, x = .bl c ∧ if c = true then tb σ H1 Q else Q (.bl false) H1 := rfl
theorem w_orV : tOrV ta tb σ H Q = ta σ H fun x H1 => ∃ c, x = .bl c ∧ if c = true then Q (.bl true) H1 else tb σ H1 Q := rfl
theorem w_notV : tNotV ta σ H Q = ta σ H fun x H1 => ∃ c, x = .bl c ∧ Q (.bl (!c)) H1 := rfl
theorem w_if : tIf t ta tb σ H Q = t σ H fun c H1 => if c = true then ta σ H1 Q else tb σ H1 Q := rfl
theorem w_isN : tIsN ta σ H Q = ta σ H fun x H1 => Q (.bl (decide (x = .non))) H1 := rfl
theorem w_nil : tNil σ H La = La [] H := rfl
theorem w_cons : tCons ta ar σ H La = ta σ H fun x H1 => ar σ H1 fun xs H2 => La (x :: xs) H2 := rfl
theorem w_cb {q : List V → Hp → VK → Prop} : tCB q aa σ H Q = aa σ H fun vs H1 => q vs H1 Q := rfl
theorem w_call {sp : Sp} {dvs : List V} {E : XK} : tCall sp dvs E aa σ H Q = aa σ H fun vs H1 => sp (vs ++ dvs) H1 Q E := rfl
theorem w_tup : tTup aa σ H Q = aa σ H fun xs H1 => xs.length ≤ sizeLine ∧ ∀ p, H1 p = none → Q (.ref p) (upd H1 p (.tup xs)) := rfl
theorem w_lst : tLst aa σ H Q = aa σ H fun xs H1 => xs.length ≤ sizeLine ∧ ∀ p, H1 p = none → Q (.ref p) (upd H1 p (.lst xs)) := rfl
theorem w_sub {to ti : TE} {ts : TSet} {R : L2.St → Hp → Prop} : gSub to ti ts v σ H R = to σ H fun o H1 => ti σ H1 fun i H2 => ts o i v H2 fun H3 => R σ H3 := rfl
theorem w_int1 {a : Int} : ((∃ i, [V.int a] = [V.int i] ∧ Q (.int i) H) ∨ ∃ k, [V.int a] = [V.bl k] ∧ Q (.int (if k = true then 1 else 0)) H) = Q (.int a) H := by
  refine propext ⟨fun h => ?_, fun h => Or.inl ⟨a, rfl, h⟩⟩
  rcases h with ⟨i, e, h⟩ | ⟨k, e, _⟩
  · cases e
    exact h
  · cases e
theorem w_chain : tChain r r' ta tb tc σ H Q = ta σ H fun x H1 => tb σ H1 fun y H2 => r x y H2 fun z H3 => ∃ k, z = .bl k ∧ if k = true then tc σ H3 fun w H4 => r' y w H4 Q else Q (.bl false) H3 := rfl
theorem w_exB {R : Bool → Prop} {b : Bool} : (∃ k, V.bl b = V.bl k ∧ R k) = R b := propext ⟨fun ⟨k, e, h⟩ => by cases e; exact h, fun h => ⟨b, rfl, h⟩⟩
theorem w_exV {R : V → Prop} {a : V} : (∃ v, some (some a) = some (some v) ∧ R v) = R a := propext ⟨fun ⟨k, e, h⟩ => by cases e; exact h, fun h => ⟨a, rfl, h⟩⟩
theorem w_start {N : List Str} {vs : List V} : L2.start N vs = vs.map some ++ List.replicate (N.length - vs.length) none := rfl
theorem w_par {j : Nat} {aa : TA} : tPar i j aa D σ H = aa σ H fun vs H1 => ∃ v w, vs = [v, w] ∧ D.nx ((σ.set i (some v)).set j (some w)) H1 := rfl
theorem w_par2 {R : V → V → Prop} : (∃ v w, [x, y] = [v, w] ∧ R v w) = R x y := propext ⟨fun ⟨v, w, e, h⟩ => by cases e; exact h, fun h => ⟨x, y, rfl, h⟩⟩
theorem wp1 : wipe σ [i] = σ.set i none := rfl
theorem wp2 {j : Nat} : wipe σ [i, j] = (σ.set j none).set i none := rfl
/-- an item of a tracked list -/
theorem w_ix {p : Addr} {xs : List V} {i : Int} {w : V} (h : H p = some (.lst xs)) (e : atI xs i = some w) (q : Q w H) : rIxL K (.ref p) (.int i) H Q := ⟨p, xs, i, w, rfl, rfl, .inl (.inl h), e, q⟩
end
end Mt
/-! rules whose readings are reckoned from the heap -/
namespace Mt
open PySem PySem.Spec PyProof.Rows L2
/-- the items of a list, a tuple, the script -/
def seqAt (H : Hp) (p : Addr) : Option (List V) :=
  match H p with
  | some (.lst xs) => some xs
  | some (.tup xs) => some xs
  | some (.frz _ (.lst xs)) => some xs
  | _ => none
theorem seqAt_l {H : Hp} {p : Addr} {xs : List V} (h : H p = some (.lst xs)) : seqAt H p = some xs := by
  unfold seqAt
  rw [h]
theorem seqAt_t {H : Hp} {p : Addr} {xs : List V} (h : H p = some (.tup xs)) : seqAt H p = some xs := by
  unfold seqAt
  rw [h]
theorem seqAt_split {K : PySem.W.Frag} {H : Hp} {p : Addr} {xs : List V} (h : seqAt H p = some xs) : SqL K H p xs ∨ SqT K H p xs := by
  unfold seqAt at h
  split at h
  · rename_i ys e
    cases h
    exact Or.inl (Or.inl (Or.inl e))
  · rename_i ys e
    cases h
    exact Or.inr (Or.inl (Or.inl e))
  · rename_i o ys e
    cases h
    exact Or.inl (Or.inl (Or.inr ⟨o, e⟩))
  · cases h
theorem seqAt_same {H H' : Hp} {p : Addr} {xs : List V} (s : Same H H') (h : seqAt H p = some xs) : seqAt H' p = some xs := by
  unfold seqAt at h ⊢
  split at h
  · rename_i ys e
    rw [s _ _ e]
    exact h
  · rename_i ys e
    rw [s _ _ e]
    exact h
  · rename_i o ys e
    rw [s _ _ e]
    exact h
  · cases h
section
variable {X : Cx}
def rIxH : R2 := fun x y H Q => ∃ p i xs v, x = .ref p ∧ y = .int i ∧ seqAt H p = some xs ∧ atI xs i = some v ∧ Q v H
theorem ix_H : IxR X rIxH := by
  intro value slice pins s σ H x y v u Q I rx ry h hs
  obtain ⟨p, i, xs, z, rfl, rfl, e, ea, q⟩ := h
  refine ix_seq value slice pins s σ H _ _ v u Q I rx ry ?_ hs
  rcases seqAt_split (K := X.K) e with k | k
  · exact Or.inl ⟨p, xs, i, z, rfl, rfl, k, ea, q⟩
  · exact Or.inr (Or.inl ⟨p, xs, i, z, rfl, rfl, k, ea, q⟩)
def rLenH : List V → Hp → VK → Prop := fun vs H Q => ∃ p xs, vs = [.ref p] ∧ seqAt H p = some xs ∧ Q (.int xs.length) H
theorem call_lenH : CallR X (.builtin "len") rLenH := by
  intro pins s σ H xs us Q I r h
  obtain ⟨p, ys, rfl, e, q⟩ := h
  refine call_len_seq pins s σ H _ us Q I r ?_
  rcases seqAt_split (K := X.K) e with k | k
  · exact ⟨p, ys, rfl, Or.inl k, q⟩
  · exact ⟨p, ys, rfl, Or.inr k, q⟩
def rInt1 : List V → Hp → VK → Prop := fun xs H Q => (∃ i, xs = [.int i] ∧ Q (.int i) H) ∨ ∃ k, xs = [.bl k] ∧ Q (.int (if k = true then 1 else 0)) H
theorem call_intH : CallR X (.type "int") rInt1 := call_int1
def rIsTyH : R2 := fun x y H Q => ∃ m n, x = .ty m ∧ y = .ty n ∧ Q (.bl (decide (m = n))) H
theorem op_isTyH : OpR X (compareOp .Is) rIsTyH := op_isTy
theorem tyx_of {K : PySem.W.Frag} {x : V} {H : Hp} {n : String} (h : zTyV x H = some n) : TyX K H x (.type n) := by
  cases x with
  | non => cases h; exact .base .non
  | bl b => cases h; exact .base (.bl b)
  | int i => cases h; exact .base (.int i)
  | str z => cases h; exact .base (.str z)
  | byt b => cases h; exact .byt b
  | flt b => cases h; exact .base (.flt b)
  | ty m => cases h
  | ref p =>
    simp only [zTyV] at h
    split at h
    · rename_i ys e
      cases h
      exact .base (.lst e)
    · rename_i ys e
      cases h
      exact .base (.tup e)
    · cases h
/-- isinstance(x, T), T a built-in class -/
def rIsH : List V → Hp → VK → Prop := fun vs H Q => ∃ x n m b, vs = [x, .ty n] ∧ zTyV x H = some m ∧ kitB m n = some b ∧ Q (.bl b) H
theorem call_isH : CallR X (.builtin "isinstance") rIsH := by
  intro pins s σ H xs us Q I r h
  obtain ⟨x, n, m, b, rfl, hz, hk, q⟩ := h
  exact call_isi pins s σ H _ us Q I r ⟨x, .ty n, .type m, .type n, b, rfl, .ty n, tyx_of hz, kit_ty hk, q⟩
/-- isinstance(x, (S, T)) -/
def rIsTH : List V → Hp → VK → Prop := fun vs H Q => ∃ x tp n1 n2 m b c, vs = [x, .ref tp] ∧ H tp = some (.tup [.ty n1, .ty n2]) ∧ zTyV x H = some m ∧ kitB m n1 = some b ∧ kitB m n2 = some c ∧ Q (.bl (b || c)) H
theorem call_isTH : CallR X (.builtin "isinstance") rIsTH := by
  intro pins s σ H xs us Q I r h
  obtain ⟨x, tp, n1, n2, m, b, c, rfl, ht, hz, h1, h2, q⟩ := h
  refine call_isiT pins s σ H _ us Q I r ⟨x, tp, [.ty n1, .ty n2], .type m, [.type n1, .type n2], b || c, rfl, ht, .cons (.ty n1) (.cons (.ty n2) .nil), tyx_of hz, ?_, q⟩
  refine kitAny_cons (kit_ty h1) (fun e => ?_) (fun e => by rw [e]; rfl)
  refine kitAny_cons (kit_ty h2) (fun e2 => by rw [e, e2]; exact kitAny_nil) (fun e2 => by rw [e, e2]; rfl)
end
section
variable {H : Hp} {Q : VK} {x y : V}
theorem w_ixH {p : Addr} {i : Int} : rIxH (.ref p) (.int i) H Q = ∃ xs, seqAt H p = some xs ∧ ∃ v, atI xs i = some v ∧ Q v H := by
  refine propext ⟨fun ⟨p', i', xs, v, e1, e2, h1, h2, q⟩ => ?_, fun ⟨xs, h1, v, h2, q⟩ => ⟨p, i, xs, v, rfl, rfl, h1, h2, q⟩⟩
  cases e1
  cases e2
  exact ⟨xs, h1, v, h2, q⟩
theorem w_lenH {p : Addr} : rLenH [.ref p] H Q = ∃ xs, seqAt H p = some xs ∧ Q (.int xs.length) H := by
  refine propext ⟨fun ⟨p', xs, e1, h1, q⟩ => ?_, fun ⟨xs, h1, q⟩ => ⟨p, xs, rfl, h1, q⟩⟩
  cases e1
  exact ⟨xs, h1, q⟩
theorem w_intI {a : Int} : rInt1 [.int a] H Q = Q (.int a) H := by
  refine propext ⟨fun h => ?_, fun h => Or.inl ⟨a, rfl, h⟩⟩
  rcases h with ⟨i, e, h⟩ | ⟨k, e, _⟩
  · cases e
    exact h
  · cases e
theorem w_intB {b : Bool} : rInt1 [.bl b] H Q = Q (.int (if b = true then 1 else 0)) H := by
  refine propext ⟨fun h => ?_, fun h => Or.inr ⟨b, rfl, h⟩⟩
  rcases h with ⟨i, e, h⟩ | ⟨k, e, h⟩
  · cases e
  · cases e
    exact h
theorem w_isTyH {m n : String} : rIsTyH (.ty m) (.ty n) H Q = Q (.bl (decide (m = n))) H := by
  refine propext ⟨fun ⟨a, b, e1, e2, q⟩ => ?_, fun q => ⟨m, n, rfl, rfl, q⟩⟩
  cases e1
  cases e2
  exact q
theorem w_typ : r1 kTyp [x] H Q = ∃ n, zTyV x H = some n ∧ Q (.ty n) H := rfl
theorem w_isH {n : String} : rIsH [x, .ty n] H Q = ∃ m, zTyV x H = some m ∧ ∃ b, kitB m n = some b ∧ Q (.bl b) H := by
  refine propext ⟨fun ⟨a, n', m, b, e1, h1, h2, q⟩ => ?_, fun ⟨m, h1, b, h2, q⟩ => ⟨x, n, m, b, rfl, h1, h2, q⟩⟩
  cases e1
  exact ⟨m, h1, b, h2, q⟩
theorem w_isTH {tp : Addr} {n1 n2 : String} (ht : H tp = some (.tup [.ty n1, .ty n2])) : rIsTH [x, .ref tp] H Q = ∃ m, zTyV x H = some m ∧ ∃ b, kitB m n1 = some b ∧ ∃ c, kitB m n2 = some c ∧ Q (.bl (b || c)) H := by
  refine propext ⟨fun ⟨a, t', k1, k2, m, b, c, e1, ht', h1, h2, h3, q⟩ => ?_, fun ⟨m, h1, b, h2, c, h3, q⟩ => ⟨x, tp, n1, n2, m, b, c, rfl, ht, h1, h2, h3, q⟩⟩
  cases e1
  have e : some (HO.tup [V.ty n1, V.ty n2]) = some (HO.tup [V.ty k1, V.ty k2]) := ht.symm.trans ht'
  injection e with e
  injection e with e
  injection e with e e'
  injection e with e
  injection e' with e' _
  injection e' with e'
  subst e e'
  exact ⟨m, h1, b, h2, c, h3, q⟩
theorem w_setL {p : Addr} {xs : List V} {k : Int} {j : Nat} {v : V} {R : Hp → Prop} (h : H p = some (.lst xs)) (e : ixN xs.length k = some j) (q : R (upd H p (.lst (xs.set j v)))) : rSetL (.ref p) (.int k) v H R := ⟨p, xs, k, j, rfl, rfl, h, e, q⟩
theorem w_abs {a : Int} {R : VK} : (∃ i, [V.int a] = [V.int i] ∧ R (.int i) H) = R (.int a) H := by
  refine propext ⟨fun ⟨i, e, q⟩ => ?_, fun q => ⟨a, rfl, q⟩⟩
  cases e
  exact q
end
-- which class a kind is
theorem k_ii : kitB "int" "int" = some true := by decide +kernel
theorem k_ib : kitB "int" "bool" = some false := by decide +kernel
theorem k_is : kitB "int" "str" = some false := by decide +kernel
theorem k_il : kitB "int" "list" = some false := by decide +kernel
theorem k_it : kitB "int" "tuple" = some false := by decide +kernel
theorem k_bi : kitB "bool" "int" = some true := by decide +kernel
theorem k_bb : kitB "bool" "bool" = some true := by decide +kernel
theorem k_bs : kitB "bool" "str" = some false := by decide +kernel
theorem k_bl : kitB "bool" "list" = some false := by decide +kernel
theorem k_bt : kitB "bool" "tuple" = some false := by decide +kernel
theorem k_ni : kitB "NoneType" "int" = some false := by decide +kernel
theorem k_nb : kitB "NoneType" "bool" = some false := by decide +kernel
theorem k_ns : kitB "NoneType" "str" = some false := by decide +kernel
theorem k_nl : kitB "NoneType" "list" = some false := by decide +kernel
theorem k_nt : kitB "NoneType" "tuple" = some false := by decide +kernel
theorem k_si : kitB "str" "int" = some false := by decide +kernel
theorem k_sb : kitB "str" "bool" = some false := by decide +kernel
theorem k_ss : kitB "str" "str" = some true := by decide +kernel
theorem k_sl : kitB "str" "list" = some false := by decide +kernel
theorem k_st : kitB "str" "tuple" = some false := by decide +kernel
theorem k_li : kitB "list" "int" = some false := by decide +kernel
theorem k_lb : kitB "list" "bool" = some false := by decide +kernel
theorem k_ls : kitB "list" "str" = some false := by decide +kernel
theorem k_ll : kitB "list" "list" = some true := by decide +kernel
theorem k_lt : kitB "list" "tuple" = some false := by decide +kernel
theorem k_ti : kitB "tuple" "int" = some false := by decide +kernel
theorem k_tb : kitB "tuple" "bool" = some false := by decide +kernel
theorem k_ts : kitB "tuple" "str" = some false := by decide +kernel
theorem k_tl : kitB "tuple" "list" = some false := by decide +kernel
theorem k_tt : kitB "tuple" "tuple" = some true := by decide +kernel
end Mt
namespace Mt
open PySem PySem.Spec PyProof.Rows L2
section
variable {X : Cx} {H : Hp} {Q : VK} {x y : V}
def rAbsH : List V → Hp → VK → Prop := fun xs H Q => ∃ i, xs = [.int i] ∧ Q (.int (if i < 0 then -i else i)) H
theorem call_absH : CallR X (.builtin "abs") rAbsH := call_abs
theorem w_absH {a : Int} : rAbsH [.int a] H Q = Q (.int (if a < 0 then -a else a)) H := by
  refine propext ⟨fun ⟨i, e, q⟩ => ?_, fun q => ⟨a, rfl, q⟩⟩
  cases e
  exact q
/-- list(x) of a list, a tuple, the script -/
def rListH : List V → Hp → VK → Prop := fun vs H Q => ∃ p xs, vs = [.ref p] ∧ seqAt H p = some xs ∧ ∀ l, H l = none → Q (.ref l) (upd H l (.lst xs))
theorem call_listH : CallR X (.type "list") rListH := by
  intro pins s σ H xs us Q I r h
  obtain ⟨p, ys, rfl, e, q⟩ := h
  exact call_list_of pins s σ H _ us Q I r ⟨p, ys, rfl, seqAt_split e, q⟩
theorem w_listH {p : Addr} : rListH [.ref p] H Q = ∃ xs, seqAt H p = some xs ∧ ∀ l, H l = none → Q (.ref l) (upd H l (.lst xs)) := by
  refine propext ⟨fun ⟨p', xs, e1, h1, q⟩ => ?_, fun ⟨xs, h1, q⟩ => ⟨p, xs, rfl, h1, q⟩⟩
  cases e1
  exact ⟨xs, h1, q⟩
theorem w_tsl {r : V → Option Int → Option Int → Hp → VK → Prop} {te : TE} {tl th : TO} {σ : L2.St} : tSl r te tl th σ H Q = te σ H fun x H1 => tl σ H1 fun l H2 => th σ H2 fun u H3 => r x l u H3 Q := rfl
theorem w_nopart {σ : L2.St} {R : Option Int → Hp → Prop} : tNoPart σ H R = R none H := rfl
theorem w_part {te : TE} {σ : L2.St} {R : Option Int → Hp → Prop} : tPart te σ H R = te σ H fun x H1 => ∃ i, x = .int i ∧ R (some i) H1 := rfl
theorem w_exI {a : Int} {R : Int → Prop} : (∃ i, V.int a = V.int i ∧ R i) = R a := propext ⟨fun ⟨i, e, h⟩ => by cases e; exact h, fun h => ⟨a, rfl, h⟩⟩
theorem atI_neg1 {α : Type} {xs : List α} {i : Nat} {v : α} (h : xs.length = i + 1) (e : xs[i]? = some v) : atI xs (-1) = some v := by
  have e2 : ixN xs.length (-1) = some i := by
    unfold ixN
    rw [h, if_neg (by decide), if_pos (by omega)]
    congr 1
    omega
  unfold atI
  rw [e2]
  exact e
def rStrH : List V → Hp → VK → Prop := fun xs H Q => ∃ i, xs = [.int i] ∧ i.natAbs.log2 < 1920 ∧ Q (.str (toString i)) H
theorem call_strH : CallR X (.type "str") rStrH := call_str_int
theorem w_strH {a : Int} : rStrH [.int a] H Q = (a.natAbs.log2 < 1920 ∧ Q (.str (toString a)) H) := by
  refine propext ⟨fun ⟨i, e, q⟩ => ?_, fun q => ⟨a, rfl, q⟩⟩
  cases e
  exact q
/-- a slice of a list -/
def rSlH : V → Option Int → Option Int → Hp → VK → Prop := fun x lo hi H Q => ∃ p xs, x = .ref p ∧ (H p = some (.lst xs) ∨ ∃ o, H p = some (.frz o (.lst xs))) ∧ ∀ q, H q = none → Q (.ref q) (upd H q (.lst (cutV xs lo hi)))
theorem sl_H : SlR X rSlH := by
  intro pins s σ H x v vl vu lo hi sl Q I rx hs pl pu h
  obtain ⟨p, xs, rfl, k, q⟩ := h
  exact sl_list pins s σ H _ v vl vu lo hi sl Q I rx hs pl pu ⟨p, xs, rfl, Or.inl k, q⟩
theorem w_slH {p : Addr} {lo hi : Option Int} {xs : List V} (h : H p = some (.lst xs)) : rSlH (.ref p) lo hi H Q = ∀ q, H q = none → Q (.ref q) (upd H q (.lst (cutV xs lo hi))) := by
  refine propext ⟨fun ⟨p', ys, e1, h1, q⟩ => ?_, fun q => ⟨p, xs, rfl, Or.inl h, q⟩⟩
  cases e1
  rcases h1 with h1 | ⟨o, h1⟩
  · rw [h] at h1
    cases h1
    exact q
  · rw [h] at h1
    cases h1
theorem w_cat {l b : Addr} {xs zs : List V} (h1 : H l = some (.lst xs)) (h2 : H b = some (.lst zs)) : rCat (.ref l) (.ref b) H Q = (xs.length + zs.length ≤ sizeLine ∧ ∀ p, H p = none → Q (.ref p) (upd H p (.lst (xs ++ zs)))) := by
  refine propext ⟨fun ⟨l', b', xs', zs', e1, e2, g1, g2, q⟩ => ?_, fun q => ⟨l, b, xs, zs, rfl, rfl, h1, h2, q⟩⟩
  cases e1
  cases e2
  rw [h1] at g1
  rw [h2] at g2
  cases g1
  cases g2
  exact q
theorem w_bm {T : String} {K : PySem.W.Frag} {r : V → List V → Hp → VK → Prop} {to : TE} {t : TA} {σ : L2.St} : tBM K T r to t σ H Q = to σ H fun x H1 => tyV K T x H1 ∧ t σ H1 fun xs H2 => r x xs H2 Q := rfl
theorem w_append {l : Addr} {xs : List V} {y : V} (h : H l = some (.lst xs)) : rAppend (.ref l) [y] H Q = (xs.length < sizeLine ∧ Q .non (upd H l (.lst (xs ++ [y])))) := by
  refine propext ⟨fun ⟨l', xs', y', e1, e2, g, q⟩ => ?_, fun q => ⟨l, xs, y, rfl, rfl, h, q⟩⟩
  cases e1
  cases e2
  rw [h] at g
  cases g
  exact q
theorem w_tyL {l : Addr} {xs : List V} {K : PySem.W.Frag} (h : H l = some (.lst xs)) : tyV K "list" (.ref l) H = True := propext ⟨fun _ => trivial, fun _ => Or.inl ⟨rfl, _, Or.inl (Or.inl h)⟩⟩
end
theorem w_scII {a b : Int} : scal (.int a) (.int b) = true := rfl
theorem w_scBB {a b : Bool} : scal (.bl a) (.bl b) = true := rfl
theorem w_scSS {a b : Str} : scal (.str a) (.str b) = true := rfl
theorem w_scNN : scal .non .non = true := rfl
theorem w_zi {a : Int} {H : Hp} : zTyV (.int a) H = some "int" := rfl
theorem w_zb {a : Bool} {H : Hp} : zTyV (.bl a) H = some "bool" := rfl
theorem w_zs {a : Str} {H : Hp} : zTyV (.str a) H = some "str" := rfl
theorem w_zn {H : Hp} : zTyV .non H = some "NoneType" := rfl
theorem w_zl {p : Addr} {xs : List V} {H : Hp} (h : H p = some (.lst xs)) : zTyV (.ref p) H = some "list" := by
  simp only [zTyV, h]
theorem w_zt {p : Addr} {xs : List V} {H : Hp} (h : H p = some (.tup xs)) : zTyV (.ref p) H = some "tuple" := by
  simp only [zTyV, h]
/-- an item of a list of ints -/
theorem ints_at {ns : List Int} {i : Nat} {y : V} (h : (ns.map V.int)[i]? = some y) : ∃ z, ns[i]? = some z ∧ y = .int z := by
  rw [List.getElem?_map] at h
  cases e : ns[i]? with
  | none =>
    rw [e] at h
    cases h
  | some z =>
    rw [e] at h
    exact ⟨z, rfl, (Option.some.inj h).symm⟩
/-! ### a remainder -/
theorem fmod_pos {a m : Int} (h : 0 < m) : 0 ≤ a.fmod m ∧ a.fmod m < m := by
  rw [Int.fmod_eq_emod_of_nonneg _ (Int.le_of_lt h)]
  exact ⟨Int.emod_nonneg _ (by omega), Int.emod_lt_of_pos _ h⟩
theorem fdiv_pos {a m : Int} (h : 0 ≤ a) (hm : 0 < m) : 0 ≤ a.fdiv m ∧ a.fdiv m ≤ a := by
  rw [Int.fdiv_eq_ediv_of_nonneg _ (Int.le_of_lt hm)]
  exact ⟨Int.ediv_nonneg h (Int.le_of_lt hm), Int.ediv_le_self _ h⟩
theorem cmul_l {a c : Int} (h0 : 0 ≤ a) (h1 : a < 18446744073709551616) : CMul a c := Or.inl ⟨by omega, by omega⟩
theorem cmul_r {a c : Int} (h0 : 0 ≤ c) (h1 : c < 18446744073709551616) : CMul a c := Or.inr ⟨by omega, by omega⟩
/-! ### heaps -/
theorem upd_comm {H : Hp} {a b : Addr} {o u : HO} (h : a ≠ b) : upd (upd H a o) b u = upd (upd H b u) a o := by
  funext c
  unfold upd
  by_cases h1 : c = a
  · by_cases h2 : c = b
    · exact absurd (h1.symm.trans h2) h
    · rw [if_neg h2, if_pos h1, if_pos h1]
  · by_cases h2 : c = b
    · rw [if_pos h2, if_neg h1, if_pos h2]
    · rw [if_neg h2, if_neg h1, if_neg h1, if_neg h2]
theorem same_new {H : Hp} {p : Addr} {o : HO} (h : H p = none) : Same H (upd H p o) := fun b x e => by
  rw [upd_ne (ne_of_none e h)]
  exact e
theorem same_mut {H H' : Hp} {p : Addr} {o : HO} (s : Same H H') (h : H p = none) : Same H (upd H' p o) := fun b x e => by
  rw [upd_ne (ne_of_none e h)]
  exact s b x e
/-! ### the store -/
theorem atI_s0 (t : Sto) : atI (stV t) 0 = some (.ref t.l) := rfl
theorem atI_s1 (t : Sto) : atI (stV t) 1 = some (.int t.i) := rfl
theorem atI_s2 (t : Sto) : atI (stV t) 2 = some (.int t.c) := rfl
theorem atI_s3 (t : Sto) : atI (stV t) 3 = some (.int t.g) := rfl
theorem atI_s4 (t : Sto) : atI (stV t) 4 = some (.int t.seed) := rfl
theorem atI_s5 (t : Sto) : atI (stV t) 5 = some (.int t.j) := rfl
theorem wr_s {G : Hp} {s : Addr} {t : Sto} : Wr G s t s = some (.lst (stV t)) := upd_same
theorem wr_l {G : Hp} {s : Addr} {t : Sto} (ok : StOk G t) (hs : G s = none) : Wr G s t t.l = some (.lst (t.ns.map V.int)) := by
  unfold Wr
  rw [upd_ne (ne_of_none ok.at_ hs)]
  exact ok.at_
theorem wr_set {G : Hp} {s : Addr} {t t' : Sto} {v : V} {j : Nat} (h : (stV t).set j v = stV t') : upd (Wr G s t) s (.lst ((stV t).set j v)) = Wr G s t' := by
  unfold Wr
  rw [upd_upd, h]
theorem w_setE {H : Hp} {p : Addr} {xs : List V} {k : Int} {j : Nat} {v : V} {R : Hp → Prop} (h : H p = some (.lst xs)) (e : ixN xs.length k = some j) : rSetL (.ref p) (.int k) v H R = R (upd H p (.lst (xs.set j v))) := by
  refine propext ⟨fun ⟨p', xs', k', j', e1, e2, g, ge, q⟩ => ?_, fun q => ⟨p, xs, k, j, rfl, rfl, h, e, q⟩⟩
  cases e1
  cases e2
  rw [h] at g
  cases g
  rw [e] at ge
  cases ge
  exact q
theorem w_st1 {G : Hp} {s : Addr} {t : Sto} {a : Int} {R : Hp → Prop} : rSetL (.ref s) (.int 1) (.int a) (Wr G s t) R = R (Wr G s { t with i := a }) := by rw [w_setE wr_s (j := 1) rfl, wr_set (t' := { t with i := a }) rfl]
theorem w_st2 {G : Hp} {s : Addr} {t : Sto} {a : Int} {R : Hp → Prop} : rSetL (.ref s) (.int 2) (.int a) (Wr G s t) R = R (Wr G s { t with c := a }) := by rw [w_setE wr_s (j := 2) rfl, wr_set (t' := { t with c := a }) rfl]
theorem w_st3 {G : Hp} {s : Addr} {t : Sto} {a : Int} {R : Hp → Prop} : rSetL (.ref s) (.int 3) (.int a) (Wr G s t) R = R (Wr G s { t with g := a }) := by rw [w_setE wr_s (j := 3) rfl, wr_set (t' := { t with g := a }) rfl]
theorem w_st5 {G : Hp} {s : Addr} {t : Sto} {a : Int} {R : Hp → Prop} : rSetL (.ref s) (.int 5) (.int a) (Wr G s t) R = R (Wr G s { t with j := a }) := by rw [w_setE wr_s (j := 5) rfl, wr_set (t' := { t with j := a }) rfl]
end Mt
/-! ### errors: raised, let through, caught, and looked at by a def that the suite calls -/
namespace Mt
open PySem PySem.Spec PyProof.Rows L2 L2H
abbrev CN (P : Program) (w : World) : CXT := L2N.CX P w
section
variable {P : Program} {w : World} {K : PySem.W.Frag} {mg : Str → Option Value} {base : Heap}
/-- a def that errors may leave -/
theorem okN {x qual : Str} {st : Stmt} {f : Addr} {fd : FuncData} {N ps : List Str} {k : Nat} {sp : Sp} (F : Fun K x qual st f fd) (S : FnScope N ps (defScope st)) (len : ∀ vs H Q E, sp vs H Q E → vs.length = ps.length)
    (body : ∀ (cdv : Value) (A : Around) (outer : List Env) (s : Shared) (H : Hp) (vs : List V) (Q : VK) (E : XK), Room k (A.deeper (envOfC qual (defScope st) s.heap.objs.size f cdv)) → sp vs H Q E →
      ∃ t, PSs (cxOf (CN P w) P w K mg base N qual (defScope st) f cdv A outer s H E) (defBody st) t ∧ t { nx := fun _ H' => Q .non H', rt := Q } (L2.start N vs) H) : FnOk P w K mg base (CN P w) (k + 1) f fd ps sp := by
  obtain ⟨oc, od, kv, doc, pm, an, cdv, ct, osl, e, lk, hc⟩ := F.ex
  subst e
  exact fn_of lk hc S len fun A outer s H vs Q E hr hs => body cdv A outer s H vs Q E hr hs
/-- a def that may raise -/
structure CalX (P : Program) (w : World) (K : PySem.W.Frag) (mg : Str → Option Value) (base : Heap) (x : Str) (k : Nat) (ps : List Str) (sp : Sp) : Prop where
  ex : ∃ f fd, FnOk P w K mg base (CN P w) k f fd ps sp ∧ mg x = some (.ref f) ∧ PySem.W.keepIn K (.ref f) = true ∧ Binds K fd ps []
theorem p_callX {X : Cx} {W : WX} {x : Str} {j k : Nat} {ps : List Str} {sp : Sp} {e : Expr} {es : List Expr} {t : TA} {p pos : Pos} (C : CalX X.prog X.w X.K X.mg X.base x j ps sp) (hr : Room k X.A) (tk : L2N.Takes X W) (ha : PA X (e :: es) t) (hj : j ≤ k := by decide) (hg : Gl X x := by rfl)
    (hdb : (x == ("__debug__" : Str)) = false := by decide) (he : starEach (e :: es) X.env = (false, eval e X.env) :: starEach es X.env := by rfl) (hpl : (backTo pos (starEach es X.env)).any (·.1) = false := by rfl) :
    PE X (.Call (.Name x p) (e :: es) [] pos) (tCallS sp (WE W) t) := by
  obtain ⟨f, fd, F, gm, kp, b⟩ := C.ex
  exact pe_callS F (hr.mono hj) hg gm kp b (fun σ => L2N.passAt tk σ) ha hdb he hpl
theorem w_callS {sp : Sp} {E : L2.St → XK} {t : TA} {σ : L2.St} {H : Hp} {Q : VK} : tCallS sp E t σ H Q = t σ H fun vs H1 => sp vs H1 Q (E σ) := rfl
/-! C(e, ..) of an own class with its own __init__ -/
theorem pmkN {X : Cx} {x : Str} {e : Expr} {es : List Expr} {ta : TA} {p pos : Pos} {C fI : Addr} {k : Nat} {fd : FuncData} {ps : List Str} {sp : Sp} (T : OexC X.K C) (iC : PySem.W.findIn X.K (.ref C) "__init__" = some (some (.ref fI))) (tI : PySem.W.typeIn X.K (.ref fI) = some (.type "function"))
    (F1 : FnOk X.prog X.w X.K X.mg X.base CX0 k fI fd ps sp) (hr : Room (k + 1) X.A) (hb : Binds X.K fd ps []) (hm : X.mg x = some (.ref C)) (ha : PA X (e :: es) ta) (hg : Gl X x := by rfl)
    (hdb : (x == ("__debug__" : Str)) = false := by decide) (he : starEach (e :: es) X.env = (false, eval e X.env) :: starEach es X.env := by rfl) (hpl : (backTo pos (starEach es X.env)).any (·.1) = false := by rfl) :
    L2N.PMk X (.Call (.Name x p) (e :: es) [] pos) (tMkO C sp [] ta) := by
  intro pins s σ H Q I h
  obtain ⟨nm, q, NN, bs, bm, sn, sub, ab, col, dd, k0, k1, k2, k3, k5, hC, hbm⟩ := T.cls
  refine wpAny_Call_Name_kw (ld_glob I hg hm (PySem.W.callWith_K (h₀ := X.base) I.ok.mod.kin T.kC (thn (ha.run pos pins s σ H _ I h) fun us s1 ⟨vs, H1, I1, r1, hz, q1⟩ => ⟨I1.kIn, ?_⟩) he hpl) hdb)
  obtain ⟨hp, g, dr, tk, os⟩ := s1
  show wpAny _ _ (call (.ref C) us) _ _ _
  have up : hp.objs.size ≤ hp.objs.size + 1 := by omega
  have hq := q1 _ (I1.hok.fresh up)
  rw [List.append_nil] at hq
  generalize hh : (hp.push (PySem.W.kdv_tup us)).push (PySem.HandSPX.excO C hp.objs.size) = hx
  have kk : ∀ b o, hp.get? b = some o → hx.get? b = some o := fun b o z => by
    rw [← hh]
    exact Heap.get?_push_of_some _ (Heap.get?_push_of_some _ z)
  have hat : hx.get? (hp.objs.size + 1) = some (PySem.HandSPX.excO C hp.objs.size) := by
    rw [← hh]
    heap_get
  have I2 : Inv X pins σ (upd H1 (hp.objs.size + 1) (exo (hp.objs.size + 1) C none)) ⟨hx, g, dr, tk, os⟩ := I1.laid (t' := tk) (o := exo (hp.objs.size + 1) C none) kk up (exo_ok hat)
  have r2 : Vals (V.ref (hp.objs.size + 1) :: vs) (Value.ref (hp.objs.size + 1) :: us) := .cons rfl r1
  have n2 : (Value.ref (hp.objs.size + 1) :: us).length = ps.length := by
    rw [← r2.length]
    exact F1.len _ _ _ _ hq
  have b2 := hb ⟨hx, g, dr, tk, os⟩ (Value.ref (hp.objs.size + 1) :: us) I2.kIn (by rw [List.append_nil]; exact n2)
  rw [List.append_nil] at b2
  have zus : us.length ≤ sizeLine := by
    have e1 := Paired.length r1
    rw [sizeLine_eq]
    omega
  have run := F1.run (X.A.under (.builtin "type.__call__" ⟨.ref C :: us, []⟩)) X.stack ⟨hx, g, dr, tk, os⟩ _ ⟨Value.ref (hp.objs.size + 1) :: us, []⟩ _ _ _ (fun _ _ _ => False) (hr.make C us []) (I2.env0.make C us []) b2 r2 hq
  rw [← hh] at run
  refine wpAny_call (PySem.HandSPX.call_own F.excBase_ValueError (fun Y => PySem.HandSPX.refsVE_contains Y bm hbm) (I1.kIn _ _ hC) (PySem.W.looks_findIn I1.kIn iC) (fun self => PySem.W.bind_fn I1.kIn self tI) zus (codeAny_mono run fun r s' hr' => ?_))
  rw [hh] at hr'
  cases r with
  | error er => exact False.elim hr'
  | ok fl =>
    cases fl with
    | ret u =>
      obtain ⟨v, H2, os2, bare2, un2, hok2, rv, ev, d, fs, ea, ed, hd1, q2⟩ := hr'
      subst ev
      obtain ⟨h2, g2, d2, t2, os'⟩ := s'
      obtain ⟨t0, G, J, kG, ge, hoe, na⟩ := mk_end0 (d2 := d2) (t2 := t2) I1 up kk un2 hok2 os2 bare2 ea ed hd1
      exact ⟨rv, _, _, _, ⟨G, g2, d2, t2, os'⟩, _, .ref C, some d, rfl, J, kG, ge, hoe, ⟨rfl, rfl, fun ws z => by cases z; rfl⟩, rfl, rfl, na, rfl, bare2, raises_own T.exC T.tyC, q2⟩
    | _ => exact False.elim hr'
end
end Mt
/-! ### a def that the suite calls with the caught error at p -/
namespace Mt
open PySem PySem.Spec PyProof.Rows L2 L2H
/-- what stands at p: an error of the class at C, its dict at d -/
structure ErrAt (p : Addr × Obj) (C d : Addr) : Prop where
  zn : L2N.Zn (.ref C) (some d) p.2
  fl : ∃ vs, p.2.data = .fields vs
theorem ErrAt.inst {p : Addr × Obj} {C d : Addr} (z : ErrAt p C d) {h : Heap} {od : Obj} (hg : h.get? p.1 = some p.2) (hd : h.get? d = some od) : PySem.W.InstAt h p.1 p.2 C (some od) := by
  obtain ⟨vs, hv⟩ := z.fl
  obtain ⟨p1, ob⟩ := p
  obtain ⟨oc, odd, da, sl⟩ := ob
  obtain ⟨z1, z2, _⟩ := z.zn
  dsimp only at z1 z2 hv hg
  subst z1 z2 hv
  exact ⟨hg, rfl, rfl, hd⟩
structure FnE (P : Program) (w : World) (K : PySem.W.Frag) (mg : Str → Option Value) (base : Heap) (k : Nat) (f : Addr) (fd : FuncData) (ps : List Str) (sp : Addr × Obj → Sp) : Prop where
  len : ∀ p vs H Q E, sp p vs H Q E → vs.length = ps.length
  run : ∀ (p : Addr × Obj) (A : Around) (outer : List Env) (s : Shared) (H : Hp) (args : Args) (us : List Value) (vs : List V) (Q : VK) (E : XK), RoomH k A → Hot1 A p → PinOk outer H s p → Env0 P w K mg base A outer s H → BindsTo s fd args (ps.zip us) → Vals vs us → sp p vs H Q E →
    codeAny (model P w) A (.call (.ref f) args) (CR CX0 outer P w H s Q E) s
section
variable {P : Program} {w : World} {K : PySem.W.Frag} {mg : Str → Option Value} {base : Heap}
theorem okE {x qual : Str} {st : Stmt} {f : Addr} {fd : FuncData} {N ps : List Str} {k : Nat} {sp : Addr × Obj → Sp} (F : Fun K x qual st f fd) (S : FnScope N ps (defScope st)) (len : ∀ p vs H Q E, sp p vs H Q E → vs.length = ps.length)
    (body : ∀ (p : Addr × Obj) (cdv : Value) (A : Around) (outer : List Env) (s : Shared) (H : Hp) (vs : List V) (Q : VK) (E : XK), Hot1 A p → RoomH k (A.deeper (envOfC qual (defScope st) s.heap.objs.size f cdv)) → sp p vs H Q E →
      ∃ t, PSs (cxH CX0 P w K mg base N qual (defScope st) f cdv A outer s H E p) (defBody st) t ∧ t { nx := fun _ H' => Q .non H', rt := Q } (L2.start N vs) H) : FnE P w K mg base (k + 1) f fd ps sp := by
  obtain ⟨oc, od, kv, doc, pm, an, cdv, ct, osl, e, lk, hcd⟩ := F.ex
  subst e
  refine ⟨len, fun p A outer s H args us vs Q E hr hot hpin e0 hb r hsp => ?_⟩
  have hl := len _ _ _ _ _ hsp
  have KX : K.In s.heap := e0.mod.kin.keeps fun b o z => (e0.bs b o z).1
  have kinds : ∀ y ∈ ps.zip us, (defScope st).names.lookup y.1 = some .local ∨ ((defScope st).names.lookup y.1 = some .cell ∧ ((cellsFrom (s.heap.objs.size + 1) (defScope st).names []).lookup y.1).isSome = true) := by
    rintro ⟨n, v⟩ hy
    cases S.par n (List.of_mem_zip hy).1 with
    | inl q => exact Or.inl q
    | inr q => exact Or.inr ⟨q, PySem.W.cellsFrom_some _ _ _ (Or.inl q)⟩
  refine codeAny_call_function hr.depth (KX _ _ lk) rfl S.co S.gen rfl (PySem.W.codeRec_of KX hcd) (hb _ _ _ _ (wpAny_newFunctionEnv_cells S.kind kinds fun env he s1 x => ?_))
  subst he
  refine ⟨(e0.mod.nolimit.keeps fun b o z => (e0.bs b o z).1).keeps x.toInCall.keep, codeAny_func ?_⟩
  obtain ⟨t, ht, hq⟩ := body p cdv A outer s H vs Q E hot (hr.deeper _) hsp
  have I := inv_startH (CX := CX0) (cd := cdv) (f := f) (E := E) S hpin e0 hl r x
  refine wpAny_mono (ht.run [] s1 _ H _ I hq) (fun fl s' hs => ?_) fun _ _ z => z
  cases fl with
  | ret u =>
    obtain ⟨v, σ', H', J, rv, q⟩ := hs
    exact ⟨v, H', J.os, J.bare, J.base, J.hok, rv, q⟩
  | next =>
    obtain ⟨σ', H', J, q⟩ := hs
    exact ⟨V.non, H', J.os, J.bare, J.base, J.hok, rfl, q⟩
  | brk =>
    obtain ⟨_, _, _, q⟩ := hs
    exact q.elim
  | cont =>
    obtain ⟨_, _, _, q⟩ := hs
    exact q.elim
structure CalE (P : Program) (w : World) (K : PySem.W.Frag) (mg : Str → Option Value) (base : Heap) (x : Str) (k : Nat) (ps : List Str) (sp : Addr × Obj → Sp) : Prop where
  ex : ∃ f fd, FnE P w K mg base k f fd ps sp ∧ mg x = some (.ref f) ∧ PySem.W.keepIn K (.ref f) = true ∧ Binds K fd ps []
/-- its call, in a context that bears p -/
theorem p_callE {X : Cx} {p : Addr × Obj} {x : Str} {j k : Nat} {ps : List Str} {sp : Addr × Obj → Sp} {e : Expr} {es : List Expr} {t : TA} {q pos : Pos} (C : CalE X.prog X.w X.K X.mg X.base x j ps sp) (hr : RoomH k X.A) (hot : Hot1 X.A p) (hp : p ∈ X.pn) (ha : PA X (e :: es) t) (hj : j ≤ k := by decide) (hg : Gl X x := by rfl)
    (hdb : (x == ("__debug__" : Str)) = false := by decide) (he : starEach (e :: es) X.env = (false, eval e X.env) :: starEach es X.env := by rfl) (hpl : (backTo pos (starEach es X.env)).any (·.1) = false := by rfl) :
    PE X (.Call (.Name x q) (e :: es) [] pos) (tCall (sp p) [] E0 t) := by
  obtain ⟨f, fd, F, gm, kp, b⟩ := C.ex
  refine ⟨fun pins s σ H Q I h => ?_⟩
  refine wpAny_Call_Name_kw (ld_glob I hg gm (PySem.W.callWith_K (h₀ := X.base) I.ok.mod.kin kp (thn (ha.run pos pins s σ H _ I h) fun us s1 ⟨vs, H1, I1, r, hq⟩ => ⟨I1.kIn, ?_⟩) he hpl) hdb)
  have hq : sp p (vs ++ []) H1 Q E0 := hq
  rw [List.append_nil] at hq
  have hl : us.length = ps.length := by
    rw [← r.length]
    exact F.len _ _ _ _ _ hq
  have b1 := b s1 us I1.kIn (by rw [List.append_nil]; exact hl)
  rw [List.append_nil] at b1
  have P1 := I1.pin p (List.mem_append_left _ hp)
  have pin : PinOk X.stack H1 s1 p := ⟨P1.1, P1.2.1, fun hm => (List.mem_cons.mp (I1.stkSub p.1 hm)).elim P1.2.2.1 P1.2.2.2.1, P1.2.2.2.2⟩
  refine wpAny_call (codeAny_mono (F.run p X.A X.stack s1 H1 ⟨us, []⟩ us vs Q E0 (hr.mono hj) hot pin I1.env0 b1 r hq) fun r' s' hr' => ?_)
  cases r' with
  | error e => exact False.elim hr'
  | ok fl =>
    cases fl with
    | ret u => exact I1.after hr'
    | _ => exact False.elim hr'
end
/-! ### looks at the error -/
/-- what an own error class says -/
structure XcC (K : PySem.W.Frag) (C : Addr) : Prop where
  ic : (PySem.W.clsIn K C).isSome = true
  ga : PySem.W.findIn K (.ref C) "__getattribute__" = some (some (.builtin "BaseException.__getattribute__"))
  gg : PySem.W.findIn K (.ref C) "__getattr__" = some none
  exC : PySem.W.subIn K (.ref C) (.type "BaseException") = some true
  hd : PySem.W.hasDictIn K C = true
  ca : PySem.W.findIn K (.ref C) "__class__" = some (some (.builtin "object.__class__"))
  cn : PySem.W.specialIn K (.builtin "object.__class__") "__get__" = some (some (.builtin "getset_descriptor.__get__"))
  ct : PySem.W.takesIn K (.builtin "object.__class__") = some true
  cm : PySem.W.mroIn K C (.type "object") = some true
/-- isinstance(error, c) -/
def rIsE (K : PySem.W.Frag) (C d a : Addr) : List V → Hp → VK → Prop := fun xs H Q => ∃ (c : V) (cv : Value) (b : Bool) (fs : List (Str × V)), xs = [.ref a, c] ∧ (∀ u, RelV c u → u = cv) ∧ PySem.W.kitOne K (.ref C) cv = some b ∧ H d = some (.xd fs) ∧ Q (.bl b) H
theorem call_isE {X : Cx} {p : Addr × Obj} {C d : Addr} (T : XcC X.K C) (z : ErrAt p C d) (hp : p ∈ X.pn) : CallR X (.builtin "isinstance") (rIsE X.K C d p.1) := by
  intro pins s σ H xs us Q I r h
  obtain ⟨c, cv, b, fs, rfl, hcv, e, hd, q⟩ := h
  obtain ⟨u1, u2, rfl, r1, r2⟩ := vals2 r
  cases (show u1 = Value.ref p.1 from r1)
  have ec := hcv _ r2
  subst ec
  have hx : ObjOk X.prog X.w H s.heap d (.xd fs) := I.hok d _ hd
  obtain ⟨mA, hns, hr⟩ := hx
  obtain ⟨od, ho, hl⟩ := lookIn_ns hns
  exact PySem.W.kia_one (PySem.W.kitx_exc (od := some od) T.ic T.ga T.gg T.exC T.ca T.cn T.ct T.cm) I.kIn (z.inst (I.pin p (List.mem_append_left _ hp)).1 ho) e (fun y => nomatch y) fun tk => ⟨.bl b, H, I.tok tk, rfl, q⟩
theorem w_isE {K : PySem.W.Frag} {C d a c : Addr} {fs : List (Str × V)} {H : Hp} {Q : VK} (hd : H d = some (.xd fs)) : rIsE K C d a [.ref a, .ref c] H Q = ∃ b, PySem.W.kitOne K (.ref C) (.ref c) = some b ∧ Q (.bl b) H := by
  refine propext ⟨fun ⟨c', cv, b, fs', e1, e2, e3, e4, q⟩ => ?_, fun ⟨b, e, q⟩ => ⟨.ref c, .ref c, b, fs, rfl, fun u h => h, e, hd, q⟩⟩
  cases e1
  have := e2 (.ref c) rfl
  subst this
  exact ⟨b, e3, q⟩
theorem w_isEt {K : PySem.W.Frag} {C d a : Addr} {n : String} {fs : List (Str × V)} {H : Hp} {Q : VK} (hd : H d = some (.xd fs)) : rIsE K C d a [.ref a, .ty n] H Q = ∃ b, PySem.W.kitOne K (.ref C) (.type n) = some b ∧ Q (.bl b) H := by
  refine propext ⟨fun ⟨c', cv, b, fs', e1, e2, e3, e4, q⟩ => ?_, fun ⟨b, e, q⟩ => ⟨.ty n, .type n, b, fs, rfl, fun u h => h, e, hd, q⟩⟩
  cases e1
  have := e2 (.type n) rfl
  subst this
  exact ⟨b, e3, q⟩
/-- error.n -/
def tErrF (a d : Addr) (n : Str) (te : TE) : TE := fun σ H Q => te σ H fun x H1 => x = .ref a ∧ ∃ (fs : List (Str × V)) (v : V), H1 d = some (.xd fs) ∧ fs.lookup n = some v ∧ Q v H1
theorem pe_errF {X : Cx} {p : Addr × Obj} {C d : Addr} {e : Expr} {te : TE} {pos : Pos} {n : Str} (T : XcC X.K C) (no : PySem.W.findIn X.K (.ref C) n = some none) (z : ErrAt p C d) (hp : p ∈ X.pn) (he : PE X e te)
    (hb : attributeBase e n X.env (eval e X.env) = eval e X.env := by rfl) : PE X (.Attribute e n pos) (tErrF p.1 d n te) := by
  refine ⟨fun pins s σ H Q I h => attr_of hb (thn (he.run pins s σ H _ I h) fun u s1 hh => ?_)⟩
  obtain ⟨x, H1, I1, rx, ex, fs, v, ea, l, q⟩ := hh
  subst ex
  cases (show u = Value.ref p.1 from rx)
  have hx : ObjOk X.prog X.w H1 s1.heap d (.xd fs) := I1.hok d _ ea
  obtain ⟨mA, hns, hr⟩ := hx
  obtain ⟨od, ho, hl⟩ := lookIn_ns hns
  obtain ⟨u, hu, ru⟩ := RelO.some_of (v := v) (o := mA n) (by rw [← l]; exact hr n)
  exact HandSPX.exc_get I1.kIn (z.inst (I1.pin p (List.mem_append_left _ hp)).1 ho) T.ga T.gg T.exC (PySem.W.findObj_own T.hd no rfl (by rw [hl, hu])) (handed_of ru) ⟨v, H1, I1.tok _, ru, q⟩
theorem w_errF {a d : Addr} {n : Str} {te : TE} {σ : L2.St} {H : Hp} {Q : VK} : tErrF a d n te σ H Q = te σ H fun x H1 => x = .ref a ∧ ∃ (fs : List (Str × V)) (v : V), H1 d = some (.xd fs) ∧ fs.lookup n = some v ∧ Q v H1 := rfl
end Mt
/-! ### an error that leaves a list comprehension: the first steps -/
namespace Mt
open PySem PySem.Spec PyProof.Rows L2
theorem noteFrame_frame {e : Value} {env env' : Env} (h : env.frame = env'.frame) : noteFrame e env = noteFrame e env' := by
  have hf : PySem.frameOf env = PySem.frameOf env' := by
    unfold PySem.frameOf
    rw [h]
  unfold noteFrame
  rw [h, hf]
/-- what a comprehension's block leaves behind, its environment known -/
def BlkEnd (M : Model) (A : Around) (E : Value → Shared → Prop) (Q : Value → Shared → Prop) (acc : Value) (cenv : Env) : Result → Shared → Prop
  | .ok _, s' => ∃ m, s'.heap.Ns cenv.locals m ∧ ∀ h', Heap.SameBut cenv.locals s'.heap h' → Q acc { s' with heap := h' }
  | .error x, s' => ∃ m, s'.heap.Ns cenv.locals m ∧ ∀ h', Heap.SameBut cenv.locals s'.heap h' → wpAny M A (passOn "comprehension.variables-let-go" x cenv : Sem Value) (fun _ _ => False) E { s' with heap := h' }
theorem comp_known {M : Model} {A : Around} {E : Value → Shared → Prop} {s : Shared} {env : Env} {e : Expr} {scope : Scope} {pos : Pos} {newAcc first : Sem Value} {g : Comprehension} {gs : List Comprehension} {cl : List (Str × Addr)} {Q : Value → Shared → Prop}
    (k1 : clausesOf e = g :: gs) (k2 : ∀ x, foldedSetIterable g.iter env x = pure x) (k3 : closureFor scope env = pure cl) (k4 : scope.kind = .function) (k5 : ∀ x ∈ scope.names, x.2 = .local → scope.names.lookup x.1 = some .local)
    (run : wpAny M A first (fun x s1 => wpAny M A (pyIter x) (fun it s2 => wpAny M A newAcc (fun acc s3 => wpAny M A (newFunctionEnv scope env.globals cl [] env.qual none .none (some env)) (fun cenv s4 =>
      codeAny M A (.compStart e 0 it acc { cenv with scope := relabel scope env }) (BlkEnd M A E Q acc { cenv with scope := relabel scope env }) s4) E s3) E s2) E s1) E s) :
    wpAny M A (comprehension e scope env pos newAcc false first none) Q E s := by
  unfold comprehension
  rw [k3, k1]
  have up : ∀ (a : Value) (t : Shared), E a t → E a t := fun _ _ z => z
  refine wpAny_bind (wpAny_mono run (fun x s1 r1 => ?_) up)
  refine wpAny_bind (wpAny_standAt (wpAny_bind (wpAny_of_eq (k2 x) (wpAny_bind (wpAny_holding (wpAny_mono r1 (fun it s2 r2 => ?_) up))))))
  refine wpAny_standIf (wpAny_bind (wpAny_mono r2 (fun acc s3 r3 => ?_) up))
  refine wpAny_bind (wpAny_pure (wpAny_bind (wpAny_mono r3 (fun cenv s4 r4 => ?_) up)))
  dsimp only
  have own : ∀ x ∈ (scope.names.filter fun x => (x.2 == .local || x.2 == .cell) && x.1 != (".0" : Str)).reverse, x.2 = .local → Env.kindOf { cenv with scope := relabel scope env } x.1 = some .local :=
    fun x hx hl => lookup_relabel_local (k5 x (List.mem_filter.mp (List.mem_reverse.mp hx)).1 hl)
  refine wpAny_holding (wpAny_bind (wpAny_attempt (wpAny_holding (wpAny_run (codeAny_mono r4 fun r s' hr => ?_)))))
  cases r with
  | ok f =>
    obtain ⟨m, hn, hq⟩ := hr
    exact wpAny_bind (wpAny_holding (wpAny_comp_letGo (cenv := { cenv with scope := relabel scope env }) k4 _ s' m own hn fun h' m' _ sb => wpAny_pure (hq h' sb)))
  | error x =>
    obtain ⟨m, hn, hq⟩ := hr
    exact wpAny_bind (wpAny_holding (wpAny_comp_letGo (cenv := { cenv with scope := relabel scope env }) k4 _ s' m own hn fun h' m' _ sb => wpAny_mono (hq h' sb) (fun _ _ z => z.elim) up))
end Mt
namespace Mt
open PySem PySem.Spec PyProof.Rows L2
/-- an error that is noted at the def's own frame -/
def XEh (X : Cx) (W : WX) (u : Value) (s' : Shared) : Prop :=
  ∃ (a : Addr) (B : Heap) (sI : Shared) (pins : List (Addr × Obj)) (σ : L2.St) (H : Hp) (cls : Value) (d : Option Addr), u = .ref a ∧ Inv X pins σ H sI ∧ (∀ b o, sI.heap.get? b = some o → b ∉ frs X.stack → B.get? b = some o) ∧ sI.heap.UpToSlots s'.heap ∧
    HandSPX.HeldZ B X.stack a (L2N.Zn cls d) X.env.locals s'.heap ∧ H a = none ∧ s'.os = sI.os ∧ AllBare s'.gens ∧ W cls d σ H
theorem xe_note {X : Cx} {W : WX} {u : Value} {s' : Shared} {cenv : Env} {Q : Unit → Shared → Prop} {E : Value → Shared → Prop} (hs : X.stack = X.env :: X.outer) (hf : X.env.frame = some X.env.locals) (fr : cenv.frame = X.env.frame) (x : L2N.XE X W u s')
    (hQ : ∀ h1, s'.heap.UpToSlots h1 → XEh X W u { s' with heap := h1 } → Q () { s' with heap := h1 }) : wpAny (model X.prog X.w) X.A (noteFrame u cenv) Q E s' := by
  obtain ⟨a, B, sI, pins, σ, H, cls, d, rfl, I, nb, up, sky, na, os, ag, w⟩ := x
  have hfr : X.A.frames = some (X.env :: X.outer) := by rw [I.ok.frames, hs]
  rw [noteFrame_frame fr]
  have fin : ∀ h1, HandSPX.HeldZ B (X.env :: X.outer) a (L2N.Zn cls d) X.env.locals h1 → s'.heap.UpToSlots h1 → Q () { s' with heap := h1 } := fun h1 hh u1 =>
    hQ h1 u1 ⟨a, B, sI, pins, σ, H, cls, d, rfl, I, nb, up.trans u1, by rw [hs]; exact hh, na, os, ag, w⟩
  unfold L2.Sky at sky
  rw [hs] at sky
  rcases sky with ⟨hB, hn, hl, oe, vs, he, hz, hd, h1⟩ | fl | hh
  · exact PySem.PXN.look_newZ L2N.Zn.steady hfr hl hf he hB hn hd h1 hz fin
  · exact PySem.PXN.looks_onZ L2N.Zn.steady hfr hf fl fin
  · exact HandSPX.againZ hf hh.2.2.2 (fin s'.heap hh (Heap.UpToSlots.refl _))
/-- the error goes on from the block -/
theorem xe_pass {X : Cx} {W : WX} {u : Value} {s' : Shared} {cenv : Env} {lb : String} (hf : X.env.frame = some X.env.locals) (fr : cenv.frame = X.env.frame) (tk : L2N.Takes X W) (x : XEh X W u s') :
    wpAny (model X.prog X.w) X.A (PySem.passOn lb u cenv : Sem Value) (fun _ _ => False) X.xe s' := by
  obtain ⟨a, B, sI, pins, σ, H, cls, d, rfl, I, nb, up, hh, na, os, ag, w⟩ := x
  have hh' := hh
  obtain ⟨h1, h2, h3, oe, vs, T, oT, ts, he, hz, hd, hv, hT, _⟩ := hh'
  unfold PySem.passOn
  refine wpAny_bind (wpAny_field he hd hv ?_)
  refine wpAny_bind ?_
  rw [fr, hf]
  exact HandSPX.setFlight_onZ hh fun h4 hh4 up4 => wpAny_throw (tk _ _ ⟨a, B, sI, pins, σ, H, cls, d, rfl, I, nb, up.trans up4, .inr (.inr hh4), na, os, ag, w⟩)
theorem frames_but {C : Addr} {B B' h h' : Heap} (k : ∀ b, b ≠ C → h'.get? b = h.get? b) (kB : ∀ b, B.get? b = none → B'.get? b = none) : ∀ {l : List Env}, C ∉ frs l → h.FunFrames B l → h'.FunFrames B' l
  | [], _, x => x
  | env :: rest, hC, ⟨x1, ⟨L, o, e1, e2, e3, e4⟩, x3⟩ => by
    have hL : L ∈ frs (env :: rest) := by
      unfold frs
      rw [List.filterMap_cons, e1]
      exact List.mem_cons_self ..
    have hr : C ∉ frs rest := fun z => hC (by
      unfold frs at z ⊢
      rw [List.filterMap_cons, e1]
      exact List.mem_cons_of_mem _ z)
    refine ⟨x1, ⟨L, o, e1, kB L e2, ?_, e4⟩, frames_but k kB hr x3⟩
    rw [k L fun z => hC (by rw [← z]; exact hL)]
    exact e3
/-- the block's names let go -/
theorem xe_but {X : Cx} {W : WX} {u : Value} {s' : Shared} {C : Addr} {m : Str → Option Value} {h' : Heap} (x : XEh X (fun cls d σ H => W cls d σ H ∧ H C = none) u s') (hn : s'.heap.Ns C m) (sb : Heap.SameBut C s'.heap h') (hL : C ≠ X.env.locals)
    (h1 : C ∈ X.ex ∨ X.s_0.heap.objs.size ≤ C) (h2 : ∀ x c, X.env.cells.lookup x = some c → c ≠ C) (h3 : ∀ p ∈ X.pn, p.1 ≠ C) (hC : C ∉ frs X.stack) : XEh X W u { s' with heap := h' } := by
  obtain ⟨a, B, sI, pins, σ, H, cls, d, rfl, I, nb, up, hh, na, os, ag, w, nC⟩ := x
  obtain ⟨q1, q2, q3, oe, vs, T, oT, ts, he, hz, hd, hv, hT, hTa, eT, dT, fT⟩ := hh
  obtain ⟨oC, es, ep, eC, dC, _⟩ := hn
  have aC : a ≠ C := fun z => by
    rw [z, eC] at he
    cases he
    rw [dC] at hd
    cases hd
  have TC : T ≠ C := fun z => by
    rw [z, eC] at eT
    cases eT
    rw [dC] at dT
    cases dT
  obtain ⟨B', b1, b2⟩ := restrict B fun b => decide (b ≠ C)
  obtain ⟨G, g1, g2⟩ := restrict sI.heap fun b => decide (b ≠ C)
  have kB : ∀ b, B.get? b = none → B'.get? b = none := fun b e => by
    by_cases z : b = C
    · exact b2 b (by simp [z])
    · rw [b1 b (by simp [z])]
      exact e
  have offB : ∀ b o, B'.get? b = some o → b ≠ C ∧ B.get? b = some o := fun b o e => by
    by_cases z : b = C
    · rw [b2 b (by simp [z])] at e
      cases e
    · rw [b1 b (by simp [z])] at e
      exact ⟨z, e⟩
  have offG : ∀ b o, G.get? b = some o → b ≠ C ∧ sI.heap.get? b = some o := fun b o e => by
    by_cases z : b = C
    · rw [g2 b (by simp [z])] at e
      cases e
    · rw [g1 b (by simp [z])] at e
      exact ⟨z, e⟩
  have I' : L2.Inv X [] σ H { sI with heap := G, toks := sI.toks } := (show L2.Inv X ([] ++ pins) σ H sI from I).unpinned.turned (fun b o hb e => by rw [g1 b (by simp [hb])]; exact e) nC hL h1 h2 (fun p hp => h3 p (by simpa using hp))
  refine ⟨a, B', _, [], σ, H, cls, d, rfl, I', fun b o e hb => ?_, fun b o e hnf => ?_, ⟨fun b o e => ?_, kB a q2, frames_but sb.2 kB hC q3, oe, vs, T, oT, ts, ?_, hz, hd, hv, kB T hT, hTa, ?_, dT, fT⟩, na, os, ag, w⟩
  · obtain ⟨z, e⟩ := offG b o e
    rw [b1 b (by simp [z])]
    exact nb b o e hb
  · obtain ⟨z, e⟩ := offG b o e
    obtain ⟨sl, e2⟩ := up b o e hnf
    exact ⟨sl, by rw [← e2]; exact sb.2 b z⟩
  · obtain ⟨z, e⟩ := offB b o e
    exact (sb.2 b z).trans (q1 b o e)
  · exact (sb.2 a aC).trans he
  · exact (sb.2 T TC).trans eT
end Mt
namespace Mt
open PySem PySem.Spec PyProof.Rows L2
theorem inv_xe {X : Cx} {pins : List (Addr × Obj)} {σ : L2.St} {H : Hp} {s : Shared} (e : Value → Shared → Prop) (I : L2.Inv X pins σ H s) : L2.Inv { X with xe := e } pins σ H s :=
  ⟨⟨I.ok.mod, I.ok.kind, I.ok.glob, I.ok.blt, I.ok.above, I.ok.inj, I.ok.has, I.ok.cab, I.ok.hd, I.ok.frames, I.ok.stk, I.ok.exf, I.ok.bs, I.ok.bsz, I.ok.noex, I.ok.exfs, I.ok.funs, I.ok.frf⟩, I.os, I.bare, I.base, I.loc, I.cell, I.free, I.freeC, I.pin, I.hok, I.len⟩
/-- a block whose errors are told to xe -/
abbrev blkx (X : Cx) (s : Shared) (H : Hp) (scope : Scope) (cenv : Env) (fp : List Addr) (xe : Value → Shared → Prop) : Cx := { X.blk s H scope cenv fp with xe := xe }
/-- what a callee lets out in Y, by the promise V -/
def PassB (Y : Cx) (V : XK) : Prop := ∀ σ, PassesAt (L2N.CX Y.prog Y.w) Y σ V
theorem p_callB {Y : Cx} {V : XK} {x : Str} {j k : Nat} {ps : List Str} {sp : Sp} {e : Expr} {es : List Expr} {t : TA} {p pos : Pos} (C : CalX Y.prog Y.w Y.K Y.mg Y.base x j ps sp) (hr : Room k Y.A) (tk : PassB Y V) (ha : PA Y (e :: es) t) (hj : j ≤ k := by decide) (hg : Gl Y x := by rfl)
    (hdb : (x == ("__debug__" : Str)) = false := by decide) (he : starEach (e :: es) Y.env = (false, eval e Y.env) :: starEach es Y.env := by rfl) (hpl : (backTo pos (starEach es Y.env)).any (·.1) = false := by rfl) :
    PE Y (.Call (.Name x p) (e :: es) [] pos) (tCallS sp (fun _ => V) t) := by
  obtain ⟨f, fd, F, gm, kp, b⟩ := C.ex
  exact pe_callS F (hr.mono hj) hg gm kp b tk ha hdb he hpl
/-- an error of a call in the block, on its way out -/
theorem blk_out {X : Cx} {W : WX} {pins : List (Addr × Obj)} {σ : L2.St} {H3 : Hp} {s3 : Shared} {scope : Scope} {ce : Env} {fp : List Addr} {Q : Value → Shared → Prop} {acc : Value} {xe : Value → Shared → Prop} (hs : X.stack = X.env :: X.outer) (hf : X.env.frame = some X.env.locals) (tk : L2N.Takes X W)
    (I3 : L2.Inv X pins σ H3 s3) (f3 : ∀ b ∈ fp, FpOk X pins H3 b) (cF : ce.frame = X.env.frame) (fC : FpOk X pins H3 ce.locals) {σ8 : L2.St} {pins8 : List (Addr × Obj)} {H8 : Hp} {s8 s' : Shared} {e : Value} (I8 : L2.Inv (blkx X s3 H3 scope ce fp xe) pins8 σ8 H8 s8)
    (c : L2N.CX X.prog X.w X.stack H8 s8 (fun cls d H => W cls d σ H) e s') : notedBy (model X.prog X.w) X.A ce (fun e s' => BlkEnd (model X.prog X.w) X.A X.xe Q acc ce (.error e) s') e s' := by
  have J : L2.Inv X pins σ H8 s8 := I3.call' (ch := fp) I8.os I8.base I8.hok I8.bare fun b hb => ⟨(f3 b hb).2.2.2.1, (f3 b hb).2.1, (f3 b hb).2.2.2.2.1, (f3 b hb).2.2.2.2.2⟩
  obtain ⟨m, hn, up⟩ : ∃ m, s'.heap.Ns ce.locals m ∧ True := by
    obtain ⟨_, _, sI, _, _, _, _, _, _, I, _, up, _⟩ := L2N.XE.of_call (W := fun _ _ _ _ => True) I8 (fun _ _ _ _ => trivial) c
    obtain ⟨m, hn, _⟩ := I.loc
    exact ⟨m, up.ns hn, trivial⟩
  have c1 : L2N.CX X.prog X.w X.stack H8 s8 (fun cls d H => W cls d σ H ∧ H ce.locals = none) e s' := by
    obtain ⟨a, B, H', cls, d, r, fl, hok, ub, na, os, ag, hE⟩ := c
    obtain ⟨m0, ⟨o, es, ep, eo, _⟩, _⟩ := I8.loc
    exact ⟨a, B, H', cls, d, r, fl, hok, ub, na, os, ag, hE, ub.free _ o eo I8.free⟩
  have x := L2N.XE.of_call (W := fun cls d σ H => W cls d σ H ∧ H ce.locals = none) J (fun _ _ _ h => h) c1
  have hC : ce.locals ∉ frs X.stack := fun z => by
    rw [hs] at z
    unfold frs at z
    rw [List.filterMap_cons, hf] at z
    rcases List.mem_cons.mp z with z | z
    · exact fC.2.1 z
    · exact fC.2.2.1 z
  refine xe_note hs hf cF x fun h1 u1 x1 => ⟨m, u1.ns hn, fun h' sb => xe_pass hf cF tk ?_⟩
  exact xe_but x1 (u1.ns hn) sb fC.2.1 fC.2.2.2.1 fC.2.2.2.2.1 (fun p hp => fC.2.2.2.2.2 p (List.mem_append_left _ hp)) hC
end Mt
namespace Mt
open PySem PySem.Spec PyProof.Rows L2
section
variable {X : Cx} {elt tg iter : Expr} {ifs : List Expr} {scope : Scope} {own : List (Str × Nat)} {pos : Pos} {wi : TI} {g : TG} {tt : TT} {te : XK → TE} {W : WX}
/-- the reading: what the item's calls let out, the def lets out with its own slots -/
def tLcX (W : WX) (wi : TI) (g : TG) (tt : TT) (te : XK → TE) (vs : List Nat) : TE := fun σ H Q => tLc wi g tt (te fun cls d H => W cls d σ H) vs σ H Q
/-- [elt for tg in iter if ..] whose item may raise -/
theorem pe_lcX (hs : X.stack = X.env :: X.outer) (hf : X.env.frame = some X.env.locals) (tk : L2N.Takes X W) (hc : X.calm = true) (hN : X.N.Nodup) (hi : PI X tg iter wi) (ok : BlkOk X.N X.env.scope scope own)
    (hg : ∀ s H C cl fp xe, PG (blkx X s H scope (compEnvC scope cl C X.env) fp xe) tg g) (ht : ∀ s H C cl fp xe, PTs (blkx X s H scope (compEnvC scope cl C X.env) fp xe) ifs tt)
    (he : ∀ s H C cl fp xe (V : XK), PassB (blkx X s H scope (compEnvC scope cl C X.env) fp xe) V → PE (blkx X s H scope (compEnvC scope cl C X.env) fp xe) elt (te V)) (hfs : ∀ x, foldedSetIterable iter X.env x = pure x := by intro _; rfl) :
    PE X (.ListComp elt [⟨tg, iter, ifs, 0⟩] scope pos) (tLcX W wi g tt te (own.map (·.2))) := by
  refine ⟨fun pins s σ H Q I h => ?_⟩
  rw [eval_ListComp]
  have fr : ∀ y ∈ scope.names, y.2 = .free → ∃ c, X.env.cells.lookup y.1 = some c := fun y hy e => (ok.free y hy e).elim (fun k => I.ok.has _ (.inl k)) (fun k => I.ok.has _ (.inr k))
  refine comp_known rfl hfs (closure_ok fr) ok.kind (fun y hy e => by rw [ok.uniq y hy, e]) (thn (hi.run pins s σ H _ I h) fun xv s1 h1 => thn h1 fun itv s2 h2 => ?_)
  obtain ⟨it, fp, tn, J, H2, rfl, I2, T, st2, f2, q⟩ := h2
  refine wpAny_newObj_type (newEnv_comp ?_) (by show 0 ≤ sizeLine; decide)
  -- the list that grows
  have nD : H2 s2.heap.objs.size = none := I2.hok.fresh (Nat.le_refl _)
  obtain ⟨Wv, ⟨m0, w0⟩, turn⟩ := q _ nD
  have I3 : L2.Inv X pins σ (upd H2 s2.heap.objs.size (.lst [])) { s2 with heap := s2.heap.push { cls := .type "list", data := .seq ([] : List Value).toArray } } :=
    I2.laid (t' := s2.toks) (fun b o e => Heap.get?_push_of_some _ e) (Nat.le_refl _) ⟨Nat.zero_le _, [], 0, .nil, Heap.get?_push_size _ rfl⟩
  generalize hD : s2.heap.objs.size = D at nD w0 turn I3 ⊢
  have f3 : ∀ b ∈ fp, FpOk X pins (upd H2 D (.lst [])) b ∧ b < (s2.heap.push { cls := .type "list", data := .seq ([] : List Value).toArray }).objs.size := fun b hb => by
    obtain ⟨o, e, _⟩ := T.obj _ _ st2 b hb
    have lt := Heap.lt_size e
    refine ⟨⟨?_, (f2 b hb).2⟩, by rw [Heap.size_push]; exact Nat.lt_succ_of_lt lt⟩
    rw [upd_ne (by rw [← hD]; exact Nat.ne_of_lt lt)]
    exact (f2 b hb).1
  have st3 : tn 0 (s2.heap.push { cls := .type "list", data := .seq ([] : List Value).toArray }) := T.keep _ _ _ st2 fun b _ o e => Heap.get?_push_of_some _ e
  generalize hS : ({ s2 with heap := s2.heap.push { cls := .type "list", data := .seq ([] : List Value).toArray } } : Shared) = s3 at I3 f3 st3 ⊢
  have hp : s2.heap.push { cls := .type "list", data := .seq ([] : List Value).toArray } = s3.heap := by rw [← hS]
  rw [hp] at f3 st3
  generalize upd H2 D (.lst []) = H3 at I3 f3 w0
  show codeAny _ _ (.compStart (.ListComp elt [⟨tg, iter, ifs, 0⟩] scope pos) 0 (.ref it) (.ref D) (compEnvC scope (cellsFrom (s3.heap.objs.size + 1) scope.names (cloFrom X.env.cells scope.names [])) s3.heap.objs.size X.env))
    (BlkEnd (model X.prog X.w) X.A X.xe (fun v s' => EP X pins σ Q v s') (.ref D) (compEnvC scope (cellsFrom (s3.heap.objs.size + 1) scope.names (cloFrom X.env.cells scope.names [])) s3.heap.objs.size X.env)) { s3 with heap := pushCells (s3.heap.push { cls := .type "dict", data := .dict #[] }) scope.names }
  have I4 := block_start I3 ok hN f3
  have pg := hg s3 H3 s3.heap.objs.size (cellsFrom (s3.heap.objs.size + 1) scope.names (cloFrom X.env.cells scope.names [])) fp
  have pt := ht s3 H3 s3.heap.objs.size (cellsFrom (s3.heap.objs.size + 1) scope.names (cloFrom X.env.cells scope.names [])) fp
  have pe := he s3 H3 s3.heap.objs.size (cellsFrom (s3.heap.objs.size + 1) scope.names (cloFrom X.env.cells scope.names [])) fp
  have cF : (compEnvC scope (cellsFrom (s3.heap.objs.size + 1) scope.names (cloFrom X.env.cells scope.names [])) s3.heap.objs.size X.env).frame = X.env.frame := rfl
  have cL : (compEnvC scope (cellsFrom (s3.heap.objs.size + 1) scope.names (cloFrom X.env.cells scope.names [])) s3.heap.objs.size X.env).locals = s3.heap.objs.size := rfl
  generalize compEnvC scope (cellsFrom (s3.heap.objs.size + 1) scope.names (cloFrom X.env.cells scope.names [])) s3.heap.objs.size X.env = ce at I4 pg pt pe cF cL ⊢
  have fC : FpOk X pins H3 ce.locals := I3.fpOk (by rw [cL]; exact Nat.le_refl _) (by rw [cL]; exact I3.hok.fresh (Nat.le_refl _))
  have st4 : tn 0 (pushCells (s3.heap.push { cls := .type "dict", data := .dict #[] }) scope.names) := T.keep _ _ _ st3 fun b _ o e => pushCells_keeps _ _ _ _ (Heap.get?_push_of_some _ e)
  generalize hx0 : (notedBy (model X.prog X.w) X.A ce fun e s' => BlkEnd (model X.prog X.w) X.A X.xe (fun v s' => EP X pins σ Q v s') (.ref D) ce (.error e) s') = E0
  have pg := pg E0
  have pt := pt E0
  have pe := pe E0 (fun cls d H => W cls d σ H) fun σ8 pins8 H8 s8 e s' I8 c => by
    show E0 e s'
    rw [← hx0]
    exact blk_out hs hf tk I3 (fun b hb => (f3 b hb).1) cF fC I8 c
  have I4 := inv_xe E0 I4
  generalize hs4 : ({ s3 with heap := pushCells (s3.heap.push { cls := .type "dict", data := .dict #[] }) scope.names } : Shared) = s4 at I4 ⊢
  have st4 : tn 0 s4.heap := by rw [← hs4]; exact st4
  have stat : ∀ {σ' : L2.St} {H' : Hp} {s' : Shared}, L2.Inv (blkx X s3 H3 scope ce fp E0) [] σ' H' s' → (∀ b ∈ fp, H' b = none) → ∀ b ∈ fp, FpOk (blkx X s3 H3 scope ce fp E0) [] H' b := fun {σ' H' s'} I' hn b hb =>
    ⟨hn b hb, (I'.ok.exf b hb).1, I'.ok.exfs b hb, .inl hb, fun x c e => (I'.ok.exf b hb).2 x c e, fun p hp => nomatch (show p ∈ ([] : List (Addr × Obj)) from hp)⟩
  have loop : codeAny (model X.prog X.w) X.A (.compLoop (.ListComp elt [⟨tg, iter, ifs, 0⟩] scope pos) 0 (.ref it) (.ref D) ce) (BlkEnd (model X.prog X.w) X.A X.xe (fun v s' => EP X pins σ Q v s') (.ref D) ce) s4 := by
    refine compLoop_any (fun n s' => ∃ i H', L2.Inv (blkx X s3 H3 scope ce fp E0) [] (wipe σ (own.map (·.2))) H' s' ∧ tn i s'.heap ∧ (∀ b ∈ fp, H' b = none) ∧ Wv i n H') ?_ m0 ⟨0, H3, I4, st4, fun b hb => (f3 b hb).1.1, w0⟩
    rw [hx0]
    rintro n s5 ⟨i, H5, I5, st5, n5, w5⟩
    rcases turn i n H5 w5 with ⟨stop, qq⟩ | ⟨go, Nx, hNx, step⟩
    · refine thn (T.done (blkx X s3 H3 scope ce fp E0) rfl rfl rfl hc i [] s5 _ H5 E0 I5 (stat I5 n5) st5 stop) fun r s6 ⟨hr, I6⟩ => ?_
      subst hr
      have I7 : L2.Inv X pins σ H5 s6 := I3.call' (ch := fp) I6.os I6.base I6.hok I6.bare fun b hb => ⟨(f3 b hb).1.2.2.2.1, (f3 b hb).1.2.1, (f3 b hb).1.2.2.2.2.1, (f3 b hb).1.2.2.2.2.2⟩
      obtain ⟨m, hn, _⟩ := I6.loc
      exact ⟨m, hn, fun h' sb => ⟨.ref D, H5, I7.turned (t' := s6.toks) (fun b o hb e => (sb.2 b hb).trans e) I6.free fC.2.1 fC.2.2.2.1 fC.2.2.2.2.1 fC.2.2.2.2.2, rfl, qq⟩⟩
    · refine thn (T.item (blkx X s3 H3 scope ce fp E0) rfl rfl rfl hc i [] s5 _ H5 E0 I5 (stat I5 n5) st5 go) fun r s6 ⟨u, hr, h6⟩ => ?_
      subst hr
      refine thn h6 fun _ s7 ⟨x, H7, I7, r7, y7, st7, n7⟩ => ?_
      refine thn (pg.run _ s7 _ H7 x u _ (I7.pinned (stat I7 n7) (T.obj _ _ st7)) r7 (step x H7 y7)) fun _ s8 ⟨σ8, H8, I8, hw8, q8⟩ => ?_
      refine thn (pt.run _ s8 σ8 H8 _ I8 q8) fun b s9 ⟨H9, I9, q9⟩ => ?_
      have fin : ∀ {s' : Shared} {H' : Hp}, L2.Inv (blkx X s3 H3 scope ce fp E0) ([] ++ pinsAt fp s7.heap) σ8 H' s' → Nx H' → ∃ m, m < n ∧ ∃ i H', L2.Inv (blkx X s3 H3 scope ce fp E0) [] (wipe σ (own.map (·.2))) H' s' ∧ tn i s'.heap ∧ (∀ b ∈ fp, H' b = none) ∧ Wv i m H' := fun {s' H'} I' nx => by
        obtain ⟨m', hm, w'⟩ := hNx H' nx
        have pin' : ∀ b ∈ fp, ∀ o, s7.heap.get? b = some o → s'.heap.get? b = some o ∧ H' b = none := fun b hb o e =>
          ⟨(I'.pin (b, o) (List.mem_append_right _ (List.mem_append_right _ (mem_pinsAt hb e)))).1, (I'.pin (b, o) (List.mem_append_right _ (List.mem_append_right _ (mem_pinsAt hb e)))).2.1⟩
        refine ⟨m', hm, i + 1, H', I'.unpinned.weak (by rw [← hw8, wipe_length]) (fun j v e => ?_), T.keep _ _ _ st7 fun b hb o e => (pin' b hb o e).1, fun b hb => ?_, w'⟩
        · rw [← hw8] at e
          exact (wipe_some e).1
        · obtain ⟨o, e, _⟩ := T.obj _ _ st7 b hb
          exact (pin' b hb o e).2
      cases b with
      | false =>
        simp only [Bool.false_eq_true, if_false] at q9 ⊢
        exact fin I9 q9
      | true =>
        simp only [if_true] at q9 ⊢
        refine thn (pe.run _ s9 σ8 H9 _ I9 q9) fun z s10 ⟨yv, H10, I10, r10, acc, hD10, hz10, nx⟩ => ?_
        exact app_ok (X := blkx X s3 H3 scope ce fp E0) I10 hD10 hz10 r10 fun s11 I11 => fin I11 nx
  exact codeAny_compStart_list loop (T.self X.A 0 _ _ _ st4 loop)
end
end Mt
namespace Mt
open PySem PySem.Spec PyProof.Rows L2 L2H
/-! ### C(x) of the three classes whose errors bear an argument -/
def sp_init (K : PySem.W.Frag) (C : Addr) : Sp := fun vs H Q _ => ∃ (a : Addr) (y : V), vs = [.ref a, y] ∧ H a = some (exo a C none) ∧ ∀ dx, H dx = none → dx ≠ a → Q .non (upd (upd H dx (exd dx [("argument", y)])) a (exo a C (some dx)))
structure ErrK (P : Program) (w : World) (K : PySem.W.Frag) (mg : Str → Option Value) (base : Heap) (x : Str) (C : Addr) : Prop where
  gC : mg x = some (.ref C)
  oex : OexC K C
  noA : PySem.W.findIn K (.ref C) "argument" = some none
  ini : ∃ fI fd, PySem.W.findIn K (.ref C) "__init__" = some (some (.ref fI)) ∧ PySem.W.typeIn K (.ref fI) = some (.type "function") ∧ FnOk P w K mg base CX0 1 fI fd ["self", "argument"] (sp_init K C) ∧ Binds K fd ["self", "argument"] []
theorem p_err {X : Cx} {x : Str} {C : Addr} {k : Nat} {e : Expr} {es : List Expr} {ta : TA} {p pos : Pos} (E : ErrK X.prog X.w X.K X.mg X.base x C) (hr : Room k X.A) (ha : PA X (e :: es) ta) (hj : 2 ≤ k := by decide) (hg : Gl X x := by rfl)
    (hdb : (x == ("__debug__" : Str)) = false := by decide) (he : starEach (e :: es) X.env = (false, eval e X.env) :: starEach es X.env := by rfl) (hpl : (backTo pos (starEach es X.env)).any (·.1) = false := by rfl) :
    L2N.PMk X (.Call (.Name x p) (e :: es) [] pos) (tMkO C (sp_init X.K C) [] ta) := by
  obtain ⟨fI, fd, i1, i2, F, b⟩ := E.ini
  exact pmkN E.oex i1 i2 F (hr.mono hj) b E.gC ha hg hdb he hpl
theorem w_mkO {C : Addr} {sp : Sp} {dvs : List V} {ta : TA} {σ : L2.St} {H : Hp} {Q : XK} : tMkO C sp dvs ta σ H Q = ta σ H fun vs H1 => vs.length ≤ 1000 ∧ ∀ a, H1 a = none → sp (.ref a :: (vs ++ dvs)) (upd H1 a (exo a C none))
  (fun v H2 => v = .non ∧ ∃ (d : Addr) (fs : List (Str × V)), H2 a = some (exo a C (some d)) ∧ H2 d = some (exd d fs) ∧ H1 d = none ∧ Q (.ref C) (some d) (upd (del H2 a) d (.xd fs))) (fun _ _ _ => False) := rfl
theorem u_mkO {K : PySem.W.Frag} {C : Addr} {y : V} {H : Hp} {Q : XK} (q : ∀ d, H d = none → Q (.ref C) (some d) (upd H d (.xd [("argument", y)]))) (a : Addr) (ha : H a = none) : sp_init K C [.ref a, y] (upd H a (exo a C none))
  (fun v H2 => v = .non ∧ ∃ (d : Addr) (fs : List (Str × V)), H2 a = some (exo a C (some d)) ∧ H2 d = some (exd d fs) ∧ H d = none ∧ Q (.ref C) (some d) (upd (del H2 a) d (.xd fs))) (fun _ _ _ => False) := by
  refine ⟨a, y, rfl, upd_same, fun dx hdx hne => ⟨rfl, dx, [("argument", y)], upd_same, ?_, ?_, ?_⟩⟩
  · rw [upd_ne hne, upd_same]
  · rw [upd_ne hne] at hdx
    exact hdx
  · rw [upd_ne hne] at hdx
    have e : upd (del (upd (upd (upd H a (exo a C none)) dx (exd dx [("argument", y)])) a (exo a C (some dx))) a) dx (.xd [("argument", y)]) = upd H dx (.xd [("argument", y)]) := by
      funext b
      by_cases h1 : b = dx
      · rw [h1, upd_same, upd_same]
      · rw [upd_ne h1, upd_ne h1]
        by_cases h2 : b = a
        · rw [h2, del_same, ha]
        · rw [del_ne h2, upd_ne h2, upd_ne h1, upd_ne h2]
    rw [e]
    exact q dx hdx
structure Ad where
  (bn bs be bt tl cl ni nm en me : Addr)
/-- which of the classes an error of the class at C is of: one of the first three -/
structure Kinds (K : PySem.W.Frag) (A : Ad) (C : Addr) (b1 b2 b3 : Bool) : Prop where
  bn : PySem.W.kitOne K (.ref C) (.ref A.bn) = some b1
  bs : PySem.W.kitOne K (.ref C) (.ref A.bs) = some b2
  be : PySem.W.kitOne K (.ref C) (.ref A.be) = some b3
  bt : PySem.W.kitOne K (.ref C) (.ref A.bt) = some false
  tl : PySem.W.kitOne K (.ref C) (.ref A.tl) = some false
  cl : PySem.W.kitOne K (.ref C) (.ref A.cl) = some false
  ni : PySem.W.kitOne K (.ref C) (.ref A.ni) = some false
  nm : PySem.W.kitOne K (.ref C) (.ref A.nm) = some false
  en : PySem.W.kitOne K (.ref C) (.ref A.en) = some false
  me : PySem.W.kitOne K (.ref C) (.ref A.me) = some true
  ve : PySem.W.kitOne K (.ref C) (.type "ValueError") = some true
theorem stok_new {G : Hp} {p : Addr} {t : Sto} {o : HO} (hp : G p = none) (ok : StOk G t) : StOk (upd G p o) t := ⟨same_new hp _ _ ok.at_, ok.i0, ok.il, ok.g0, ok.gi⟩
theorem stok_same {G G' : Hp} {t : Sto} (s : Same G G') (ok : StOk G t) : StOk G' t := ⟨s _ _ ok.at_, ok.i0, ok.il, ok.g0, ok.gi⟩
def wholeB : V → Int → Int → Bool
  | .int i, lo, hi => decide (lo ≤ i) && decide (i ≤ hi)
  | _, _, _ => false
theorem takesN {X : Cx} : L2N.Takes X (fun _ _ _ _ => False) := fun _ _ x => by
  obtain ⟨_, _, _, _, _, _, _, _, _, _, _, _, _, _, _, _, z⟩ := x
  exact z.elim
/-- f(error) in the suite: the error at a, its class cls, its dict d -/
def tCallE (a : Addr) (cls : Value) (d : Option Addr) (sp : Addr × Obj → Sp) (t : TA) : TE := fun σ H Q => ∃ C dd, cls = .ref C ∧ d = some dd ∧ t σ H fun vs H1 => ∀ oe, ErrAt (a, oe) C dd → sp (a, oe) vs H1 Q E0
theorem p_callS {X : Cx} {a : Addr} {oe : Obj} {cls : Value} {d : Option Addr} {pn : List (Addr × Obj)} {x : Str} {j k : Nat} {ps : List Str} {sp : Addr × Obj → Sp} {e : Expr} {es : List Expr} {t : TA} {q pos : Pos} (C : CalE X.prog X.w X.K X.mg X.base x j ps sp) (hr : Room k X.A)
    (hz : L2N.Zn cls d oe) (hf : ∃ vs, oe.data = .fields vs) (ha : PA (X.suite a ((a, oe) :: pn)) (e :: es) t) (hj : j ≤ k := by decide) (hg : Gl (X.suite a ((a, oe) :: pn)) x := by rfl)
    (hdb : (x == ("__debug__" : Str)) = false := by decide) (he : starEach (e :: es) X.env = (false, eval e X.env) :: starEach es X.env := by rfl) (hpl : (backTo pos (starEach es X.env)).any (·.1) = false := by rfl) :
    PE (X.suite a ((a, oe) :: pn)) (.Call (.Name x q) (e :: es) [] pos) (tCallE a cls d sp t) := by
  obtain ⟨vs, hv⟩ := hf
  refine ⟨fun pins s σ H Q I h => ?_⟩
  obtain ⟨C', dd, rfl, rfl, h⟩ := h
  obtain ⟨f, fd, F, gm, kp, b⟩ := C.ex
  have hot : Hot1 (X.suite a ((a, oe) :: pn)).A (a, oe) := ⟨rfl, vs, hv, hz.2.2 vs hv⟩
  have hp : (a, oe) ∈ (X.suite a ((a, oe) :: pn)).pn := List.mem_cons_self ..
  refine wpAny_Call_Name_kw (ld_glob I hg gm (PySem.W.callWith_K (h₀ := X.base) I.ok.mod.kin kp (thn (ha.run pos pins s σ H _ I h) fun us s1 ⟨ws, H1, I1, r, hq⟩ => ⟨I1.kIn, ?_⟩) he hpl) hdb)
  have hq := hq oe ⟨hz, vs, hv⟩
  have hl : us.length = ps.length := by
    rw [← r.length]
    exact F.len _ _ _ _ _ hq
  have b1 := b s1 us I1.kIn (by rw [List.append_nil]; exact hl)
  rw [List.append_nil] at b1
  have P1 := I1.pin (a, oe) (List.mem_append_left _ hp)
  have pin : PinOk (X.suite a ((a, oe) :: pn)).stack H1 s1 (a, oe) := ⟨P1.1, P1.2.1, fun hm => (List.mem_cons.mp (I1.stkSub a hm)).elim P1.2.2.1 P1.2.2.2.1, P1.2.2.2.2⟩
  refine wpAny_call (codeAny_mono (F.run (a, oe) (X.suite a ((a, oe) :: pn)).A (X.suite a ((a, oe) :: pn)).stack s1 H1 ⟨us, []⟩ us ws Q E0 ⟨(hr.mono hj).dp, (hr.mono hj).un⟩ hot pin I1.env0 b1 r hq) fun r' s' hr' => ?_)
  cases r' with
  | error e => exact False.elim hr'
  | ok fl =>
    cases fl with
    | ret u => exact I1.after hr'
    | _ => exact False.elim hr'
theorem w_callE {a : Addr} {C dd : Addr} {sp : Addr × Obj → Sp} {t : TA} {σ : L2.St} {H : Hp} {Q : VK} : tCallE a (.ref C) (some dd) sp t σ H Q = t σ H fun vs H1 => ∀ oe, ErrAt (a, oe) C dd → sp (a, oe) vs H1 Q E0 := by
  refine propext ⟨fun ⟨C', d', e1, e2, q⟩ => ?_, fun q => ⟨C, dd, rfl, rfl, q⟩⟩
  cases e1
  cases e2
  exact q
end Mt
/-! ### plain data over a heap that grows, lists of one's own, the store -/
namespace Mt
open PySem PySem.Spec PyProof.Rows L2 L2H
inductive T where
  | non | bl (b : Bool) | int (i : Int) | str (x : Str) | ty (n : String) | lst (ds : List T) | tup (ds : List T) | obj (C : Addr) (ns : List Str) (ds : List T) | sto
mutual
def Rp (s : Option Addr) (P : Hp) : T → V → Prop
  | .non, v => v = .non
  | .bl b, v => v = .bl b
  | .int i, v => v = .int i
  | .str x, v => v = .str x
  | .ty n, v => v = .ty n
  | .lst ds, v => ∃ a vs, v = .ref a ∧ P a = some (.lst vs) ∧ Rps s P ds vs ∧ ds.length < 1000000
  | .tup ds, v => ∃ a vs, v = .ref a ∧ P a = some (.tup vs) ∧ Rps s P ds vs ∧ ds.length < 1000000
  | .obj C ns ds, v => ∃ a dx vs, v = .ref a ∧ P a = some (.ins C dx (ns.zip vs)) ∧ Rps s P ds vs ∧ ns.length = ds.length
  | .sto, v => ∃ a, s = some a ∧ v = .ref a
def Rps (s : Option Addr) (P : Hp) : List T → List V → Prop
  | [], vs => vs = []
  | d :: ds, vs => ∃ v r, vs = v :: r ∧ Rp s P d v ∧ Rps s P ds r
end
mutual
theorem rp_same {s : Option Addr} {P P' : Hp} (h : Same P P') : ∀ (d : T) (v : V), Rp s P d v → Rp s P' d v
  | .non, v, r => by simpa only [Rp] using r
  | .bl b, v, r => by simpa only [Rp] using r
  | .int b, v, r => by simpa only [Rp] using r
  | .str b, v, r => by simpa only [Rp] using r
  | .ty b, v, r => by simpa only [Rp] using r
  | .sto, v, r => by simpa only [Rp] using r
  | .obj C ns ds, v, r => by
    simp only [Rp] at r ⊢
    obtain ⟨a, dx, vs, e1, e2, e3, e4⟩ := r
    exact ⟨a, dx, vs, e1, h _ _ e2, rps_same h ds vs e3, e4⟩
  | .lst ds, v, r => by
    simp only [Rp] at r ⊢
    obtain ⟨a, vs, e1, e2, e3, e4⟩ := r
    exact ⟨a, vs, e1, h _ _ e2, rps_same h ds vs e3, e4⟩
  | .tup ds, v, r => by
    simp only [Rp] at r ⊢
    obtain ⟨a, vs, e1, e2, e3, e4⟩ := r
    exact ⟨a, vs, e1, h _ _ e2, rps_same h ds vs e3, e4⟩
theorem rps_same {s : Option Addr} {P P' : Hp} (h : Same P P') : ∀ (ds : List T) (vs : List V), Rps s P ds vs → Rps s P' ds vs
  | [], vs, r => by simpa only [Rps] using r
  | d :: ds, vs, r => by
    simp only [Rps] at r ⊢
    obtain ⟨v, q, e1, e2, e3⟩ := r
    exact ⟨v, q, e1, rp_same h d v e2, rps_same h ds q e3⟩
end
theorem rps_nil {s : Option Addr} {P : Hp} : Rps s P [] [] := by simp [Rps]
theorem rps_cons {s : Option Addr} {P : Hp} {d : T} {ds : List T} {v : V} {vs : List V} (h : Rp s P d v) (g : Rps s P ds vs) : Rps s P (d :: ds) (v :: vs) := by
  simp only [Rps]
  exact ⟨v, vs, rfl, h, g⟩
theorem rps_len {s : Option Addr} {P : Hp} : ∀ {ds : List T} {vs : List V}, Rps s P ds vs → vs.length = ds.length
  | [], vs, h => by
    simp only [Rps] at h
    rw [h]
    rfl
  | d :: ds, vs, h => by
    simp only [Rps] at h
    obtain ⟨v, r, e1, e2, e3⟩ := h
    rw [e1, List.length_cons, List.length_cons, rps_len e3]
theorem rps_at {s : Option Addr} {P : Hp} : ∀ {ds : List T} {vs : List V} {i : Nat} {d : T}, Rps s P ds vs → ds[i]? = some d → ∃ v, vs[i]? = some v ∧ Rp s P d v
  | [], vs, i, d, h, e => by simp at e
  | d0 :: ds, vs, 0, d, h, e => by
    simp only [Rps] at h
    obtain ⟨v, r, e1, e2, e3⟩ := h
    have e' : d0 = d := Option.some.inj e
    subst e' e1
    exact ⟨v, rfl, e2⟩
  | d0 :: ds, vs, i + 1, d, h, e => by
    simp only [Rps] at h
    obtain ⟨v, r, e1, e2, e3⟩ := h
    subst e1
    exact rps_at (i := i) e3 e
theorem rps_snoc {s : Option Addr} {P : Hp} : ∀ {ds : List T} {vs : List V} {d : T} {v : V}, Rps s P ds vs → Rp s P d v → Rps s P (ds ++ [d]) (vs ++ [v])
  | [], vs, d, v, h, g => by
    simp only [Rps] at h
    subst h
    exact rps_cons g rps_nil
  | d0 :: ds, vs, d, v, h, g => by
    simp only [Rps] at h
    obtain ⟨v0, r, rfl, e2, e3⟩ := h
    exact rps_cons e2 (rps_snoc e3 g)
theorem rps_app {s : Option Addr} {P : Hp} : ∀ {ds : List T} {vs : List V} {es : List T} {ws : List V}, Rps s P ds vs → Rps s P es ws → Rps s P (ds ++ es) (vs ++ ws)
  | [], vs, es, ws, h, g => by
    simp only [Rps] at h
    subst h
    exact g
  | d0 :: ds, vs, es, ws, h, g => by
    simp only [Rps] at h
    obtain ⟨v0, r, rfl, e2, e3⟩ := h
    exact rps_cons e2 (rps_app e3 g)
theorem rps_of {s : Option Addr} {P : Hp} : ∀ {ds : List T} {vs : List V}, ds.length = vs.length → (∀ (i : Nat) (d : T) (v : V), ds[i]? = some d → vs[i]? = some v → Rp s P d v) → Rps s P ds vs
  | [], [], _, _ => rps_nil
  | [], _ :: _, h, _ => nomatch h
  | _ :: _, [], h, _ => nomatch h
  | d :: ds, v :: vs, h, g => rps_cons (g 0 d v rfl rfl) (rps_of (Nat.succ.inj h) fun i e w h1 h2 => g (i + 1) e w h1 h2)
theorem rps_set {s : Option Addr} {P : Hp} : ∀ {ds : List T} {vs : List V} {d : T} {v : V} {i : Nat}, Rps s P ds vs → Rp s P d v → Rps s P (ds.set i d) (vs.set i v)
  | [], vs, d, v, i, h, g => by
    simp only [Rps] at h
    subst h
    exact rps_nil
  | d0 :: ds, vs, d, v, 0, h, g => by
    simp only [Rps] at h
    obtain ⟨v0, r, rfl, e2, e3⟩ := h
    exact rps_cons g e3
  | d0 :: ds, vs, d, v, i + 1, h, g => by
    simp only [Rps] at h
    obtain ⟨v0, r, rfl, e2, e3⟩ := h
    exact rps_cons e2 (rps_set (i := i) e3 g)
theorem rps_take {s : Option Addr} {P : Hp} : ∀ {ds : List T} {vs : List V} (n : Nat), Rps s P ds vs → Rps s P (ds.take n) (vs.take n)
  | ds, vs, 0, h => by
    rw [List.take_zero, List.take_zero]
    exact rps_nil
  | [], vs, n + 1, h => by
    simp only [Rps] at h
    subst h
    exact rps_nil
  | d0 :: ds, vs, n + 1, h => by
    simp only [Rps] at h
    obtain ⟨v0, r, rfl, e2, e3⟩ := h
    exact rps_cons e2 (rps_take n e3)
theorem rps_drop {s : Option Addr} {P : Hp} : ∀ {ds : List T} {vs : List V} (n : Nat), Rps s P ds vs → Rps s P (ds.drop n) (vs.drop n)
  | ds, vs, 0, h => h
  | [], vs, n + 1, h => by
    simp only [Rps] at h
    subst h
    exact rps_nil
  | d0 :: ds, vs, n + 1, h => by
    simp only [Rps] at h
    obtain ⟨v0, r, rfl, e2, e3⟩ := h
    exact rps_drop n e3
theorem rps_rev {s : Option Addr} {P : Hp} : ∀ {ds : List T} {vs : List V}, Rps s P ds vs → Rps s P ds.reverse vs.reverse
  | [], vs, h => by
    simp only [Rps] at h
    subst h
    exact rps_nil
  | d0 :: ds, vs, h => by
    simp only [Rps] at h
    obtain ⟨v0, r, rfl, e2, e3⟩ := h
    rw [List.reverse_cons, List.reverse_cons]
    exact rps_snoc (rps_rev e3) e2
theorem rps_ints {s : Option Addr} {P : Hp} : ∀ ns : List Int, Rps s P (ns.map T.int) (ns.map V.int)
  | [] => rps_nil
  | n :: ns => rps_cons (by simp [Rp]) (rps_ints ns)
/-- an item by its place, from either end -/
theorem rps_atI {s : Option Addr} {P : Hp} {ds : List T} {vs : List V} {i : Int} {d : T} (h : Rps s P ds vs) (e : atI ds i = some d) : ∃ v, atI vs i = some v ∧ Rp s P d v := by
  unfold atI at e ⊢
  rw [rps_len h]
  cases q : ixN ds.length i with
  | none => rw [q] at e; cases e
  | some j =>
    rw [q] at e
    exact rps_at h e
/-! ### the heap -/
structure WF (s : Option Addr) (P H : Hp) : Prop where
  sub : Same P H
  sto : ∀ a, s = some a → P a = none ∧ ∃ t, StOk P t ∧ H a = some (.lst (stV t))
structure Ext (s : Option Addr) (P H P' H' : Hp) : Prop where
  wf : WF s P' H'
  sub : Same P P'
  keep : ∀ a o, s ≠ some a → H a = some o → H' a = some o
  new : ∀ a, P a = none → P' a ≠ none → H a = none
theorem Ext.refl {s : Option Addr} {P H : Hp} (w : WF s P H) : Ext s P H P H := ⟨w, Same.refl _, fun _ _ _ h => h, fun a h g => absurd h g⟩
theorem Ext.trans {s : Option Addr} {P H P1 H1 P2 H2 : Hp} (a : Ext s P H P1 H1) (b : Ext s P1 H1 P2 H2) : Ext s P H P2 H2 := by
  refine ⟨b.wf, a.sub.trans b.sub, fun c o hs h => b.keep c o hs (a.keep c o hs h), fun c h g => ?_⟩
  cases e : P1 c with
  | some o => exact a.new c h (by rw [e]; exact fun z => nomatch z)
  | none =>
    have h1 := b.new c e g
    by_cases hs : s = some c
    · exact absurd (b.wf.sto c hs).1 g
    · cases e2 : H c with
      | none => rfl
      | some o =>
        rw [a.keep c o hs e2] at h1
        cases h1
/-- a new object of data -/
theorem ext_new {s : Option Addr} {P H : Hp} {p : Addr} {o : HO} (w : WF s P H) (hp : H p = none) : Ext s P H (upd P p o) (upd H p o) := by
  have pp : P p = none := w.sub.free hp
  refine ⟨⟨fun b x e => ?_, fun a ha => ?_⟩, same_new pp, fun a x _ e => ?_, fun a h g => ?_⟩
  · by_cases z : b = p
    · subst z
      rw [upd_same] at e ⊢
      exact e
    · rw [upd_ne z] at e ⊢
      exact w.sub _ _ e
  · obtain ⟨h1, t, h2, h3⟩ := w.sto a ha
    have z : a ≠ p := fun z => by
      rw [z, hp] at h3
      cases h3
    exact ⟨by rw [upd_ne z]; exact h1, t, stok_same (same_new pp) h2, by rw [upd_ne z]; exact h3⟩
  · have z : a ≠ p := fun z => by
      rw [z, hp] at e
      cases e
    rw [upd_ne z]
    exact e
  · by_cases z : a = p
    · rw [z]
      exact hp
    · rw [upd_ne z] at g
      exact absurd h g
/-- a new object of one's own -/
theorem ext_own {s : Option Addr} {P H : Hp} {p : Addr} {o : HO} (w : WF s P H) (hp : H p = none) : Ext s P H P (upd H p o) := by
  have ne : ∀ {b x}, H b = some x → b ≠ p := fun {b x} e z => by
    rw [z, hp] at e
    cases e
  refine ⟨⟨fun b x e => ?_, fun a ha => ?_⟩, Same.refl _, fun a x _ e => ?_, fun a h g => absurd h g⟩
  · rw [upd_ne (ne (w.sub _ _ e))]
    exact w.sub _ _ e
  · obtain ⟨h1, t, h2, h3⟩ := w.sto a ha
    exact ⟨h1, t, h2, by rw [upd_ne (ne h3)]; exact h3⟩
  · rw [upd_ne (ne e)]
    exact e
inductive Sl where
  | d (x : T) | own (ds : List T) | ob (z C : Addr) (ns : List Str) (ds : List T)
def Sl.mine : Sl → Bool
  | .d _ => false
  | _ => true
abbrev Env := List (Option Sl)
def SlOk (s : Option Addr) (H0 P H : Hp) (a : Addr) (w : Option (Option V)) : Sl → Prop
  | .d t => ∃ v, w = some (some v) ∧ Rp s P t v
  | .own ds => w = some (some (.ref a)) ∧ P a = none ∧ H0 a = none ∧ s ≠ some a ∧ ∃ vs, H a = some (.lst vs) ∧ Rps s P ds vs ∧ ds.length < 1000000
  | .ob z C ns ds => w = some (some (.ref a)) ∧ P a = none ∧ H0 a = none ∧ s ≠ some a ∧ ∃ dx vs, H a = some (.ins C dx (ns.zip vs)) ∧ Rps s P ds vs ∧ ns.length = ds.length ∧ a = z
/-- what is told of an own slot's address -/
theorem slok_mine {s : Option Addr} {H0 P H : Hp} {a : Addr} {w : Option (Option V)} : ∀ {x : Sl}, x.mine = true → SlOk s H0 P H a w x → w = some (some (.ref a)) ∧ P a = none ∧ H0 a = none ∧ s ≠ some a ∧ ∃ o, H a = some o
  | .own ds, _, ⟨h1, h2, h3, h4, vs, h5, h6, h7⟩ => ⟨h1, h2, h3, h4, _, h5⟩
  | .ob z C ns ds, _, ⟨h1, h2, h3, h4, dx, vs, h5, h6, h7⟩ => ⟨h1, h2, h3, h4, _, h5⟩
def IsOwn (env : Env) (i : Nat) : Prop := ∃ x, env[i]? = some (some x) ∧ x.mine = true
structure Rel (s : Option Addr) (H0 P : Hp) (σ : L2.St) (H : Hp) (env : Env) : Prop where
  wf : WF s P H
  len : σ.length = env.length
  ex : ∃ ad : Nat → Addr, (∀ i j, IsOwn env i → IsOwn env j → ad i = ad j → i = j) ∧ ∀ i x, env[i]? = some (some x) → SlOk s H0 P H (ad i) (σ[i]?) x
theorem slok_ext {s : Option Addr} {H0 P H P' H' : Hp} {a : Addr} {w : Option (Option V)} {x : Sl} (e : Ext s P H P' H') (h : SlOk s H0 P H a w x) : SlOk s H0 P' H' a w x := by
  cases x with
  | d t =>
    obtain ⟨v, h1, h2⟩ := h
    exact ⟨v, h1, rp_same e.sub _ _ h2⟩
  | own ds =>
    obtain ⟨h1, h2, h3, h4, vs, h5, h6, h7⟩ := h
    refine ⟨h1, ?_, h3, h4, vs, e.keep _ _ h4 h5, rps_same e.sub _ _ h6, h7⟩
    cases q : P' a with
    | none => rfl
    | some o =>
      have := e.new a h2 (by rw [q]; exact fun z => nomatch z)
      rw [h5] at this
      cases this
  | ob z C ns ds =>
    obtain ⟨h1, h2, h3, h4, dx, vs, h5, h6, h7⟩ := h
    refine ⟨h1, ?_, h3, h4, dx, vs, e.keep _ _ h4 h5, rps_same e.sub _ _ h6, h7⟩
    cases q : P' a with
    | none => rfl
    | some o =>
      have := e.new a h2 (by rw [q]; exact fun z => nomatch z)
      rw [h5] at this
      cases this
theorem Rel.ext {s : Option Addr} {H0 P H P' H' : Hp} {σ : L2.St} {env : Env} (r : Rel s H0 P σ H env) (e : Ext s P H P' H') : Rel s H0 P' σ H' env := by
  obtain ⟨ad, h1, h2⟩ := r.ex
  exact ⟨e.wf, r.len, ad, h1, fun i x hx => slok_ext e (h2 i x hx)⟩
theorem Rel.data {s : Option Addr} {H0 P H : Hp} {σ : L2.St} {env : Env} {i : Nat} {t : T} (r : Rel s H0 P σ H env) (h : env[i]? = some (some (.d t))) : ∃ v, σ[i]? = some (some v) ∧ Rp s P t v := by
  obtain ⟨ad, h1, h2⟩ := r.ex
  exact h2 i _ h
/-- a slot is given data -/
theorem Rel.put {s : Option Addr} {H0 P H : Hp} {σ : L2.St} {env : Env} {i : Nat} {t : T} {v : V} (r : Rel s H0 P σ H env) (h : Rp s P t v) : Rel s H0 P (σ.set i (some v)) H (env.set i (some (.d t))) := by
  obtain ⟨ad, h1, h2⟩ := r.ex
  have ow : ∀ {j}, IsOwn (env.set i (some (.d t))) j → IsOwn env j := fun {j} ⟨ds, e, m⟩ => by
    rw [List.getElem?_set] at e
    split at e
    · split at e
      · cases e
        cases m
      · cases e
    · exact ⟨ds, e, m⟩
  refine ⟨r.wf, by rw [List.length_set, List.length_set]; exact r.len, ad, fun j k hj hk => h1 j k (ow hj) (ow hk), fun j x e => ?_⟩
  rw [List.getElem?_set] at e ⊢
  by_cases z : i = j
  · subst z
    rw [if_pos rfl] at e ⊢
    by_cases l : i < env.length
    · rw [if_pos l] at e
      cases e
      rw [if_pos (by rw [r.len]; exact l)]
      exact ⟨v, rfl, h⟩
    · rw [if_neg l] at e
      cases e
  · rw [if_neg z] at e ⊢
    exact h2 j x e
/-- a slot is emptied -/
theorem Rel.drop {s : Option Addr} {H0 P H : Hp} {σ : L2.St} {env : Env} {i : Nat} {w : Option V} (r : Rel s H0 P σ H env) : Rel s H0 P (σ.set i w) H (env.set i none) := by
  obtain ⟨ad, h1, h2⟩ := r.ex
  have ow : ∀ {j}, IsOwn (env.set i none) j → IsOwn env j := fun {j} ⟨ds, e, m⟩ => by
    rw [List.getElem?_set] at e
    split at e
    · split at e
      · cases e
      · cases e
    · exact ⟨ds, e, m⟩
  refine ⟨r.wf, by rw [List.length_set, List.length_set]; exact r.len, ad, fun j k hj hk => h1 j k (ow hj) (ow hk), fun j x e => ?_⟩
  rw [List.getElem?_set] at e ⊢
  by_cases z : i = j
  · subst z
    rw [if_pos rfl] at e
    split at e
    · cases e
    · cases e
  · rw [if_neg z] at e ⊢
    exact h2 j x e
/-- a slot is given a new list of one's own -/
theorem Rel.putOwn {s : Option Addr} {H0 P H : Hp} {σ : L2.St} {env : Env} {i : Nat} {ds : List T} {vs : List V} {p : Addr} (r : Rel s H0 P σ H env) (hp : H p = none) (h0 : H0 p = none) (h : Rps s P ds vs) (hl : ds.length < 1000000) : Rel s H0 P (σ.set i (some (.ref p))) (upd H p (.lst vs)) (env.set i (some (.own ds))) := by
  obtain ⟨ad, h1, h2⟩ := r.ex
  have e0 : Ext s P H P (upd H p (.lst vs)) := ext_own r.wf hp
  have isp : s ≠ some p := fun z => by
    obtain ⟨_, t, _, h3⟩ := r.wf.sto p z
    rw [hp] at h3
    cases h3
  have anp : ∀ {j}, IsOwn env j → ad j ≠ p := fun {j} ⟨es, e, m⟩ z => by
    obtain ⟨_, _, _, _, ws, h5⟩ := slok_mine m (h2 j _ e)
    rw [z, hp] at h5
    cases h5
  have ow : ∀ {j}, j ≠ i → IsOwn (env.set i (some (.own ds))) j → IsOwn env j := fun {j} n ⟨ds, e, m⟩ => by
    rw [List.getElem?_set_ne (Ne.symm n)] at e
    exact ⟨_, e, m⟩
  refine ⟨e0.wf, by rw [List.length_set, List.length_set]; exact r.len, fun j => if j = i then p else ad j, fun j k hj hk e => ?_, fun j x e => ?_⟩
  · have e : (if j = i then p else ad j) = (if k = i then p else ad k) := e
    by_cases zj : j = i
    · by_cases zk : k = i
      · rw [zj, zk]
      · rw [if_pos zj, if_neg zk] at e
        exact absurd e.symm (anp (ow zk hk))
    · by_cases zk : k = i
      · rw [if_neg zj, if_pos zk] at e
        exact absurd e (anp (ow zj hj))
      · rw [if_neg zj, if_neg zk] at e
        exact h1 j k (ow zj hj) (ow zk hk) e
  · show SlOk _ _ _ _ (if j = i then p else ad j) _ _
    by_cases z : j = i
    · subst z
      rw [if_pos rfl]
      by_cases l : j < env.length
      · rw [List.getElem?_set_self (by omega)] at e
        cases e
        rw [List.getElem?_set_self (by rw [r.len]; exact l)]
        exact ⟨rfl, r.wf.sub.free hp, h0, isp, vs, upd_same, h, hl⟩
      · rw [List.getElem?_eq_none (by rw [List.length_set]; omega)] at e
        cases e
    · rw [if_neg z]
      rw [List.getElem?_set_ne (Ne.symm z)] at e ⊢
      exact slok_ext e0 (h2 j x e)
theorem Rel.own {s : Option Addr} {H0 P H : Hp} {σ : L2.St} {env : Env} {i : Nat} {ds : List T} (r : Rel s H0 P σ H env) (h : env[i]? = some (some (.own ds))) : ∃ a vs, σ[i]? = some (some (.ref a)) ∧ P a = none ∧ H0 a = none ∧ s ≠ some a ∧ H a = some (.lst vs) ∧ Rps s P ds vs ∧ ds.length < 1000000 := by
  obtain ⟨ad, h1, h2⟩ := r.ex
  obtain ⟨a, b, c, d, vs, e, f, g⟩ := h2 i _ h
  exact ⟨_, vs, a, b, c, d, e, f, g⟩
/-- one's own thing is changed -/
theorem Rel.changeO {s : Option Addr} {H0 P H : Hp} {σ : L2.St} {env : Env} {i : Nat} {x y : Sl} {o : HO} {a : Addr} (r : Rel s H0 P σ H env) (h : env[i]? = some (some x)) (m : x.mine = true) (my : y.mine = true) (ha : σ[i]? = some (some (.ref a)))
    (hy : ∀ w, P a = none → H0 a = none → s ≠ some a → w = some (some (.ref a)) → SlOk s H0 P (upd H a o) a w y) :
    Rel s H0 P σ (upd H a o) (env.set i (some y)) := by
  obtain ⟨ad, h1, h2⟩ := r.ex
  obtain ⟨q1, q2, q3, q4, o5, q5⟩ := slok_mine m (h2 i _ h)
  have ea : ad i = a := by
    rw [q1] at ha
    cases ha
    rfl
  rw [ea] at q2 q3 q4 q5
  have il : i < env.length := (List.getElem?_eq_some_iff.mp h).1
  have ow : ∀ {j}, IsOwn (env.set i (some y)) j → IsOwn env j := fun {j} ⟨fs, e, mm⟩ => by
    by_cases z : j = i
    · rw [z]
      exact ⟨x, h, m⟩
    · rw [List.getElem?_set_ne (Ne.symm z)] at e
      exact ⟨_, e, mm⟩
  have nP : ∀ {b o}, P b = some o → b ≠ a := fun {b o} e z => by
    rw [z, q2] at e
    cases e
  refine ⟨⟨fun b x e => ?_, fun b hb => ?_⟩, by rw [List.length_set]; exact r.len, ad, fun j k hj hk => h1 j k (ow hj) (ow hk), fun j x' e => ?_⟩
  · rw [upd_ne (nP e)]
    exact r.wf.sub _ _ e
  · obtain ⟨g1, t, g2, g3⟩ := r.wf.sto b hb
    refine ⟨g1, t, g2, ?_⟩
    rw [upd_ne (fun z => q4 (by rw [hb, z]))]
    exact g3
  · by_cases z : j = i
    · subst z
      rw [List.getElem?_set_self il] at e
      cases e
      rw [ea]
      exact hy _ q2 q3 q4 ha
    · rw [List.getElem?_set_ne (Ne.symm z)] at e
      have g := h2 j x' e
      cases x' with
      | d t => exact g
      | own fs =>
        obtain ⟨p1, p2, p3, p4, us, p5, p6, p7⟩ := g
        refine ⟨p1, p2, p3, p4, us, ?_, p6, p7⟩
        rw [upd_ne (fun zz => z (h1 j i ⟨_, e, rfl⟩ ⟨_, h, m⟩ (by rw [zz, ea])))]
        exact p5
      | ob z' C ns fs =>
        obtain ⟨p1, p2, p3, p4, dx, us, p5, p6, p7⟩ := g
        refine ⟨p1, p2, p3, p4, dx, us, ?_, p6, p7⟩
        rw [upd_ne (fun zz => z (h1 j i ⟨_, e, rfl⟩ ⟨_, h, m⟩ (by rw [zz, ea])))]
        exact p5
/-- one's own list is changed -/
theorem Rel.change {s : Option Addr} {H0 P H : Hp} {σ : L2.St} {env : Env} {i : Nat} {ds es : List T} {ws : List V} {a : Addr} (r : Rel s H0 P σ H env) (h : env[i]? = some (some (.own ds))) (ha : σ[i]? = some (some (.ref a))) (hw : Rps s P es ws) (hl : es.length < 1000000) :
    Rel s H0 P σ (upd H a (.lst ws)) (env.set i (some (.own es))) :=
  r.changeO h rfl rfl ha fun w q2 q3 q4 e => ⟨e, q2, q3, q4, ws, upd_same, hw, hl⟩
/-- one's own object is changed -/
theorem Rel.changeB {s : Option Addr} {H0 P H : Hp} {σ : L2.St} {env : Env} {i : Nat} {C C' dx : Addr} {ns ms : List Str} {ds es : List T} {ws : List V} {a : Addr} (r : Rel s H0 P σ H env) (h : env[i]? = some (some (.ob a C ns ds))) (ha : σ[i]? = some (some (.ref a))) (hw : Rps s P es ws) (hl : ms.length = es.length) :
    Rel s H0 P σ (upd H a (.ins C' dx (ms.zip ws))) (env.set i (some (.ob a C' ms es))) :=
  r.changeO h rfl rfl ha fun w q2 q3 q4 e => ⟨e, q2, q3, q4, dx, ws, upd_same, hw, hl, rfl⟩
theorem Rel.ob {s : Option Addr} {H0 P H : Hp} {σ : L2.St} {env : Env} {i : Nat} {a C : Addr} {ns : List Str} {ds : List T} (r : Rel s H0 P σ H env) (h : env[i]? = some (some (.ob a C ns ds))) : ∃ dx vs, σ[i]? = some (some (.ref a)) ∧ P a = none ∧ H0 a = none ∧ s ≠ some a ∧ H a = some (.ins C dx (ns.zip vs)) ∧ Rps s P ds vs ∧ ns.length = ds.length := by
  obtain ⟨ad, h1, h2⟩ := r.ex
  obtain ⟨b, c, d, e, dx, vs, f, g, j, z⟩ := h2 i _ h
  rw [z] at b c d e f
  exact ⟨dx, vs, b, c, d, e, f, g, j⟩
theorem ext_change {s : Option Addr} {P0 H0 P H : Hp} {a : Addr} {o : HO} (e : Ext s P0 H0 P H) (hP : P a = none) (h0 : H0 a = none) (hs : s ≠ some a) : Ext s P0 H0 P (upd H a o) := by
  have nP : ∀ {b o}, P b = some o → b ≠ a := fun {b o} e z => by
    rw [z, hP] at e
    cases e
  refine ⟨⟨fun b x g => ?_, fun b hb => ?_⟩, e.sub, fun b x hb g => ?_, e.new⟩
  · rw [upd_ne (nP g)]
    exact e.wf.sub _ _ g
  · obtain ⟨g1, t, g2, g3⟩ := e.wf.sto b hb
    exact ⟨g1, t, g2, by rw [upd_ne (fun z => hs (by rw [← z]; exact hb))]; exact g3⟩
  · rw [upd_ne (fun z => by rw [z, h0] at g; cases g)]
    exact e.keep b x hb g
def frz (env : Env) (i : Nat) : Env := match env[i]? with
  | some (some (.own ds)) => env.set i (some (.d (.lst ds)))
  | some (some (.ob _ C ns ds)) => env.set i (some (.d (.obj C ns ds)))
  | _ => env
theorem Rel.frzO {s : Option Addr} {P0 H0 P H : Hp} {σ : L2.St} {env : Env} {i : Nat} {x : Sl} {t : T} (r : Rel s H0 P σ H env) (e0 : Ext s P0 H0 P H) (h : env[i]? = some (some x)) (m : x.mine = true)
    (ht : ∀ P' a w o, Same P P' → P' a = some o → H a = some o → SlOk s H0 P H a w x → Rp s P' t (.ref a)) :
    ∃ P', Same P P' ∧ Ext s P0 H0 P' H ∧ Rel s H0 P' σ H (env.set i (some (.d t))) := by
  obtain ⟨ad, h1, h2⟩ := r.ex
  have hx := h2 i _ h
  obtain ⟨q1, q2, q3, q4, o, q5⟩ := slok_mine m hx
  have il : i < env.length := (List.getElem?_eq_some_iff.mp h).1
  have sP : Same P (upd P (ad i) o) := same_new q2
  have wf : WF s (upd P (ad i) o) H := by
    refine ⟨fun b x g => ?_, fun b hb => ?_⟩
    · by_cases z : b = ad i
      · rw [z] at g ⊢
        rw [upd_same] at g
        rw [q5]
        exact g
      · rw [upd_ne z] at g
        exact r.wf.sub _ _ g
    · obtain ⟨g1, t, g2, g3⟩ := r.wf.sto b hb
      exact ⟨by rw [upd_ne (fun z => q4 (by rw [hb, z]))]; exact g1, t, stok_same sP g2, g3⟩
  have ow : ∀ {j}, IsOwn (env.set i (some (.d t))) j → j ≠ i ∧ IsOwn env j := fun {j} ⟨fs, e, mm⟩ => by
    by_cases z : j = i
    · rw [z, List.getElem?_set_self il] at e
      cases e
      cases mm
    · rw [List.getElem?_set_ne (Ne.symm z)] at e
      exact ⟨z, _, e, mm⟩
  refine ⟨upd P (ad i) o, sP, ⟨wf, e0.sub.trans sP, e0.keep, fun b hb g => ?_⟩, wf, by rw [List.length_set]; exact r.len, ad, fun j k hj hk => h1 j k (ow hj).2 (ow hk).2, fun j x' e => ?_⟩
  · by_cases z : b = ad i
    · rw [z]
      exact q3
    · rw [upd_ne z] at g
      exact e0.new b hb g
  · by_cases z : j = i
    · subst z
      rw [List.getElem?_set_self il] at e
      cases e
      exact ⟨_, q1, ht _ _ _ o sP upd_same q5 hx⟩
    · rw [List.getElem?_set_ne (Ne.symm z)] at e
      have g := h2 j x' e
      have na : x'.mine = true → ad j ≠ ad i := fun mm zz => z (h1 j i ⟨_, e, mm⟩ ⟨_, h, m⟩ zz)
      cases x' with
      | d t =>
        obtain ⟨v, g1, g2⟩ := g
        exact ⟨v, g1, rp_same sP _ _ g2⟩
      | own fs =>
        obtain ⟨p1, p2, p3, p4, us, p5, p6, p7⟩ := g
        exact ⟨p1, by rw [upd_ne (na rfl)]; exact p2, p3, p4, us, p5, rps_same sP _ _ p6, p7⟩
      | ob z' C ns fs =>
        obtain ⟨p1, p2, p3, p4, dx, us, p5, p6, p7⟩ := g
        exact ⟨p1, by rw [upd_ne (na rfl)]; exact p2, p3, p4, dx, us, p5, rps_same sP _ _ p6, p7⟩
/-- one's own list, object becomes data -/
theorem Rel.frz {s : Option Addr} {P0 H0 P H : Hp} {σ : L2.St} {env : Env} (i : Nat) (r : Rel s H0 P σ H env) (e0 : Ext s P0 H0 P H) : ∃ P', Same P P' ∧ Ext s P0 H0 P' H ∧ Rel s H0 P' σ H (frz env i) := by
  unfold Mt.frz
  split
  · rename_i ds h
    refine r.frzO e0 h rfl fun P' a w o sP hP hH g => ?_
    obtain ⟨_, _, _, _, vs, q5, q6, q7⟩ := g
    rw [hH] at q5
    cases q5
    simp only [Rp]
    exact ⟨_, vs, rfl, hP, rps_same sP _ _ q6, q7⟩
  · rename_i z C ns ds h
    refine r.frzO e0 h rfl fun P' a w o sP hP hH g => ?_
    obtain ⟨_, _, _, _, dx, vs, q5, q6, q7⟩ := g
    rw [hH] at q5
    cases q5
    simp only [Rp]
    exact ⟨_, dx, vs, rfl, hP, rps_same sP _ _ q6, q7.1⟩
  · exact ⟨P, Same.refl _, e0, r⟩
/-! ### errors -/
inductive Ec where
  | bn | bs | be | bt | tl | cl
inductive Ex where
  | arg (c : Ec) (pl : T) | ni | nm | en
def Ec.attr : Ec → Str
  | .bn => "argument" | .bs => "argument" | .be => "argument" | .bt => "line" | .tl => "bound" | .cl => "moment"
def Ec.adr (A : Ad) : Ec → Addr
  | .bn => A.bn | .bs => A.bs | .be => A.be | .bt => A.bt | .tl => A.tl | .cl => A.cl
/-- the error as the heap has it -/
def ExAt (A : Ad) (s : Option Addr) (P H : Hp) : Ex → Value → Option Addr → Prop
  | .arg c pl, C, d => C = .ref (c.adr A) ∧ ∃ dd v, d = some dd ∧ H dd = some (.xd [(c.attr, v)]) ∧ Rp s P pl v
  | .ni, C, d => C = .ref A.ni ∧ d = none
  | .nm, C, d => C = .ref A.nm ∧ d = none
  | .en, C, d => C = .ref A.en ∧ d = none
/-- what the context says of errors, here -/
def XC (A : Ad) (s : Option Addr) (P : Hp) (σ : L2.St) (H : Hp) (E : L2.St → XK) (XA : Ex → Prop) : Prop :=
  ∀ P' H' x C d, Ext s P H P' H' → XA x → ExAt A s P' H' x C d → E σ C d H'
theorem XC.ext {A : Ad} {s : Option Addr} {P H P' H' : Hp} {σ : L2.St} {E : L2.St → XK} {XA : Ex → Prop} (h : XC A s P σ H E XA) (e : Ext s P H P' H') : XC A s P' σ H' E XA := fun P2 H2 x C d e2 => h P2 H2 x C d (e.trans e2)
abbrev Ct := List T → (T → Prop) → (Ex → Prop) → Prop
/-- a def's contract over data -/
def SpU (A : Ad) (n : Nat) (c : Ct) : Sp := fun vs H Q E => ∃ s P ds k EA, WF s P H ∧ Rps s P ds vs ∧ ds.length = n ∧ c ds k EA ∧ (∀ P' H' v d, Ext s P H P' H' → Rp s P' d v → k d → Q v H') ∧ (∀ P' H' x C d, Ext s P H P' H' → EA x → ExAt A s P' H' x C d → E C d H')
theorem SpU.len {A : Ad} {n : Nat} {c : Ct} {vs : List V} {H : Hp} {Q : VK} {E : XK} (h : SpU A n c vs H Q E) : vs.length = n := by
  obtain ⟨s, P, ds, k, EA, _, h2, h3, _⟩ := h
  rw [rps_len h2, h3]
end Mt
/-! ### expressions over data -/
namespace Mt
open PySem PySem.Spec PyProof.Rows L2 L2H
abbrev ME := (Ex → Prop) → Env → (T → Prop) → Prop
abbrev MA := (Ex → Prop) → Env → (List T → Prop) → Prop
abbrev MT := (Ex → Prop) → Env → (Bool → Prop) → Prop
abbrev EK := L2.St → XK
section
variable (A : Ad) (E : EK)
def RE (te : TE) (me : ME) : Prop := ∀ s H0 P σ H env XA k Q, Rel s H0 P σ H env → XC A s P σ H E XA → me XA env k → (∀ P' H' v d, Ext s P H P' H' → Rp s P' d v → k d → Q v H') → te σ H Q
def RA (te : TA) (me : MA) : Prop := ∀ s H0 P σ H env XA k (Q : List V → Hp → Prop), Rel s H0 P σ H env → XC A s P σ H E XA → me XA env k → (∀ P' H' vs ds, Ext s P H P' H' → Rps s P' ds vs → k ds → Q vs H') → te σ H Q
def RT (te : TT) (me : MT) : Prop := ∀ s H0 P σ H env XA k (Q : Bool → Hp → Prop), Rel s H0 P σ H env → XC A s P σ H E XA → me XA env k → (∀ P' H' b, Ext s P H P' H' → k b → Q b H') → te σ H Q
end
def ROp (r : R2) (o : T → T → (T → Prop) → Prop) : Prop := ∀ s P H x y d e k Q, WF s P H → Rp s P d x → Rp s P e y → o d e k → (∀ P' H' v t, Ext s P H P' H' → Rp s P' t v → k t → Q v H') → r x y H Q
def RUn (r : V → Hp → VK → Prop) (o : T → (T → Prop) → Prop) : Prop := ∀ s P H x d k Q, WF s P H → Rp s P d x → o d k → (∀ P' H' v t, Ext s P H P' H' → Rp s P' t v → k t → Q v H') → r x H Q
def RCB (r : List V → Hp → VK → Prop) (o : List T → (T → Prop) → Prop) : Prop := ∀ s P H vs ds k Q, WF s P H → Rps s P ds vs → o ds k → (∀ P' H' v t, Ext s P H P' H' → Rp s P' t v → k t → Q v H') → r vs H Q
section
variable {A : Ad} {E : EK} {te ta tb tc : TE} {me ma mb mc : ME} {t u : TT} {mt mu : MT} {aa ar : TA} {am : MA} {K : PySem.W.Frag}
/-! the parts' words -/
def mVar (i : Nat) : ME := fun XA env k => ∃ d, env[i]? = some (some (.d d)) ∧ k d
theorem re_var {i : Nat} : RE A E (tVar i) (mVar i) := fun s H0 P σ H env XA k Q r x h q => by
  obtain ⟨d, h1, h2⟩ := h
  obtain ⟨v, g1, g2⟩ := r.data h1
  exact ⟨v, g1, q P H v d (Ext.refl r.wf) g2 h2⟩
def mC (d : T) : ME := fun _ _ k => k d
theorem re_c {v : V} {d : T} (h : ∀ s P, Rp s P d v) : RE A E (tC v) (mC d) := fun s H0 P σ H env XA k Q r x hk q => q P H v d (Ext.refl r.wf) (h s P) hk
theorem re_int {i : Int} : RE A E (tC (.int i)) (mC (.int i)) := re_c fun _ _ => by simp [Rp]
theorem re_bl {i : Bool} : RE A E (tC (.bl i)) (mC (.bl i)) := re_c fun _ _ => by simp [Rp]
theorem re_str {i : Str} : RE A E (tC (.str i)) (mC (.str i)) := re_c fun _ _ => by simp [Rp]
theorem re_non : RE A E (tC .non) (mC .non) := re_c fun _ _ => by simp [Rp]
theorem re_ty {n : String} : RE A E (tC (.ty n)) (mC (.ty n)) := re_c fun _ _ => by simp [Rp]
def mOp (o : T → T → (T → Prop) → Prop) (ma mb : ME) : ME := fun XA env k => ma XA env fun d => mb XA env fun e => o d e k
theorem re_op {r : R2} {o : T → T → (T → Prop) → Prop} (ho : ROp r o) (ha : RE A E ta ma) (hb : RE A E tb mb) : RE A E (tOp r ta tb) (mOp o ma mb) := fun s H0 P σ H env XA k Q re x h q =>
  ha s H0 P σ H env XA _ _ re x h fun P1 H1 v d e1 r1 h1 => hb s H0 P1 σ H1 env XA _ _ (re.ext e1) (x.ext e1) h1 fun P2 H2 w e e2 r2 h2 =>
    ho s P2 H2 v w d e k Q e2.wf (rp_same e2.sub _ _ r1) r2 h2 fun P3 H3 z t e3 r3 h3 => q P3 H3 z t (e1.trans (e2.trans e3)) r3 h3
def mUn (o : T → (T → Prop) → Prop) (ma : ME) : ME := fun XA env k => ma XA env fun d => o d k
theorem re_un {r : V → Hp → VK → Prop} {o : T → (T → Prop) → Prop} (ho : RUn r o) (ha : RE A E ta ma) : RE A E (tUn r ta) (mUn o ma) := fun s H0 P σ H env XA k Q re x h q =>
  ha s H0 P σ H env XA _ _ re x h fun P1 H1 v d e1 r1 h1 => ho s P1 H1 v d k Q e1.wf r1 h1 fun P3 H3 z t e3 r3 h3 => q P3 H3 z t (e1.trans e3) r3 h3
/-! arguments -/
def mNil : MA := fun _ _ k => k []
theorem ra_nil : RA A E tNil mNil := fun s H0 P σ H env XA k Q re x h q => q P H [] [] (Ext.refl re.wf) rps_nil h
def mCons (ma : ME) (am : MA) : MA := fun XA env k => ma XA env fun d => am XA env fun ds => k (d :: ds)
theorem ra_cons (ha : RE A E ta ma) (hr : RA A E ar am) : RA A E (tCons ta ar) (mCons ma am) := fun s H0 P σ H env XA k Q re x h q =>
  ha s H0 P σ H env XA _ _ re x h fun P1 H1 v d e1 r1 h1 => hr s H0 P1 σ H1 env XA _ _ (re.ext e1) (x.ext e1) h1 fun P2 H2 vs ds e2 r2 h2 => q P2 H2 (v :: vs) (d :: ds) (e1.trans e2) (rps_cons (rp_same e2.sub _ _ r1) r2) h2
def mTup (am : MA) : ME := fun XA env k => am XA env fun ds => ds.length < 1000 ∧ k (.tup ds)
def mLst (am : MA) : ME := fun XA env k => am XA env fun ds => ds.length < 1000 ∧ k (.lst ds)
theorem size_line {n : Nat} (h : n < 1000000) : n ≤ sizeLine := by
  rw [sizeLine_eq]
  omega
theorem re_tup (ha : RA A E aa am) : RE A E (tTup aa) (mTup am) := fun s H0 P σ H env XA k Q re x h q =>
  ha s H0 P σ H env XA _ _ re x h fun P1 H1 vs ds e1 r1 ⟨h1, h2⟩ => ⟨size_line (by rw [rps_len r1]; omega), fun p hp => by
    have e2 := ext_new (o := .tup vs) e1.wf hp
    refine q _ _ _ (.tup ds) (e1.trans e2) ?_ h2
    simp only [Rp]
    exact ⟨p, vs, rfl, upd_same, rps_same e2.sub _ _ r1, by omega⟩⟩
theorem re_lst (ha : RA A E aa am) : RE A E (tLst aa) (mLst am) := fun s H0 P σ H env XA k Q re x h q =>
  ha s H0 P σ H env XA _ _ re x h fun P1 H1 vs ds e1 r1 ⟨h1, h2⟩ => ⟨size_line (by rw [rps_len r1]; omega), fun p hp => by
    have e2 := ext_new (o := .lst vs) e1.wf hp
    refine q _ _ _ (.lst ds) (e1.trans e2) ?_ h2
    simp only [Rp]
    exact ⟨p, vs, rfl, upd_same, rps_same e2.sub _ _ r1, by omega⟩⟩
/-! calls -/
def mCall (n : Nat) (c : Ct) (am : MA) : ME := fun XA env k => am XA env fun ds => ds.length = n ∧ c ds k fun _ => False
def mCallX (n : Nat) (c : Ct) (am : MA) : ME := fun XA env k => am XA env fun ds => ds.length = n ∧ c ds k XA
theorem re_call {n : Nat} {c : Ct} (ha : RA A E aa am) : RE A E (tCall (SpU A n c) [] E0 aa) (mCall n c am) := fun s H0 P σ H env XA k Q re x h q =>
  ha s H0 P σ H env XA _ _ re x h fun P1 H1 vs ds e1 r1 ⟨h1, h2⟩ => by
    show SpU A n c (vs ++ []) H1 Q E0
    rw [List.append_nil]
    exact ⟨s, P1, ds, k, _, e1.wf, r1, h1, h2, fun P' H' v d e2 r2 h3 => q P' H' v d (e1.trans e2) r2 h3, fun _ _ _ _ _ _ z => z.elim⟩
theorem re_callX {n : Nat} {c : Ct} (ha : RA A E aa am) : RE A E (tCallS (SpU A n c) E aa) (mCallX n c am) := fun s H0 P σ H env XA k Q re x h q =>
  ha s H0 P σ H env XA _ _ re x h fun P1 H1 vs ds e1 r1 ⟨h1, h2⟩ =>
    ⟨s, P1, ds, k, XA, e1.wf, r1, h1, h2, fun P' H' v d e2 r2 h3 => q P' H' v d (e1.trans e2) r2 h3, fun P' H' z C d e2 h3 h4 => x P' H' z C d (e1.trans e2) h3 h4⟩
def mCB (o : List T → (T → Prop) → Prop) (am : MA) : ME := fun XA env k => am XA env fun ds => o ds k
theorem re_cb {r : List V → Hp → VK → Prop} {o : List T → (T → Prop) → Prop} (ho : RCB r o) (ha : RA A E aa am) : RE A E (tCB r aa) (mCB o am) := fun s H0 P σ H env XA k Q re x h q =>
  ha s H0 P σ H env XA _ _ re x h fun P1 H1 vs ds e1 r1 h1 => ho s P1 H1 vs ds k Q e1.wf r1 h1 fun P3 H3 z t e3 r3 h3 => q P3 H3 z t (e1.trans e3) r3 h3
/-! tests and truth values -/
def isB (d : T) (k : Bool → Prop) : Prop := ∃ b, d = .bl b ∧ k b
def mTest (me : ME) : MT := fun XA env k => me XA env fun d => isB d k
theorem rp_bl {s : Option Addr} {P : Hp} {b : Bool} {v : V} (h : Rp s P (.bl b) v) : v = .bl b := by simpa only [Rp] using h
theorem rp_int {s : Option Addr} {P : Hp} {b : Int} {v : V} (h : Rp s P (.int b) v) : v = .int b := by simpa only [Rp] using h
theorem rp_str {s : Option Addr} {P : Hp} {b : Str} {v : V} (h : Rp s P (.str b) v) : v = .str b := by simpa only [Rp] using h
theorem rt_test (ha : RE A E te me) : RT A E (tTest te) (mTest me) := fun s H0 P σ H env XA k Q re x h q =>
  ha s H0 P σ H env XA _ _ re x h fun P1 H1 v d e1 r1 ⟨b, h1, h2⟩ => by
    subst h1
    exact ⟨b, rp_bl r1, q _ _ b e1 h2⟩
theorem rt_B (ha : RE A E te me) : RT A E (tB te) (mTest me) := fun s H0 P σ H env XA k Q re x h q =>
  ha s H0 P σ H env XA _ _ re x h fun P1 H1 v d e1 r1 ⟨b, h1, h2⟩ => by
    subst h1
    exact ⟨b, rp_bl r1, q _ _ b e1 h2⟩
def mAnd (mt mu : MT) : MT := fun XA env k => mt XA env fun c => if c = true then mu XA env k else k false
def mOr (mt mu : MT) : MT := fun XA env k => mt XA env fun c => if c = true then k true else mu XA env k
def mNot (mt : MT) : MT := fun XA env k => mt XA env fun c => k (!c)
def mYes : MT := fun _ _ k => k true
theorem rt_yes : RT A E tYes mYes := fun s H0 P σ H env XA k Q re x h q => q P H true (Ext.refl re.wf) h
theorem rt_and (ht : RT A E t mt) (hu : RT A E u mu) : RT A E (tAnd t u) (mAnd mt mu) := fun s H0 P σ H env XA k Q re x h q =>
  ht s H0 P σ H env XA _ _ re x h fun P1 H1 b e1 h1 => by
    cases b with
    | true => exact hu s H0 P1 σ H1 env XA k _ (re.ext e1) (x.ext e1) h1 fun P2 H2 c e2 h2 => q P2 H2 c (e1.trans e2) h2
    | false => exact q P1 H1 false e1 h1
theorem rt_or (ht : RT A E t mt) (hu : RT A E u mu) : RT A E (tOr t u) (mOr mt mu) := fun s H0 P σ H env XA k Q re x h q =>
  ht s H0 P σ H env XA _ _ re x h fun P1 H1 b e1 h1 => by
    cases b with
    | false => exact hu s H0 P1 σ H1 env XA k _ (re.ext e1) (x.ext e1) h1 fun P2 H2 c e2 h2 => q P2 H2 c (e1.trans e2) h2
    | true => exact q P1 H1 true e1 h1
theorem rt_not (ht : RT A E t mt) : RT A E (tNot t) (mNot mt) := fun s H0 P σ H env XA k Q re x h q =>
  ht s H0 P σ H env XA _ _ re x h fun P1 H1 b e1 h1 => q P1 H1 (!b) e1 h1
def mAndV (ma mb : ME) : ME := fun XA env k => ma XA env fun d => isB d fun c => if c = true then mb XA env k else k (.bl false)
def mOrV (ma mb : ME) : ME := fun XA env k => ma XA env fun d => isB d fun c => if c = true then k (.bl true) else mb XA env k
def mNotV (ma : ME) : ME := fun XA env k => ma XA env fun d => isB d fun c => k (.bl (!c))
theorem re_andV (ha : RE A E ta ma) (hb : RE A E tb mb) : RE A E (tAndV ta tb) (mAndV ma mb) := fun s H0 P σ H env XA k Q re x h q =>
  ha s H0 P σ H env XA _ _ re x h fun P1 H1 v d e1 r1 ⟨c, h1, h2⟩ => by
    subst h1
    refine ⟨c, rp_bl r1, ?_⟩
    cases c with
    | true => exact hb s H0 P1 σ H1 env XA k _ (re.ext e1) (x.ext e1) h2 fun P2 H2 w t e2 r2 h3 => q P2 H2 w t (e1.trans e2) r2 h3
    | false => exact q P1 H1 _ _ e1 (by simp [Rp]) h2
theorem re_orV (ha : RE A E ta ma) (hb : RE A E tb mb) : RE A E (tOrV ta tb) (mOrV ma mb) := fun s H0 P σ H env XA k Q re x h q =>
  ha s H0 P σ H env XA _ _ re x h fun P1 H1 v d e1 r1 ⟨c, h1, h2⟩ => by
    subst h1
    refine ⟨c, rp_bl r1, ?_⟩
    cases c with
    | false => exact hb s H0 P1 σ H1 env XA k _ (re.ext e1) (x.ext e1) h2 fun P2 H2 w t e2 r2 h3 => q P2 H2 w t (e1.trans e2) r2 h3
    | true => exact q P1 H1 _ _ e1 (by simp [Rp]) h2
theorem re_notV (ha : RE A E ta ma) : RE A E (tNotV ta) (mNotV ma) := fun s H0 P σ H env XA k Q re x h q =>
  ha s H0 P σ H env XA _ _ re x h fun P1 H1 v d e1 r1 ⟨c, h1, h2⟩ => by
    subst h1
    exact ⟨c, rp_bl r1, q P1 H1 _ _ e1 (by simp [Rp]) h2⟩
def mIf (mt : MT) (ma mb : ME) : ME := fun XA env k => mt XA env fun c => if c = true then ma XA env k else mb XA env k
theorem re_if (ht : RT A E t mt) (ha : RE A E ta ma) (hb : RE A E tb mb) : RE A E (tIf t ta tb) (mIf mt ma mb) := fun s H0 P σ H env XA k Q re x h q =>
  ht s H0 P σ H env XA _ _ re x h fun P1 H1 c e1 h1 => by
    cases c with
    | true => exact ha s H0 P1 σ H1 env XA k _ (re.ext e1) (x.ext e1) h1 fun P2 H2 w t e2 r2 h3 => q P2 H2 w t (e1.trans e2) r2 h3
    | false => exact hb s H0 P1 σ H1 env XA k _ (re.ext e1) (x.ext e1) h1 fun P2 H2 w t e2 r2 h3 => q P2 H2 w t (e1.trans e2) r2 h3
def isNon : T → Bool
  | .non => true
  | _ => false
theorem rp_non {s : Option Addr} {P : Hp} : ∀ {d : T} {v : V}, Rp s P d v → decide (v = .non) = isNon d
  | .non, v, h => by simp only [Rp] at h; rw [h]; rfl
  | .bl b, v, h => by simp only [Rp] at h; rw [h]; rfl
  | .int b, v, h => by simp only [Rp] at h; rw [h]; rfl
  | .str b, v, h => by simp only [Rp] at h; rw [h]; rfl
  | .ty b, v, h => by simp only [Rp] at h; rw [h]; rfl
  | .lst ds, v, h => by simp only [Rp] at h; obtain ⟨a, _, rfl, _⟩ := h; rfl
  | .tup ds, v, h => by simp only [Rp] at h; obtain ⟨a, _, rfl, _⟩ := h; rfl
  | .sto, v, h => by simp only [Rp] at h; obtain ⟨a, _, rfl⟩ := h; rfl
  | .obj C ns ds, v, h => by simp only [Rp] at h; obtain ⟨a, dx, vs, rfl, _⟩ := h; rfl
def mIsN (ma : ME) : ME := fun XA env k => ma XA env fun d => k (.bl (isNon d))
def mNotN (ma : ME) : ME := fun XA env k => ma XA env fun d => k (.bl (!isNon d))
theorem re_isN (ha : RE A E ta ma) : RE A E (tIsN ta) (mIsN ma) := fun s H0 P σ H env XA k Q re x h q =>
  ha s H0 P σ H env XA _ _ re x h fun P1 H1 v d e1 r1 h1 => q P1 H1 _ _ e1 (by rw [rp_non r1]; simp [Rp]) h1
theorem re_notN (ha : RE A E ta ma) : RE A E (tNotN ta) (mNotN ma) := fun s H0 P σ H env XA k Q re x h q =>
  ha s H0 P σ H env XA _ _ re x h fun P1 H1 v d e1 r1 h1 => q P1 H1 _ _ e1 (by rw [rp_non r1]; simp [Rp]) h1
def mChain (o o' : T → T → (T → Prop) → Prop) (ma mb mc : ME) : ME := fun XA env k => ma XA env fun d => mb XA env fun e => o d e fun z => isB z fun c => if c = true then mc XA env fun f => o' e f k else k (.bl false)
theorem re_chain {r r' : R2} {o o' : T → T → (T → Prop) → Prop} (ho : ROp r o) (ho' : ROp r' o') (ha : RE A E ta ma) (hb : RE A E tb mb) (hc : RE A E tc mc) : RE A E (tChain r r' ta tb tc) (mChain o o' ma mb mc) := fun s H0 P σ H env XA k Q re x h q =>
  ha s H0 P σ H env XA _ _ re x h fun P1 H1 v d e1 r1 h1 => hb s H0 P1 σ H1 env XA _ _ (re.ext e1) (x.ext e1) h1 fun P2 H2 w e e2 r2 h2 =>
    ho s P2 H2 v w d e _ _ e2.wf (rp_same e2.sub _ _ r1) r2 h2 fun P3 H3 z t e3 r3 ⟨c, h3, h4⟩ => by
      subst h3
      refine ⟨c, rp_bl r3, ?_⟩
      have e13 := e1.trans (e2.trans e3)
      cases c with
      | true =>
        exact hc s H0 P3 σ H3 env XA _ _ (re.ext e13) (x.ext e13) h4 fun P4 H4 y f e4 r4 h5 => ho' s P4 H4 w y e f k Q e4.wf (rp_same (e3.sub.trans e4.sub) _ _ r2) r4 h5 fun P5 H5 y' f' e5 r5 h6 => q P5 H5 y' f' (e13.trans (e4.trans e5)) r5 h6
      | false => exact q P3 H3 _ _ e13 (by simp [Rp]) h4
/-! operators -/
def oI (g : Int → Int → Int) : T → T → (T → Prop) → Prop := fun d e k => ∃ i j, d = .int i ∧ e = .int j ∧ k (.int (g i j))
def oB (g : Int → Int → Bool) : T → T → (T → Prop) → Prop := fun d e k => ∃ i j, d = .int i ∧ e = .int j ∧ k (.bl (g i j))
def oIC (C : Int → Int → Prop) (g : Int → Int → Int) : T → T → (T → Prop) → Prop := fun d e k => ∃ i j, d = .int i ∧ e = .int j ∧ C i j ∧ k (.int (g i j))
theorem ro_int {g : Int → Int → Int} : ROp (rI0 fun i j => V.int (g i j)) (oI g) := fun s P H x y d e k Q w h1 h2 ⟨i, j, e1, e2, h⟩ q => by
  subst e1 e2
  exact ⟨i, j, rp_int h1, rp_int h2, q P H _ _ (Ext.refl w) (by simp [Rp]) h⟩
theorem ro_bool {g : Int → Int → Bool} : ROp (rI0 fun i j => V.bl (g i j)) (oB g) := fun s P H x y d e k Q w h1 h2 ⟨i, j, e1, e2, h⟩ q => by
  subst e1 e2
  exact ⟨i, j, rp_int h1, rp_int h2, q P H _ _ (Ext.refl w) (by simp [Rp]) h⟩
theorem ro_intC {C : Int → Int → Prop} {g : Int → Int → Int} : ROp (rI C fun i j => V.int (g i j)) (oIC C g) := fun s P H x y d e k Q w h1 h2 ⟨i, j, e1, e2, c, h⟩ q => by
  subst e1 e2
  exact ⟨i, j, rp_int h1, rp_int h2, c, q P H _ _ (Ext.refl w) (by simp [Rp]) h⟩
def oU (g : Int → Int) : T → (T → Prop) → Prop := fun d k => ∃ i, d = .int i ∧ k (.int (g i))
theorem ru_int {g : Int → Int} : RUn (rU fun i => V.int (g i)) (oU g) := fun s P H x d k Q w h1 ⟨i, e1, h⟩ q => by
  subst e1
  exact ⟨i, rp_int h1, q P H _ _ (Ext.refl w) (by simp [Rp]) h⟩
def scEq : T → T → Option Bool
  | .int i, .int j => some (decide (i = j))
  | .bl i, .bl j => some (decide (i = j))
  | .str i, .str j => some (decide (i = j))
  | .non, .non => some true
  | _, _ => none
theorem sc_ok {s : Option Addr} {P : Hp} {d e : T} {x y : V} {b : Bool} (h1 : Rp s P d x) (h2 : Rp s P e y) (h : scEq d e = some b) : scal x y = true ∧ decide (x = y) = b := by
  unfold scEq at h
  split at h
  · cases h
    rw [rp_int h1, rp_int h2]
    refine ⟨rfl, ?_⟩
    simp only [V.int.injEq]
  · cases h
    rw [rp_bl h1, rp_bl h2]
    refine ⟨rfl, ?_⟩
    simp only [V.bl.injEq]
  · cases h
    rw [rp_str h1, rp_str h2]
    refine ⟨rfl, ?_⟩
    simp only [V.str.injEq]
  · cases h
    simp only [Rp] at h1 h2
    rw [h1, h2]
    exact ⟨rfl, rfl⟩
  · cases h
def oEq : T → T → (T → Prop) → Prop := fun d e k => ∃ b, scEq d e = some b ∧ k (.bl b)
def oNe : T → T → (T → Prop) → Prop := fun d e k => ∃ b, scEq d e = some b ∧ k (.bl (!b))
theorem ro_eq : ROp rEq oEq := fun s P H x y d e k Q w h1 h2 ⟨b, hb, h⟩ q => by
  obtain ⟨g1, g2⟩ := sc_ok h1 h2 hb
  exact ⟨g1, by rw [g2]; exact q P H _ _ (Ext.refl w) (by simp [Rp]) h⟩
theorem ro_ne : ROp rNe oNe := fun s P H x y d e k Q w h1 h2 ⟨b, hb, h⟩ q => by
  obtain ⟨g1, g2⟩ := sc_ok h1 h2 hb
  exact ⟨g1, by rw [g2]; exact q P H _ _ (Ext.refl w) (by simp [Rp]) h⟩
/-- the items of a list, a tuple -/
def itemsOf : T → Option (List T)
  | .lst ds => some ds
  | .tup ds => some ds
  | _ => none
theorem rp_items {s : Option Addr} {P H : Hp} {d : T} {x : V} {ds : List T} (w : WF s P H) (h : Rp s P d x) (e : itemsOf d = some ds) : ∃ a vs, x = .ref a ∧ seqAt H a = some vs ∧ Rps s P ds vs ∧ ds.length < 1000000 := by
  unfold itemsOf at e
  split at e
  · cases e
    simp only [Rp] at h
    obtain ⟨a, vs, rfl, h1, h2, h3⟩ := h
    exact ⟨a, vs, rfl, seqAt_l (w.sub _ _ h1), h2, h3⟩
  · cases e
    simp only [Rp] at h
    obtain ⟨a, vs, rfl, h1, h2, h3⟩ := h
    exact ⟨a, vs, rfl, seqAt_t (w.sub _ _ h1), h2, h3⟩
  · cases e
def oIx : T → T → (T → Prop) → Prop := fun d e k => ∃ ds i t, itemsOf d = some ds ∧ e = .int i ∧ atI ds i = some t ∧ k t
theorem ro_ix : ROp rIxH oIx := fun s P H x y d e k Q w h1 h2 ⟨ds, i, t, g1, g2, g3, h⟩ q => by
  subst g2
  obtain ⟨a, vs, rfl, g4, g5, g6⟩ := rp_items w h1 g1
  obtain ⟨v, g7, g8⟩ := rps_atI g5 g3
  exact ⟨a, i, vs, v, rfl, rp_int h2, g4, g7, q P H _ _ (Ext.refl w) g8 h⟩
def oLen : List T → (T → Prop) → Prop := fun ds k => ∃ d es, ds = [d] ∧ itemsOf d = some es ∧ (es.length < 1000000 → k (.int es.length))
theorem rps1 {s : Option Addr} {P : Hp} {d : T} {vs : List V} (h : Rps s P [d] vs) : ∃ v, vs = [v] ∧ Rp s P d v := by
  simp only [Rps] at h
  obtain ⟨v, r, rfl, h1, rfl⟩ := h
  exact ⟨v, rfl, h1⟩
theorem rps2 {s : Option Addr} {P : Hp} {d e : T} {vs : List V} (h : Rps s P [d, e] vs) : ∃ v w, vs = [v, w] ∧ Rp s P d v ∧ Rp s P e w := by
  simp only [Rps] at h
  obtain ⟨v, r, rfl, h1, w, r2, rfl, h2, rfl⟩ := h
  exact ⟨v, w, rfl, h1, h2⟩
theorem rcb_len : RCB rLenH oLen := fun s P H vs ds k Q w h ⟨d, es, g1, g2, h3⟩ q => by
  subst g1
  obtain ⟨v, rfl, h1⟩ := rps1 h
  obtain ⟨a, us, rfl, g4, g5, g6⟩ := rp_items w h1 g2
  exact ⟨a, us, rfl, g4, by rw [rps_len g5]; exact q P H _ _ (Ext.refl w) (by simp [Rp]) (h3 g6)⟩
def oAbs : List T → (T → Prop) → Prop := fun ds k => ∃ i, ds = [.int i] ∧ k (.int (if i < 0 then -i else i))
theorem rcb_abs : RCB rAbsH oAbs := fun s P H vs ds k Q w h ⟨i, g1, h3⟩ q => by
  subst g1
  obtain ⟨v, rfl, h1⟩ := rps1 h
  exact ⟨i, by rw [rp_int h1], q P H _ _ (Ext.refl w) (by simp [Rp]) h3⟩
def oInt : List T → (T → Prop) → Prop := fun ds k => (∃ i, ds = [.int i] ∧ k (.int i)) ∨ ∃ b, ds = [.bl b] ∧ k (.int (if b = true then 1 else 0))
theorem rcb_int : RCB rInt1 oInt := fun s P H vs ds k Q w h h3 q => by
  rcases h3 with ⟨i, rfl, h3⟩ | ⟨i, rfl, h3⟩
  · obtain ⟨v, rfl, h1⟩ := rps1 h
    exact Or.inl ⟨i, by rw [rp_int h1], q P H _ _ (Ext.refl w) (by simp [Rp]) h3⟩
  · obtain ⟨v, rfl, h1⟩ := rps1 h
    exact Or.inr ⟨i, by rw [rp_bl h1], q P H _ _ (Ext.refl w) (by simp [Rp]) h3⟩
def oGcd : List T → (T → Prop) → Prop := fun ds k => ∃ a b : Int, ds = [.int a, .int b] ∧ k (.int ((Nat.gcd a.natAbs b.natAbs : Nat) : Int))
theorem rcb_gcd : RCB rGcd oGcd := fun s P H vs ds k Q w h ⟨a, b, g1, h3⟩ q => by
  subst g1
  obtain ⟨v, u, rfl, h1, h2⟩ := rps2 h
  exact ⟨a, b, by rw [rp_int h1, rp_int h2], q P H _ _ (Ext.refl w) (by simp [Rp]) h3⟩
def oStr : List T → (T → Prop) → Prop := fun ds k => ∃ i : Int, ds = [.int i] ∧ i.natAbs.log2 < 1920 ∧ k (.str (Str.ofString (toString i)))
theorem rcb_str : RCB rStrH oStr := fun s P H vs ds k Q w h ⟨i, g1, g2, h3⟩ q => by
  subst g1
  obtain ⟨v, rfl, h1⟩ := rps1 h
  exact ⟨i, by rw [rp_int h1], g2, q P H _ _ (Ext.refl w) (by simp [Rp]) h3⟩
/-- which built-in class -/
def tyT : T → Option String
  | .non => some "NoneType"
  | .bl _ => some "bool"
  | .int _ => some "int"
  | .str _ => some "str"
  | .lst _ => some "list"
  | .tup _ => some "tuple"
  | _ => none
theorem rp_tyT {s : Option Addr} {P H : Hp} {d : T} {x : V} {n : String} (w : WF s P H) (h : Rp s P d x) (e : tyT d = some n) : zTyV x H = some n := by
  cases d with
  | non => simp only [Rp] at h; subst h; exact e
  | bl b => simp only [Rp] at h; subst h; exact e
  | int b => simp only [Rp] at h; subst h; exact e
  | str b => simp only [Rp] at h; subst h; exact e
  | ty b => cases e
  | sto => cases e
  | obj C ns ds => cases e
  | lst ds =>
    simp only [Rp] at h
    obtain ⟨a, vs, rfl, h1, _⟩ := h
    rw [w_zl (w.sub _ _ h1)]
    exact e
  | tup ds =>
    simp only [Rp] at h
    obtain ⟨a, vs, rfl, h1, _⟩ := h
    rw [w_zt (w.sub _ _ h1)]
    exact e
def oType : List T → (T → Prop) → Prop := fun ds k => ∃ d n, ds = [d] ∧ tyT d = some n ∧ k (.ty n)
def oIs1 : List T → (T → Prop) → Prop := fun ds k => ∃ d n m b, ds = [d, .ty n] ∧ tyT d = some m ∧ kitB m n = some b ∧ k (.bl b)
theorem rcb_is1 : RCB rIsH oIs1 := fun s P H vs ds k Q w h ⟨d, n, m, b, g1, g2, g3, h3⟩ q => by
  subst g1
  obtain ⟨v, u, rfl, h1, h2⟩ := rps2 h
  simp only [Rp] at h2
  subst h2
  exact ⟨v, n, m, b, rfl, rp_tyT w h1 g2, g3, q P H _ _ (Ext.refl w) (by simp [Rp]) h3⟩
def oIs2 : List T → (T → Prop) → Prop := fun ds k => ∃ d n1 n2 m b c, ds = [d, .tup [.ty n1, .ty n2]] ∧ tyT d = some m ∧ kitB m n1 = some b ∧ kitB m n2 = some c ∧ k (.bl (b || c))
theorem rcb_is2 : RCB rIsTH oIs2 := fun s P H vs ds k Q w h ⟨d, n1, n2, m, b, c, g1, g2, g3, g4, h3⟩ q => by
  subst g1
  obtain ⟨v, u, rfl, h1, h2⟩ := rps2 h
  simp only [Rp, Rps] at h2
  obtain ⟨a, vs, rfl, h5, ⟨v1, r1, rfl, rfl, v2, r2, rfl, rfl, rfl⟩, _⟩ := h2
  exact ⟨v, a, n1, n2, m, b, c, rfl, w.sub _ _ h5, rp_tyT w h1 g2, g3, g4, q P H _ _ (Ext.refl w) (by simp [Rp]) h3⟩
def oIsTy : T → T → (T → Prop) → Prop := fun d e k => ∃ m n, d = .ty m ∧ e = .ty n ∧ k (.bl (decide (m = n)))
theorem ro_isTy : ROp rIsTyH oIsTy := fun s P H x y d e k Q w h1 h2 ⟨m, n, e1, e2, h⟩ q => by
  subst e1 e2
  simp only [Rp] at h1 h2
  subst h1 h2
  exact ⟨m, n, rfl, rfl, q P H _ _ (Ext.refl w) (by simp [Rp]) h⟩
theorem rcb_type : RCB (r1 kTyp) oType := fun s P H vs ds k Q w h ⟨d, n, g1, g2, h3⟩ q => by
  subst g1
  obtain ⟨v, rfl, h1⟩ := rps1 h
  exact ⟨n, rp_tyT w h1 g2, q P H _ _ (Ext.refl w) (by simp [Rp]) h3⟩
def oCat : T → T → (T → Prop) → Prop := fun d e k => ∃ ds es, d = .lst ds ∧ e = .lst es ∧ ds.length + es.length < 1000000 ∧ k (.lst (ds ++ es))
theorem ro_cat : ROp rCat oCat := fun s P H x y d e k Q w h1 h2 ⟨ds, es, g1, g2, g3, h⟩ q => by
  subst g1 g2
  simp only [Rp] at h1 h2
  obtain ⟨a, vs, rfl, a1, a2, a3⟩ := h1
  obtain ⟨b, ws, rfl, b1, b2, b3⟩ := h2
  rw [w_cat (w.sub _ _ a1) (w.sub _ _ b1)]
  refine ⟨size_line (by rw [rps_len a2, rps_len b2]; exact g3), fun p hp => ?_⟩
  have e2 := ext_new (o := .lst (vs ++ ws)) w hp
  refine q _ _ _ (.lst (ds ++ es)) e2 ?_ h
  simp only [Rp]
  exact ⟨p, _, rfl, upd_same, rps_same e2.sub _ _ (rps_app a2 b2), by rw [List.length_append]; exact g3⟩
end
end Mt
/-! ### walks, targets, comprehensions, one's own lists -/
namespace Mt
open PySem PySem.Spec PyProof.Rows L2 L2H
def ItOk (s : Option Addr) (J : It) (P : Hp) (xs : List T) : Prop := ∀ P' H', Same P P' → WF s P' H' → (∀ i d, xs[i]? = some d → J.go i H' ∧ ∀ x H'', J.yld i H' x H'' → ∃ P'', Ext s P' H' P'' H'' ∧ Rp s P'' d x) ∧ ∀ i, xs.length ≤ i → J.stop i H'
def ItOkC (s : Option Addr) (J : It) (P H : Hp) (xs : List T) : Prop := ∀ P' H', Ext s P H P' H' → (∀ i d, xs[i]? = some d → J.go i H' ∧ ∀ x H'', J.yld i H' x H'' → ∃ P'', Ext s P' H' P'' H'' ∧ Rp s P'' d x) ∧ ∀ i, xs.length ≤ i → J.stop i H'
section
variable (A : Ad) (E : EK)
def RI (wi : TI) (mi : MA) : Prop := ∀ s H0 P σ H env XA k (R : It → Hp → Prop), Rel s H0 P σ H env → XC A s P σ H E XA → mi XA env k → (∀ P' H' J xs, Ext s P H P' H' → ItOk s J P' xs → xs.length < 1000000 → k xs → R J H') → wi σ H R
def RIc (wi : TI) (mi : MA) : Prop := ∀ s H0 P σ H env XA k (R : It → Hp → Prop), Rel s H0 P σ H env → XC A s P σ H E XA → mi XA env k → (∀ P' H' J xs, Ext s P H P' H' → ItOkC s J P' H' xs → xs.length < 1000000 → k xs → R J H') → wi σ H R
end
section
variable {A : Ad} {E : EK} {te ta tb tc : TE} {me ma mb mc : ME} {t u : TT} {mt mu : MT} {aa ar : TA} {am : MA} {K : PySem.W.Frag} {wi : TI} {mi : MA}
theorem ric_of (h : RI A E wi mi) : RIc A E wi mi := fun s H0 P σ H env XA k R re x hm q => h s H0 P σ H env XA k R re x hm fun P' H' J xs e i l h2 => q P' H' J xs e (fun P2 H2 e2 => i P2 H2 e2.sub e2.wf) l h2
theorem itl_ok {s : Option Addr} {P' H' : Hp} {a : Addr} {vs : List V} {ds : List T} (w : WF s P' H') (h : SqL K H' a vs) (r : Rps s P' ds vs) : (∀ i d, ds[i]? = some d → (Itl K a).go i H' ∧ ∀ x H'', (Itl K a).yld i H' x H'' → ∃ P'', Ext s P' H' P'' H'' ∧ Rp s P'' d x) ∧ ∀ i, ds.length ≤ i → (Itl K a).stop i H' := by
  refine ⟨fun i d hd => ?_, fun i hi => ⟨vs, h, by rw [rps_len r]; exact hi⟩⟩
  obtain ⟨v, hv, rv⟩ := rps_at r hd
  refine ⟨⟨vs, v, h, hv⟩, fun x H'' hy => ?_⟩
  obtain ⟨rfl, hx⟩ := hy
  have := hx vs h
  rw [hv] at this
  cases this
  exact ⟨P', Ext.refl w, rv⟩
theorem itt_ok {s : Option Addr} {P' H' : Hp} {a : Addr} {vs : List V} {ds : List T} (w : WF s P' H') (h : SqT K H' a vs) (r : Rps s P' ds vs) : (∀ i d, ds[i]? = some d → (Itt K a).go i H' ∧ ∀ x H'', (Itt K a).yld i H' x H'' → ∃ P'', Ext s P' H' P'' H'' ∧ Rp s P'' d x) ∧ ∀ i, ds.length ≤ i → (Itt K a).stop i H' := by
  refine ⟨fun i d hd => ?_, fun i hi => ⟨vs, h, by rw [rps_len r]; exact hi⟩⟩
  obtain ⟨v, hv, rv⟩ := rps_at r hd
  refine ⟨⟨vs, v, h, hv⟩, fun x H'' hy => ?_⟩
  obtain ⟨rfl, hx⟩ := hy
  have := hx vs h
  rw [hv] at this
  cases this
  exact ⟨P', Ext.refl w, rv⟩
def mList (me : ME) : MA := fun XA env k => me XA env fun d => ∃ ds, d = .lst ds ∧ k ds
def mTupl (me : ME) : MA := fun XA env k => me XA env fun d => ∃ ds, d = .tup ds ∧ k ds
theorem sql_of {H : Hp} {a : Addr} {vs : List V} (h : H a = some (.lst vs)) : SqL K H a vs := Or.inl (Or.inl h)
theorem sqt_of {H : Hp} {a : Addr} {vs : List V} (h : H a = some (.tup vs)) : SqT K H a vs := Or.inl (Or.inl h)
theorem ri_list (ha : RE A E te me) : RI A E (iList K te) (mList me) := fun s H0 P σ H env XA k R re x h q =>
  ha s H0 P σ H env XA _ _ re x h fun P1 H1 v d e1 r1 ⟨ds, h1, h2⟩ => by
    subst h1
    simp only [Rp] at r1
    obtain ⟨a, vs, rfl, g1, g2, g3⟩ := r1
    refine ⟨a, rfl, ⟨vs, sql_of (e1.wf.sub _ _ g1)⟩, q P1 H1 _ ds e1 (fun P' H' sp w => itl_ok w (sql_of (w.sub _ _ (sp _ _ g1))) (rps_same sp _ _ g2)) g3 h2⟩
theorem ri_tup (ha : RE A E te me) : RI A E (iTup K te) (mTupl me) := fun s H0 P σ H env XA k R re x h q =>
  ha s H0 P σ H env XA _ _ re x h fun P1 H1 v d e1 r1 ⟨ds, h1, h2⟩ => by
    subst h1
    simp only [Rp] at r1
    obtain ⟨a, vs, rfl, g1, g2, g3⟩ := r1
    refine ⟨a, rfl, ⟨vs, sqt_of (e1.wf.sub _ _ g1)⟩, q P1 H1 _ ds e1 (fun P' H' sp w => itt_ok w (sqt_of (w.sub _ _ (sp _ _ g1))) (rps_same sp _ _ g2)) g3 h2⟩
/-- a walk over one's own list, within a comprehension -/
def mListOwn (i : Nat) : MA := fun XA env k => ∃ ds, (env[i]? = some (some (.own ds)) ∨ env[i]? = some (some (.d (.lst ds)))) ∧ k ds
theorem ric_var {i : Nat} : RIc A E (iList K (tVar i)) (mListOwn i) := fun s H0 P σ H env XA k R re x h q => by
  obtain ⟨ds, h1, h2⟩ := h
  rcases h1 with h1 | h1
  · obtain ⟨a, vs, g1, g2, g3, g4, g5, g6, g7⟩ := re.own h1
    exact ⟨.ref a, g1, a, rfl, ⟨vs, sql_of g5⟩, q P H _ ds (Ext.refl re.wf) (fun P' H' e => itl_ok e.wf (sql_of (e.keep _ _ g4 g5)) (rps_same e.sub _ _ g6)) g7 h2⟩
  · exact ric_of (ri_list re_var) s H0 P σ H env XA k R re x ⟨_, h1, ds, rfl, h2⟩ q
def rngT (a : Int) (n : Nat) : List T := (List.range n).map fun i => T.int (a + (i : Nat))
theorem rngT_len {a : Int} {n : Nat} : (rngT a n).length = n := by
  unfold rngT
  rw [List.length_map, List.length_range]
theorem itr_ok {s : Option Addr} {P : Hp} {lo : Int} {n : Nat} : ItOk s (Itr lo n) P (rngT lo n) := fun P' H' sp w => by
  refine ⟨fun i d hd => ?_, fun i hi => by rw [rngT_len] at hi; exact hi⟩
  unfold rngT at hd
  rw [List.getElem?_map] at hd
  by_cases z : i < n
  · rw [List.getElem?_range z] at hd
    cases hd
    refine ⟨z, fun x H'' hy => ?_⟩
    obtain ⟨rfl, rfl⟩ := hy
    exact ⟨P', Ext.refl w, by simp [Rp]⟩
  · rw [List.getElem?_eq_none (by rw [List.length_range]; omega)] at hd
    cases hd
def mRng1 (am : MA) : MA := fun XA env k => am XA env fun ds => ∃ j : Int, ds = [.int j] ∧ j < 1000000 ∧ -1000000 < j ∧ k (rngT 0 j.toNat)
def mRng2 (am : MA) : MA := fun XA env k => am XA env fun ds => ∃ i j : Int, ds = [.int i, .int j] ∧ (-1000000 < i ∧ i < 1000000) ∧ (-1000000 < j ∧ j < 1000000) ∧ (j - i) < 1000000 ∧ k (rngT i (j - i).toNat)
theorem ri_rng1 (ha : RA A E aa am) : RI A E (iRng1 aa) (mRng1 am) := fun s H0 P σ H env XA k R re x h q =>
  ha s H0 P σ H env XA _ _ re x h fun P1 H1 vs ds e1 r1 ⟨j, h1, h2, h4, h3⟩ => by
    subst h1
    obtain ⟨v, rfl, g⟩ := rps1 r1
    exact ⟨j, by rw [rp_int g], by omega, by omega, q P1 H1 _ _ e1 itr_ok (by rw [rngT_len]; omega) h3⟩
theorem ri_rng2 (ha : RA A E aa am) : RI A E (iRng2 aa) (mRng2 am) := fun s H0 P σ H env XA k R re x h q =>
  ha s H0 P σ H env XA _ _ re x h fun P1 H1 vs ds e1 r1 ⟨i, j, h1, ⟨a1, a2⟩, ⟨b1, b2⟩, h2, h3⟩ => by
    subst h1
    obtain ⟨v, w, rfl, g, g'⟩ := rps2 r1
    exact ⟨i, j, by rw [rp_int g, rp_int g'], by omega, q P1 H1 _ _ e1 itr_ok (by rw [rngT_len]; omega) h3⟩
def enumT (ds : List T) : List T := ds.mapIdx fun i d => .tup [.int (i : Nat), d]
def zipT (ds es : List T) : List T := List.zipWith (fun a b => .tup [a, b]) ds es
def mEnum (am : MA) : MA := fun XA env k => am XA env fun ds => ∃ es, ds = [.lst es] ∧ k (enumT es)
def mZip (am : MA) : MA := fun XA env k => am XA env fun ds => ∃ es fs, ds = [.lst es, .lst fs] ∧ k (zipT es fs)
def mRev (am : MA) : MA := fun XA env k => am XA env fun ds => ∃ es, ds = [.lst es] ∧ k es.reverse
theorem ri_enum (ha : RA A E aa am) : RI A E (iEnum K aa) (mEnum am) := fun s H0 P σ H env XA k R re x h q =>
  ha s H0 P σ H env XA _ _ re x h fun P1 H1 vs ds e1 r1 ⟨es, h1, h3⟩ => by
    subst h1
    obtain ⟨v, rfl, g⟩ := rps1 r1
    simp only [Rp] at g
    obtain ⟨a, us, rfl, g1, g2, g3⟩ := g
    refine ⟨a, us, rfl, sql_of (e1.wf.sub _ _ g1), q P1 H1 _ _ e1 (fun P' H' sp w => ?_) (by unfold enumT; rw [List.length_mapIdx]; exact g3) h3⟩
    have sq : SqL K H' a us := sql_of (w.sub _ _ (sp _ _ g1))
    refine ⟨fun i d hd => ?_, fun i hi => ⟨us, sq, by unfold enumT at hi; rw [List.length_mapIdx] at hi; rw [rps_len g2]; exact hi⟩⟩
    unfold enumT at hd
    rw [List.getElem?_mapIdx] at hd
    cases hz : es[i]? with
    | none => rw [hz] at hd; cases hd
    | some z =>
      rw [hz] at hd
      cases hd
      obtain ⟨v, hv, rv⟩ := rps_at g2 hz
      refine ⟨⟨us, v, sq, hv⟩, fun x H'' hy => ?_⟩
      obtain ⟨p, y, rfl, hp, rfl, hx⟩ := hy
      have := hx us sq
      rw [hv] at this
      cases this
      have e2 := ext_new (o := .tup [.int (i : Nat), v]) w hp
      refine ⟨_, e2, ?_⟩
      simp only [Rp]
      exact ⟨p, _, rfl, upd_same, rps_cons (by simp [Rp]) (rps_cons (rp_same (sp.trans e2.sub) _ _ rv) rps_nil), by show 2 < 1000000; decide⟩
theorem zip_at {ds es : List T} {i : Nat} {d : T} (h : (zipT ds es)[i]? = some d) : ∃ a b, ds[i]? = some a ∧ es[i]? = some b ∧ d = .tup [a, b] := by
  unfold zipT at h
  rw [List.getElem?_zipWith] at h
  cases ha : ds[i]? with
  | none => rw [ha] at h; cases h
  | some a =>
    cases hb : es[i]? with
    | none => rw [ha, hb] at h; cases h
    | some b =>
      rw [ha, hb] at h
      cases h
      exact ⟨a, b, rfl, rfl, rfl⟩
theorem ri_zip (ha : RA A E aa am) : RI A E (iZip K aa) (mZip am) := fun s H0 P σ H env XA k R re x h q =>
  ha s H0 P σ H env XA _ _ re x h fun P1 H1 vs ds e1 r1 ⟨es, fs, h1, h3⟩ => by
    subst h1
    obtain ⟨v, w, rfl, g, g'⟩ := rps2 r1
    simp only [Rp] at g g'
    obtain ⟨a, us, rfl, g1, g2, g3⟩ := g
    obtain ⟨b, ws, rfl, g4, g5, g6⟩ := g'
    refine ⟨a, b, us, ws, rfl, sql_of (e1.wf.sub _ _ g1), sql_of (e1.wf.sub _ _ g4), q P1 H1 _ _ e1 (fun P' H' sp w => ?_) (by unfold zipT; rw [List.length_zipWith]; omega) h3⟩
    have sq : SqL K H' a us := sql_of (w.sub _ _ (sp _ _ g1))
    have sq2 : SqL K H' b ws := sql_of (w.sub _ _ (sp _ _ g4))
    refine ⟨fun i d hd => ?_, fun i hi => ⟨us, ws, sq, sq2, by unfold zipT at hi; rw [List.length_zipWith] at hi; rw [rps_len g2, rps_len g5]; omega⟩⟩
    obtain ⟨da, db, ha, hb, rfl⟩ := zip_at hd
    obtain ⟨v, hv, rv⟩ := rps_at g2 ha
    obtain ⟨u, hu, ru⟩ := rps_at g5 hb
    refine ⟨⟨us, ws, v, u, sq, sq2, hv, hu⟩, fun x H'' hy => ?_⟩
    obtain ⟨p, y, y2, rfl, hp, rfl, hx, hx2⟩ := hy
    have := hx us sq
    rw [hv] at this
    cases this
    have := hx2 ws sq2
    rw [hu] at this
    cases this
    have e2 := ext_new (o := .tup [v, u]) w hp
    refine ⟨_, e2, ?_⟩
    simp only [Rp]
    exact ⟨p, _, rfl, upd_same, rps_cons (rp_same (sp.trans e2.sub) _ _ rv) (rps_cons (rp_same (sp.trans e2.sub) _ _ ru) rps_nil), by show 2 < 1000000; decide⟩
theorem ri_rev (ha : RA A E aa am) : RI A E (iRev K aa) (mRev am) := fun s H0 P σ H env XA k R re x h q =>
  ha s H0 P σ H env XA _ _ re x h fun P1 H1 vs ds e1 r1 ⟨es, h1, h3⟩ => by
    subst h1
    obtain ⟨v, rfl, g⟩ := rps1 r1
    simp only [Rp] at g
    obtain ⟨a, us, rfl, g1, g2, g3⟩ := g
    refine ⟨a, us, rfl, sql_of (e1.wf.sub _ _ g1), q P1 H1 _ _ e1 (fun P' H' sp w => ?_) (by rw [List.length_reverse]; exact g3) h3⟩
    have sq : SqL K H' a us := sql_of (w.sub _ _ (sp _ _ g1))
    have lu := rps_len g2
    refine ⟨fun i d hd => ?_, fun i hi => by rw [List.length_reverse] at hi; show us.length ≤ i; omega⟩
    have hl : i < es.length := by
      have := (List.getElem?_eq_some_iff.mp hd).1
      rw [List.length_reverse] at this
      exact this
    rw [List.getElem?_reverse hl] at hd
    obtain ⟨v, hv, rv⟩ := rps_at g2 hd
    have hv' : us[us.length - 1 - i]? = some v := by
      rw [← hv]
      congr 1
      omega
    refine ⟨⟨by omega, us, v, sq, hv'⟩, fun x H'' hy => ?_⟩
    obtain ⟨rfl, hx⟩ := hy
    have := hx us sq
    rw [hv'] at this
    cases this
    exact ⟨P', Ext.refl w, rp_same sp _ _ rv⟩
/-! targets -/
abbrev MG := T → Env → (Env → Prop) → Prop
abbrev MGs := List T → Env → (Env → Prop) → Prop
def RG (g : TG) (mg : MG) (is : List Nat) : Prop := ∀ s H0 P σ H env t v k (R : L2.St → Hp → Prop), Rel s H0 P σ H env → Rp s P t v → mg t env k → (∀ σ' env', Rel s H0 P σ' H env' → (∀ vs, (∀ i, i ∈ is → i ∈ vs) → wipe σ' vs = wipe σ vs) → k env' → R σ' H) → g v σ H R
def RGs (g : TGs) (mg : MGs) (is : List Nat) : Prop := ∀ s H0 P σ H env ts vs k (R : L2.St → Hp → Prop), Rel s H0 P σ H env → Rps s P ts vs → mg ts env k → (∀ σ' env', Rel s H0 P σ' H env' → (∀ vs, (∀ i, i ∈ is → i ∈ vs) → wipe σ' vs = wipe σ vs) → k env' → R σ' H) → g vs σ H R
theorem wipe_set {σ : L2.St} {i : Nat} {x : Option V} : ∀ {vs : List Nat}, i ∈ vs → wipe (σ.set i x) vs = wipe σ vs
  | [], h => nomatch h
  | v :: vs, h => by
    show (wipe (σ.set i x) vs).set v none = (wipe σ vs).set v none
    by_cases z : i ∈ vs
    · rw [wipe_set z]
    · have e : v = i := by
        rcases List.mem_cons.mp h with h | h
        · exact h.symm
        · exact absurd h z
      subst e
      refine List.ext_getElem? fun j => ?_
      rw [List.getElem?_set, List.getElem?_set]
      by_cases e : v = j
      · rw [if_pos e, if_pos e, wipe_length, wipe_length, List.length_set]
      · rw [if_neg e, if_neg e]
        clear h
        induction vs with
        | nil => rw [wipe, wipe, List.getElem?_set_ne e]
        | cons w ws ih =>
          have z' := fun h => z (List.mem_cons_of_mem _ h)
          show ((wipe (σ.set v x) ws).set w none)[j]? = ((wipe σ ws).set w none)[j]?
          rw [List.getElem?_set, List.getElem?_set, wipe_length, wipe_length, List.length_set, ih z']
theorem wipe_wipe {σ : L2.St} {vs : List Nat} : ∀ {us : List Nat}, (∀ i, i ∈ us → i ∈ vs) → wipe (wipe σ us) vs = wipe σ vs
  | [], _ => rfl
  | u :: us, h => by
    show wipe ((wipe σ us).set u none) vs = _
    rw [wipe_set (h u (List.mem_cons_self ..)), wipe_wipe fun i hi => h i (List.mem_cons_of_mem _ hi)]
def mgName (i : Nat) : MG := fun t env k => k (env.set i (some (.d t)))
theorem rg_name {i : Nat} : RG (gName i) (mgName i) [i] := fun s H0 P σ H env t v k R re r h q => q _ _ (re.put r) (fun vs hv => wipe_set (hv i (List.mem_singleton.mpr rfl))) h
def mgNil : MGs := fun ts env k => ts = [] ∧ k env
def mgCons (m : MG) (ms : MGs) : MGs := fun ts env k => ∃ t r, ts = t :: r ∧ m t env fun env' => ms r env' k
theorem rgs_nil : RGs gNil mgNil [] := fun s H0 P σ H env ts vs k R re r ⟨h1, h2⟩ q => by
  subst h1
  simp only [Rps] at r
  exact ⟨r, q _ _ re (fun _ _ => rfl) h2⟩
theorem rgs_cons {g : TG} {gs : TGs} {m : MG} {ms : MGs} {is js : List Nat} (h1 : RG g m is) (h2 : RGs gs ms js) : RGs (gCons g gs) (mgCons m ms) (is ++ js) := fun s H0 P σ H env ts vs k R re r ⟨t, tr, e, h⟩ q => by
  subst e
  simp only [Rps] at r
  obtain ⟨v, vr, rfl, r1, r2⟩ := r
  exact ⟨v, vr, rfl, h1 s H0 P σ H env t v _ _ re r1 h fun σ1 env1 re1 w1 h3 => h2 s H0 P σ1 H env1 tr vr k R re1 r2 h3 fun σ2 env2 re2 w2 h4 => q σ2 env2 re2 (fun vs hv => by rw [w2 vs fun i hi => hv i (List.mem_append_right _ hi), w1 vs fun i hi => hv i (List.mem_append_left _ hi)]) h4⟩
def mgTup (n : Nat) (ms : MGs) : MG := fun t env k => ∃ ds, t = .tup ds ∧ ds.length = n ∧ ms ds env k
theorem rg_tup {n : Nat} {gs : TGs} {ms : MGs} {is : List Nat} (h2 : RGs gs ms is) : RG (gTup K n gs) (mgTup n ms) is := fun s H0 P σ H env t v k R re r ⟨ds, e, hl, h⟩ q => by
  subst e
  simp only [Rp] at r
  obtain ⟨a, vs, rfl, g1, g2, g3⟩ := r
  exact ⟨a, vs, rfl, sqt_of (re.wf.sub _ _ g1), by rw [rps_len g2]; exact hl, h2 s H0 P σ H env ds vs k R re g2 h q⟩
/-! comprehensions -/
def wipeE (env : Env) : List Nat → Env
  | [] => env
  | v :: vs => (wipeE env vs).set v none
theorem Rel.wipe {s : Option Addr} {H0 P H : Hp} {σ : L2.St} {env : Env} (r : Rel s H0 P σ H env) : ∀ vs : List Nat, Rel s H0 P (L2.wipe σ vs) H (wipeE env vs)
  | [] => r
  | v :: vs => (r.wipe vs).drop
/-- a comprehension by an invariant over the turn and the list so far -/
def lcInv (f : T → (Option T → Prop) → Prop) (xs : List T) (k : List T → Prop) : Prop := ∃ I : Nat → List T → Prop, I 0 [] ∧ (∀ i x acc, xs[i]? = some x → I i acc → f x fun o => match o with
    | some d => I (i + 1) (acc ++ [d])
    | none => I (i + 1) acc) ∧ ∀ acc, I xs.length acc → k acc
def lcTurn (mg : MG) (mt : MT) (me : ME) (XA : Ex → Prop) (env : Env) : T → (Option T → Prop) → Prop := fun x r => mg x env fun env' => mt XA env' fun b => if b = true then me XA env' fun d => r (some d) else r none
def mLc (mi : MA) (mg : MG) (mt : MT) (me : ME) (vs : List Nat) : ME := fun XA env k => mi XA env fun xs => lcInv (lcTurn mg mt me XA (wipeE env vs)) xs fun ds => k (.lst ds)
def ET : EK := fun _ _ _ _ => True
/-- the reading of a comprehension ends with a list that nobody else has -/
theorem lc_own {g : TG} {mg : MG} {is vs : List Nat} (hi : RIc A E wi mi) (hg : RG g mg is) (his : (is.all fun i => vs.contains i) = true) {E' : L2.St → EK} (hx : ∀ s P σ H XA, XC A s P σ H E XA → ∀ σ' P' H', Ext s P H P' H' → XC A s P' σ' H' (E' σ) XA)
    {te' : L2.St → TE} {tt' : TT} (ht : ∀ σ, RT A (E' σ) tt' mt) (he : ∀ σ, RE A (E' σ) (te' σ) me) :
    ∀ s H0 P σ H env XA k Q, Rel s H0 P σ H env → XC A s P σ H E XA → mi XA env (fun xs => lcInv (lcTurn mg mt me XA (wipeE env vs)) xs k) → (∀ P' H1 H' p acc ds, Ext s P H P' H1 → H1 p = none → H' = upd H1 p (.lst acc) → Rps s P' ds acc → ds.length < 1000000 → k ds → Q (.ref p) H') →
      tLc wi g tt' (te' σ) vs σ H Q := fun s H0 P σ H env XA k Q re x h q =>
  hi s H0 P σ H env XA _ _ re x h fun P1 H1 J xs e1 ij hl h1 D hD => by
    have mem : ∀ i, i ∈ is → i ∈ vs := fun i h => by
      have := List.all_eq_true.mp his i h
      exact List.elem_iff.mp this
    have re1 := re.ext e1
    obtain ⟨I, i0, iS, iE⟩ := h1
    -- the state in the midst: the list's place D beside a heap G in which it isn't
    refine ⟨fun i m H' => m = xs.length - i ∧ i ≤ xs.length ∧ ∃ P' G ds acc, Ext s P1 H1 P' G ∧ G D = none ∧ H' = upd G D (.lst acc) ∧ Rps s P' ds acc ∧ ds.length ≤ i ∧ I i ds, ⟨xs.length, rfl, Nat.zero_le _, P1, H1, [], [], Ext.refl e1.wf, hD, rfl, rps_nil, Nat.le_refl _, i0⟩, ?_⟩
    rintro i m H' ⟨rfl, hi, P', G, ds, acc, eG, gD, rfl, rp, hd, hgo⟩
    have eo : Ext s P' G P' (upd G D (.lst acc)) := ext_own eG.wf gD
    have eO := eG.trans eo
    obtain ⟨j1, j2⟩ := ij P' _ eO
    by_cases hlt : i < xs.length
    · have hx' : xs[i]? = some xs[i] := List.getElem?_eq_getElem hlt
      obtain ⟨go, y⟩ := j1 i _ hx'
      refine Or.inr ⟨go, fun H2 => ∃ P' G ds acc, Ext s P1 H1 P' G ∧ G D = none ∧ H2 = upd G D (.lst acc) ∧ Rps s P' ds acc ∧ ds.length ≤ i + 1 ∧ I (i + 1) ds, fun H2 z => ⟨xs.length - (i + 1), by omega, rfl, hlt, z⟩, fun xv H2 hy => ?_⟩
      obtain ⟨P2, e2, rx⟩ := y _ _ hy
      have hgo := iS i _ _ hx' hgo
      have re2 := ((re1.ext eO).ext e2).wipe vs
      refine hg s H0 P2 _ H2 _ _ _ _ _ re2 rx hgo fun σ3 env3 re3 w3 h3 => ⟨by rw [w3 vs mem]; exact wipe_wipe fun i hi => hi, ?_⟩
      have x2 : XC A s P2 σ3 H2 (E' σ) XA := hx s P σ H XA x _ _ _ (e1.trans (eO.trans e2))
      refine ht σ s H0 P2 σ3 H2 env3 XA _ _ re3 x2 h3 fun P4 H4 b e4 h4 => ?_
      -- the heap without D
      have fin : ∀ {P5 H5}, Ext s P2 H2 P5 H5 → ∃ G5, Ext s P1 H1 P5 G5 ∧ G5 D = none ∧ H5 = upd G5 D (.lst acc) ∧ Same P' P5 := fun {P5 H5} e5 => by
        have e25 := e2.trans e5
        have hD5 : H5 D = some (.lst acc) := e25.keep D _ (fun z => by
          obtain ⟨_, t, _, h3⟩ := e1.wf.sto D z
          rw [hD] at h3
          cases h3) upd_same
        have nP : P5 D = none := by
          cases q5 : P5 D with
          | none => rfl
          | some o =>
            have := e25.new D (eG.wf.sub.free gD) (by rw [q5]; exact fun z => nomatch z)
            rw [upd_same] at this
            cases this
        have ee := eO.trans e25
        have isD : ∀ a, s = some a → a ≠ D := fun a ha z => by
          obtain ⟨_, t, _, h3⟩ := e1.wf.sto a ha
          rw [z, hD] at h3
          cases h3
        refine ⟨del H5 D, ⟨⟨fun b o g => ?_, fun a ha => ?_⟩, ee.sub, fun b o hb g => ?_, ee.new⟩, del_same, ?_, e25.sub⟩
        · have z : b ≠ D := fun z => by rw [z, nP] at g; cases g
          rw [del_ne z]
          exact e25.wf.sub _ _ g
        · obtain ⟨g1, t, g2, g3⟩ := e25.wf.sto a ha
          exact ⟨g1, t, g2, by rw [del_ne (isD a ha)]; exact g3⟩
        · have z : b ≠ D := fun z => by rw [z, hD] at g; cases g
          rw [del_ne z]
          exact ee.keep b o hb g
        · funext b
          by_cases z : b = D
          · rw [z, upd_same, hD5]
          · rw [upd_ne z, del_ne z]
      cases b with
      | true =>
        refine he σ s H0 P4 σ3 H4 env3 XA _ _ (re3.ext e4) (x2.ext e4) h4 fun P5 H5 v d e5 r5 h5 => ?_
        obtain ⟨G5, k1, k2, k3, k4⟩ := fin (e4.trans e5)
        refine ⟨acc, by rw [k3]; exact upd_same, ?_, P5, G5, ds ++ [d], acc ++ [v], k1, k2, by rw [k3, upd_upd], rps_snoc (rps_same k4 _ _ rp) r5, by rw [List.length_append]; show ds.length + 1 ≤ i + 1; omega, h5⟩
        rw [rps_len rp, sizeLine_eq]
        omega
      | false =>
        obtain ⟨G5, k1, k2, k3, k4⟩ := fin e4
        exact ⟨P4, G5, ds, acc, k1, k2, k3, rps_same k4 _ _ rp, by omega, h4⟩
    · have e : i = xs.length := by omega
      subst e
      exact Or.inl ⟨j2 _ (Nat.le_refl _), q P' G _ D acc ds (e1.trans eG) gD rfl rp (by omega) (iE _ hgo)⟩
theorem xc_true {s : Option Addr} {P H : Hp} {σ : L2.St} {XA : Ex → Prop} : XC A s P σ H ET XA := fun _ _ _ _ _ _ _ _ => trivial
theorem re_lc {g : TG} {mg : MG} {is vs : List Nat} (hi : RIc A E wi mi) (hg : RG g mg is) (ht : RT A ET t mt) (he : RE A ET te me) (his : (is.all fun i => vs.contains i) = true := by rfl) : RE A E (tLc wi g t te vs) (mLc mi mg mt me vs) := fun s H0 P σ H env XA k Q re x h q =>
  lc_own hi hg his (E' := fun _ => ET) (fun _ _ _ _ _ _ _ _ _ _ => xc_true) (te' := fun _ => te) (fun _ => ht) (fun _ => he) s H0 P σ H env XA _ Q re x h fun P' H1 H' p acc ds e1 hp hH r hl h1 => by
    subst hH
    have e2 := ext_new (o := .lst acc) e1.wf hp
    refine q _ _ _ (.lst ds) (e1.trans e2) ?_ h1
    simp only [Rp]
    exact ⟨p, acc, rfl, upd_same, rps_same e2.sub _ _ r, hl⟩
theorem re_lcX {W : WX} {g : TG} {mg : MG} {is vs : List Nat} {teX : XK → TE} (hi : RIc A (WE W) wi mi) (hg : RG g mg is) (ht : ∀ V, RT A (fun _ => V) t mt) (he : ∀ V, RE A (fun _ => V) (teX V) me) (his : (is.all fun i => vs.contains i) = true := by rfl) :
    RE A (WE W) (tLcX W wi g t teX vs) (mLc mi mg mt me vs) := fun s H0 P σ H env XA k Q re x h q =>
  lc_own hi hg his (E' := fun σ _ => WE W σ) (fun s P σ H XA x σ' P' H' e P2 H2 z C d e2 h3 h4 => x P2 H2 z C d (e.trans e2) h3 h4) (te' := fun σ => teX (WE W σ)) (fun _ => ht _) (fun _ => he _) s H0 P σ H env XA _ Q re x h fun P' H1 H' p acc ds e1 hp hH r hl h1 => by
    subst hH
    have e2 := ext_new (o := .lst acc) e1.wf hp
    refine q _ _ _ (.lst ds) (e1.trans e2) ?_ h1
    simp only [Rp]
    exact ⟨p, acc, rfl, upd_same, rps_same e2.sub _ _ r, hl⟩
/-! ### reading a list that stands in a slot, whoever has it -/
def seqOf : Sl → Option (List T)
  | .own ds => some ds
  | .d t => itemsOf t
  | .ob _ _ _ _ => none
def mSeqV (i : Nat) (env : Env) (k : List T → Prop) : Prop := ∃ x ds, env[i]? = some (some x) ∧ seqOf x = some ds ∧ k ds
theorem Rel.seq {s : Option Addr} {H0 P H : Hp} {σ : L2.St} {env : Env} {i : Nat} {x : Sl} {ds : List T} (r : Rel s H0 P σ H env) (h : env[i]? = some (some x)) (e : seqOf x = some ds) : ∃ a vs, σ[i]? = some (some (.ref a)) ∧ seqAt H a = some vs ∧ Rps s P ds vs ∧ ds.length < 1000000 := by
  cases x with
  | own es =>
    cases e
    obtain ⟨a, vs, g1, g2, g3, g4, g5, g6, g7⟩ := r.own h
    exact ⟨a, vs, g1, seqAt_l g5, g6, g7⟩
  | d t =>
    obtain ⟨v, g1, g2⟩ := r.data h
    obtain ⟨a, vs, rfl, g3, g4, g5⟩ := rp_items r.wf g2 e
    exact ⟨a, vs, g1, g3, g4, g5⟩
  | ob z C ns es => cases e
def mLenV (i : Nat) : ME := fun XA env k => mSeqV i env fun ds => ds.length < 1000000 → k (.int ds.length)
theorem re_lenV {i : Nat} : RE A E (tCB rLenH (tCons (tVar i) tNil)) (mLenV i) := fun s H0 P σ H env XA k Q re x ⟨y, ds, h1, h2, h3⟩ q => by
  obtain ⟨a, vs, g1, g2, g3, g4⟩ := re.seq h1 h2
  exact ⟨.ref a, g1, a, vs, rfl, g2, by rw [rps_len g3]; exact q P H _ _ (Ext.refl re.wf) (by simp [Rp]) (h3 g4)⟩
def mIxV (i : Nat) (mb : ME) : ME := fun XA env k => mSeqV i env fun ds => mb XA env fun e => ∃ n t, e = .int n ∧ atI ds n = some t ∧ k t
theorem re_ixV {i : Nat} (hb : RE A E tb mb) : RE A E (tOp rIxH (tVar i) tb) (mIxV i mb) := fun s H0 P σ H env XA k Q re x ⟨y, ds, h1, h2, h3⟩ q => by
  obtain ⟨a, vs, g1, g2, g3, g4⟩ := re.seq h1 h2
  refine ⟨.ref a, g1, hb s H0 P σ H env XA _ _ re x h3 fun P1 H1 w d e1 r1 ⟨n, t, e, et, h4⟩ => ?_⟩
  subst e
  have w1 := (re.ext e1).seq h1 h2
  obtain ⟨a', vs', g1', g2', g3', g4'⟩ := w1
  rw [g1] at g1'
  cases g1'
  obtain ⟨v, hv, rv⟩ := rps_atI g3' et
  exact ⟨a, n, vs', v, rfl, rp_int r1, g2', hv, q P1 H1 v t e1 rv h4⟩
/-! slices -/
def cutT (ds : List T) (lo hi : Option Int) : List T := (ds.drop (HT.sIx ds.length 0 lo)).take (HT.sIx ds.length ds.length hi - HT.sIx ds.length 0 lo)
theorem rps_cut {s : Option Addr} {P : Hp} {ds : List T} {vs : List V} {lo hi : Option Int} (h : Rps s P ds vs) : Rps s P (cutT ds lo hi) (cutV vs lo hi) := by
  unfold cutT cutV
  rw [rps_len h]
  exact rps_take _ (rps_drop _ h)
theorem cutT_len {ds : List T} {lo hi : Option Int} : (cutT ds lo hi).length ≤ ds.length := by
  unfold cutT
  rw [List.length_take, List.length_drop]
  omega
abbrev MO := (Ex → Prop) → Env → (Option Int → Prop) → Prop
def RO (A : Ad) (E : EK) (to : TO) (mo : MO) : Prop := ∀ s H0 P σ H env XA k (R : Option Int → Hp → Prop), Rel s H0 P σ H env → XC A s P σ H E XA → mo XA env k → (∀ P' H' o, Ext s P H P' H' → k o → R o H') → to σ H R
def mNoPart : MO := fun _ _ k => k none
def mPart (me : ME) : MO := fun XA env k => me XA env fun d => ∃ i, d = .int i ∧ k (some i)
theorem ro_no : RO A E tNoPart mNoPart := fun s H0 P σ H env XA k R re x h q => q P H none (Ext.refl re.wf) h
theorem ro_part (ha : RE A E te me) : RO A E (tPart te) (mPart me) := fun s H0 P σ H env XA k R re x h q =>
  ha s H0 P σ H env XA _ _ re x h fun P1 H1 v d e1 r1 ⟨i, h1, h2⟩ => by
    subst h1
    exact ⟨i, rp_int r1, q P1 H1 _ e1 h2⟩
def mSl (me : ME) (ml mh : MO) : ME := fun XA env k => me XA env fun d => ml XA env fun lo => mh XA env fun hi => ∃ ds, d = .lst ds ∧ k (.lst (cutT ds lo hi))
theorem re_sl {tl th : TO} {ml mh : MO} (ha : RE A E te me) (hl : RO A E tl ml) (hh : RO A E th mh) : RE A E (tSl rSlH te tl th) (mSl me ml mh) := fun s H0 P σ H env XA k Q re x h q =>
  ha s H0 P σ H env XA _ _ re x h fun P1 H1 v d e1 r1 h1 => hl s H0 P1 σ H1 env XA _ _ (re.ext e1) (x.ext e1) h1 fun P2 H2 lo e2 h2 => hh s H0 P2 σ H2 env XA _ _ ((re.ext e1).ext e2) ((x.ext e1).ext e2) h2 fun P3 H3 hi e3 ⟨ds, h3, h4⟩ => by
    subst h3
    have r3 := rp_same (e2.sub.trans e3.sub) _ _ r1
    simp only [Rp] at r3
    obtain ⟨a, vs, rfl, g1, g2, g3⟩ := r3
    rw [w_slH (e3.wf.sub _ _ g1)]
    intro p hp
    have e4 := ext_new (o := .lst (cutV vs lo hi)) e3.wf hp
    refine q _ _ _ _ (e1.trans (e2.trans (e3.trans e4))) ?_ h4
    simp only [Rp]
    exact ⟨p, _, rfl, upd_same, rps_same e4.sub _ _ (rps_cut g2), Nat.lt_of_le_of_lt cutT_len g3⟩
end
end Mt
/-! ### statements over data -/
namespace Mt
open PySem PySem.Spec PyProof.Rows L2 L2H
structure MEnds where
  nx : Env → Prop
  rt : T → Prop
  bk : Env → Prop := fun _ => False
  ct : Env → Prop := fun _ => False
  xr : Env → Ex → Prop := fun _ _ => False
abbrev MS := Env → MEnds → Prop
structure Link (A : Ad) (E : EK) (s : Option Addr) (P0 H0 P : Hp) (D : Ends) (M : MEnds) : Prop where
  nx : ∀ P' σ H env, Ext s P0 H0 P' H → Same P P' → Rel s H0 P' σ H env → M.nx env → D.nx σ H
  rt : ∀ P' H v t, Ext s P0 H0 P' H → Same P P' → Rp s P' t v → M.rt t → D.rt v H
  bk : ∀ P' σ H env, Ext s P0 H0 P' H → Same P P' → Rel s H0 P' σ H env → M.bk env → D.bk σ H
  ct : ∀ P' σ H env, Ext s P0 H0 P' H → Same P P' → Rel s H0 P' σ H env → M.ct env → D.ct σ H
  xr : ∀ P' σ H env, Ext s P0 H0 P' H → Same P P' → Rel s H0 P' σ H env → XC A s P' σ H E (M.xr env)
theorem Link.up {A : Ad} {E : EK} {s : Option Addr} {P0 H0 P P1 : Hp} {D : Ends} {M : MEnds} (l : Link A E s P0 H0 P D M) (h : Same P P1) : Link A E s P0 H0 P1 D M :=
  ⟨fun P' σ H env e g => l.nx P' σ H env e (h.trans g), fun P' H v t e g => l.rt P' H v t e (h.trans g), fun P' σ H env e g => l.bk P' σ H env e (h.trans g), fun P' σ H env e g => l.ct P' σ H env e (h.trans g), fun P' σ H env e g => l.xr P' σ H env e (h.trans g)⟩
def RS (A : Ad) (E : EK) (ts : TS) (ms : MS) : Prop := ∀ s P0 H0 P σ H env D M, Ext s P0 H0 P H → Rel s H0 P σ H env → Link A E s P0 H0 P D M → ms env M → ts D σ H
section
variable {A : Ad} {E : EK} {te ta tb tc : TE} {me ma mb mc : ME} {t u : TT} {mt mu : MT} {aa ar : TA} {am : MA} {K : PySem.W.Frag} {wi : TI} {mi : MA} {s1 s2 : TS} {m1 m2 : MS}
def mSeq (m1 m2 : MS) : MS := fun env M => m1 env { M with nx := fun env' => m2 env' M }
theorem rs_seq (h1 : RS A E s1 m1) (h2 : RS A E s2 m2) : RS A E (tSeq s1 s2) (mSeq m1 m2) := fun s P0 H0 P σ H env D M e re l h =>
  h1 s P0 H0 P σ H env _ { M with nx := fun env' => m2 env' M } e re ⟨fun P' σ' H' env' e' g re' h' => h2 s P0 H0 P' σ' H' env' D M e' re' (l.up g) h', l.rt, l.bk, l.ct, l.xr⟩ h
def mNext : MS := fun env M => M.nx env
theorem rs_next : RS A E tNext mNext := fun s P0 H0 P σ H env D M e re l h => l.nx P σ H env e (Same.refl _) re h
def mBrk : MS := fun env M => M.bk env
theorem rs_brk : RS A E tBreak mBrk := fun s P0 H0 P σ H env D M e re l h => l.bk P σ H env e (Same.refl _) re h
def mCnt : MS := fun env M => M.ct env
theorem rs_cnt : RS A E tCont mCnt := fun s P0 H0 P σ H env D M e re l h => l.ct P σ H env e (Same.refl _) re h
def mRet (me : ME) : MS := fun env M => me (M.xr env) env M.rt
theorem rs_ret (ha : RE A E te me) : RS A E (tRet te) (mRet me) := fun s P0 H0 P σ H env D M e re l h =>
  ha s H0 P σ H env _ _ _ re (l.xr P σ H env e (Same.refl _) re) h fun P1 H1 v d e1 r1 h1 => l.rt P1 H1 v d (e.trans e1) e1.sub r1 h1
def mRetN : MS := fun env M => M.rt .non
theorem rs_retN : RS A E tRetN mRetN := fun s P0 H0 P σ H env D M e re l h => l.rt P H _ _ e (Same.refl _) (by simp [Rp]) h
def mIfS (mt : MT) (m1 m2 : MS) : MS := fun env M => mt (M.xr env) env fun b => if b = true then m1 env M else m2 env M
theorem rs_if (ht : RT A E t mt) (h1 : RS A E s1 m1) (h2 : RS A E s2 m2) : RS A E (tIfS t s1 s2) (mIfS mt m1 m2) := fun s P0 H0 P σ H env D M e re l h =>
  ht s H0 P σ H env _ _ _ re (l.xr P σ H env e (Same.refl _) re) h fun P1 H1 b e1 h3 => by
    cases b with
    | true => exact h1 s P0 H0 P1 σ H1 env D M (e.trans e1) (re.ext e1) (l.up e1.sub) h3
    | false => exact h2 s P0 H0 P1 σ H1 env D M (e.trans e1) (re.ext e1) (l.up e1.sub) h3
def mDrop (me : ME) : MS := fun env M => me (M.xr env) env fun _ => M.nx env
theorem rs_drop (ha : RE A E te me) : RS A E (tDrop te) (mDrop me) := fun s P0 H0 P σ H env D M e re l h =>
  ha s H0 P σ H env _ _ _ re (l.xr P σ H env e (Same.refl _) re) h fun P1 H1 v d e1 r1 h1 => l.nx P1 σ H1 env (e.trans e1) e1.sub (re.ext e1) h1
def mAsg (me : ME) (mg : MG) : MS := fun env M => me (M.xr env) env fun t => mg t env M.nx
theorem rs_asg {g : TG} {mg : MG} {is : List Nat} (ha : RE A E te me) (hg : RG g mg is) : RS A E (tAsg te g) (mAsg me mg) := fun s P0 H0 P σ H env D M e re l h =>
  ha s H0 P σ H env _ _ _ re (l.xr P σ H env e (Same.refl _) re) h fun P1 H1 v d e1 r1 h1 => hg s H0 P1 σ H1 env d v _ _ (re.ext e1) r1 h1 fun σ2 env2 re2 _ h2 => l.nx P1 σ2 H1 env2 (e.trans e1) e1.sub re2 h2
/-! a new list of one's own -/
def ROw (A : Ad) (E : EK) (te : TE) (mo : MA) : Prop := ∀ s H0 P σ H env XA k (Q : VK), Rel s H0 P σ H env → XC A s P σ H E XA → mo XA env k → (∀ P' H1 p acc ds, Ext s P H P' H1 → H1 p = none → Rps s P' ds acc → ds.length < 1000000 → k ds → Q (.ref p) (upd H1 p (.lst acc))) → te σ H Q
def mOwn (mo : MA) (i : Nat) : MS := fun env M => mo (M.xr env) env fun ds => M.nx (env.set i (some (.own ds)))
theorem h0_free {s : Option Addr} {P0 H0 P H : Hp} {p : Addr} (e : Ext s P0 H0 P H) (hp : H p = none) : H0 p = none := by
  cases q : H0 p with
  | none => rfl
  | some o =>
    by_cases hs : s = some p
    · obtain ⟨_, t, _, h⟩ := e.wf.sto p hs
      rw [hp] at h
      cases h
    · have := e.keep p o hs q
      rw [hp] at this
      cases this
theorem rs_own {mo : MA} {i : Nat} (ha : ROw A E te mo) : RS A E (tAsg te (gName i)) (mOwn mo i) := fun s P0 H0 P σ H env D M e re l h =>
  ha s H0 P σ H env _ _ _ re (l.xr P σ H env e (Same.refl _) re) h fun P1 H1 p acc ds e1 hp r hl h1 => by
    have e2 := ext_own (o := .lst acc) e1.wf hp
    have ee := e.trans e1
    exact l.nx P1 _ _ _ (ee.trans e2) e1.sub ((re.ext e1).putOwn hp (h0_free ee hp) r hl) h1
def mLstO (am : MA) : MA := fun XA env k => am XA env fun ds => ds.length < 1000 ∧ k ds
theorem row_lst (ha : RA A E aa am) : ROw A E (tLst aa) (mLstO am) := fun s H0 P σ H env XA k Q re x h q =>
  ha s H0 P σ H env XA _ _ re x h fun P1 H1 vs ds e1 r1 ⟨h1, h2⟩ => ⟨size_line (by rw [rps_len r1]; omega), fun p hp => q P1 H1 p vs ds e1 hp r1 (by omega) h2⟩
def mListC (am : MA) : MA := fun XA env k => am XA env fun ds => ∃ d es, ds = [d] ∧ itemsOf d = some es ∧ k es
theorem row_list (ha : RA A E aa am) : ROw A E (tCB rListH aa) (mListC am) := fun s H0 P σ H env XA k Q re x h q =>
  ha s H0 P σ H env XA _ _ re x h fun P1 H1 vs ds e1 r1 ⟨d, es, h1, h2, h3⟩ => by
    subst h1
    obtain ⟨v, rfl, g⟩ := rps1 r1
    obtain ⟨a, us, rfl, g1, g2, g3⟩ := rp_items e1.wf g h2
    exact ⟨a, us, rfl, g1, fun p hp => q P1 H1 p us es e1 hp g2 g3 h3⟩
def mLcO (mi : MA) (mg : MG) (mt : MT) (me : ME) (vs : List Nat) : MA := fun XA env k => mi XA env fun xs => lcInv (lcTurn mg mt me XA (wipeE env vs)) xs k
theorem row_lc {g : TG} {mg : MG} {is vs : List Nat} (hi : RIc A E wi mi) (hg : RG g mg is) (ht : RT A ET t mt) (he : RE A ET te me) (his : (is.all fun i => vs.contains i) = true := by rfl) : ROw A E (tLc wi g t te vs) (mLcO mi mg mt me vs) := fun s H0 P σ H env XA k Q re x h q =>
  lc_own hi hg his (E' := fun _ => ET) (fun _ _ _ _ _ _ _ _ _ _ => xc_true) (te' := fun _ => te) (fun _ => ht) (fun _ => he) s H0 P σ H env XA _ Q re x h fun P' H1 H' p acc ds e1 hp hH r hl h1 => by
    subst hH
    exact q P' H1 p acc ds e1 hp r hl h1
theorem row_lcX {W : WX} {g : TG} {mg : MG} {is vs : List Nat} {teX : XK → TE} (hi : RIc A (WE W) wi mi) (hg : RG g mg is) (ht : ∀ V, RT A (fun _ => V) t mt) (he : ∀ V, RE A (fun _ => V) (teX V) me) (his : (is.all fun i => vs.contains i) = true := by rfl) :
    ROw A (WE W) (tLcX W wi g t teX vs) (mLcO mi mg mt me vs) := fun s H0 P σ H env XA k Q re x h q =>
  lc_own hi hg his (E' := fun σ _ => WE W σ) (fun s P σ H XA x σ' P' H' e P2 H2 z C d e2 h3 h4 => x P2 H2 z C d (e.trans e2) h3 h4) (te' := fun σ => teX (WE W σ)) (fun _ => ht _) (fun _ => he _) s H0 P σ H env XA _ Q re x h fun P' H1 H' p acc ds e1 hp hH r hl h1 => by
    subst hH
    exact q P' H1 p acc ds e1 hp r hl h1
def oCatO (ma mb : ME) : MA := fun XA env k => ma XA env fun d => mb XA env fun e => ∃ ds es, d = .lst ds ∧ e = .lst es ∧ ds.length + es.length < 1000000 ∧ k (ds ++ es)
theorem row_cat (ha : RE A E ta ma) (hb : RE A E tb mb) : ROw A E (tOp rCat ta tb) (oCatO ma mb) := fun s H0 P σ H env XA k Q re x h q =>
  ha s H0 P σ H env XA _ _ re x h fun P1 H1 v d e1 r1 h1 => hb s H0 P1 σ H1 env XA _ _ (re.ext e1) (x.ext e1) h1 fun P2 H2 w e e2 r2 ⟨ds, es, g1, g2, g3, g4⟩ => by
    subst g1 g2
    have r1 := rp_same e2.sub _ _ r1
    simp only [Rp] at r1 r2
    obtain ⟨a, vs, rfl, a1, a2, a3⟩ := r1
    obtain ⟨b, ws, rfl, b1, b2, b3⟩ := r2
    rw [w_cat (e2.wf.sub _ _ a1) (e2.wf.sub _ _ b1)]
    exact ⟨size_line (by rw [rps_len a2, rps_len b2]; exact g3), fun p hp => q P2 H2 p _ _ (e1.trans e2) hp (rps_app a2 b2) (by rw [List.length_append]; exact g3) g4⟩
/-- a value that no one keeps apart -/
def mShr (mo : MA) : ME := fun XA env k => mo XA env fun ds => k (.lst ds)
theorem re_own {mo : MA} (ha : ROw A E te mo) : RE A E te (mShr mo) := fun s H0 P σ H env XA k Q re x h q =>
  ha s H0 P σ H env XA _ _ re x h fun P1 H1 p acc ds e1 hp r hl h1 => by
    have e2 := ext_new (o := .lst acc) e1.wf hp
    refine q _ _ _ (.lst ds) (e1.trans e2) ?_ h1
    simp only [Rp]
    exact ⟨p, acc, rfl, upd_same, rps_same e2.sub _ _ r, hl⟩
/-! a list of one's own is changed -/
def mApp (i : Nat) (me : ME) : MS := fun env M => ∃ ds, env[i]? = some (some (.own ds)) ∧ me (M.xr env) env fun t => ds.length + 1 < 1000000 ∧ M.nx (env.set i (some (.own (ds ++ [t]))))
theorem rs_app {i : Nat} (ha : RE A E te me) : RS A E (tDrop (tBM K "list" rAppend (tVar i) (tCons te tNil))) (mApp i me) := fun s P0 H0 P σ H env D M e re l ⟨ds, h1, h2⟩ => by
  obtain ⟨a, vs, g1, g2, g3, g4, g5, g6, g7⟩ := re.own h1
  refine ⟨.ref a, g1, by rw [w_tyL g5]; trivial, ha s H0 P σ H env _ _ _ re (l.xr P σ H env e (Same.refl _) re) h2 fun P1 H1 v d e1 r1 ⟨hl, h3⟩ => ?_⟩
  have re1 := re.ext e1
  obtain ⟨a', vs', q1, q2, q3, q4, q5, q6, q7⟩ := re1.own h1
  rw [g1] at q1
  cases q1
  show rAppend (V.ref a) [v] H1 (fun _ H2 => D.nx σ H2)
  rw [w_append q5]
  refine ⟨by rw [rps_len q6, sizeLine_eq]; omega, ?_⟩
  exact l.nx P1 σ _ _ (ext_change (e.trans e1) q2 q3 q4) e1.sub (re1.change h1 g1 (rps_snoc q6 r1) (by rw [List.length_append]; exact hl)) h3
def mPutI (me : ME) (i : Nat) (mj : ME) : MS := fun env M => me (M.xr env) env fun t => ∃ ds, env[i]? = some (some (.own ds)) ∧ mj (M.xr env) env fun j => ∃ n q, j = .int n ∧ ixN ds.length n = some q ∧ M.nx (env.set i (some (.own (ds.set q t))))
theorem rs_putI {i : Nat} {tj : TE} {mj : ME} (ha : RE A E te me) (hj : RE A E tj mj) : RS A E (tAsg te (gSub (tVar i) tj rSetL)) (mPutI me i mj) := fun s P0 H0 P σ H env D M e re l h =>
  ha s H0 P σ H env _ _ _ re (l.xr P σ H env e (Same.refl _) re) h fun P1 H1 v d e1 r1 ⟨ds, h1, h2⟩ => by
    have re1 := re.ext e1
    obtain ⟨a, vs, g1, g2, g3, g4, g5, g6, g7⟩ := re1.own h1
    refine ⟨.ref a, g1, hj s H0 P1 σ H1 env _ _ _ re1 (l.xr P1 σ H1 env (e.trans e1) e1.sub re1) h2 fun P2 H2 w d2 e2 r2 ⟨n, j, h3, h4, h5⟩ => ?_⟩
    subst h3
    have re2 := re1.ext e2
    obtain ⟨a', vs', q1, q2, q3, q4, q5, q6, q7⟩ := re2.own h1
    rw [g1] at q1
    cases q1
    rw [rp_int r2]
    show rSetL (.ref a) (.int n) v H2 _
    rw [w_setE q5 (j := j) (by rw [rps_len q6]; exact h4)]
    exact l.nx P2 σ _ _ (ext_change (e.trans (e1.trans e2)) q2 q3 q4) (e1.sub.trans e2.sub) (re2.change h1 g1 (rps_set q6 (rp_same e2.sub _ _ r1)) (by rw [List.length_set]; exact q7)) h5
/-- from here on the list in slot i is data -/
def mFrz (i : Nat) (ms : MS) : MS := fun env M => ms (frz env i) M
theorem rs_frz (i : Nat) (h1 : RS A E s1 m1) : RS A E s1 (mFrz i m1) := fun s P0 H0 P σ H env D M e re l h => by
  obtain ⟨P', sp, e', re'⟩ := re.frz i e
  exact h1 s P0 H0 P' σ H _ D M e' re' (l.up sp) h
end
end Mt
/-! ### loops, errors, defs over data -/
namespace Mt
open PySem PySem.Spec PyProof.Rows L2 L2H
section
variable {A : Ad} {E : EK} {te ta tb tc : TE} {me ma mb mc : ME} {t u : TT} {mt mu : MT} {aa ar : TA} {am : MA} {K : PySem.W.Frag} {wi : TI} {mi : MA} {s1 s2 ts : TS} {m1 m2 ms : MS}
/-- a loop by an invariant over the turn and the slots -/
def forInv (mg : MG) (mb : MS) (M : MEnds) (xs : List T) (env : Env) : Prop := ∃ I : Nat → Env → Prop, I 0 env ∧ (∀ i x env, xs[i]? = some x → I i env → mg x env fun env' => mb env' { nx := I (i + 1), rt := M.rt, bk := M.nx, ct := I (i + 1), xr := M.xr }) ∧ ∀ env, I xs.length env → M.nx env
def mFor (mi : MA) (mg : MG) (mb : MS) : MS := fun env M => mi (M.xr env) env fun xs => forInv mg mb M xs env
theorem rs_for {g : TG} {mg : MG} {is : List Nat} {mb : MS} (hi : RI A E wi mi) (hg : RG g mg is) (hb : RS A E ts mb) : RS A E (tFor wi g ts) (mFor mi mg mb) := fun s P0 H0 P σ H env D M e re l h =>
  hi s H0 P σ H env _ _ _ re (l.xr P σ H env e (Same.refl _) re) h fun P1 H1 J xs e1 ij hl h1 => by
    obtain ⟨I, i0, iS, iE⟩ := h1
    refine ⟨fun i m σ H => m = xs.length - i ∧ i ≤ xs.length ∧ ∃ P' env, Ext s P0 H0 P' H ∧ Same P1 P' ∧ Rel s H0 P' σ H env ∧ I i env, ⟨xs.length, rfl, Nat.zero_le _, P1, env, e.trans e1, Same.refl _, re.ext e1, i0⟩, ?_⟩
    rintro i m σ H ⟨rfl, hi, P', env', e', sp, re', hgo⟩
    obtain ⟨j1, j2⟩ := ij P' H sp re'.wf
    by_cases hlt : i < xs.length
    · have hx' : xs[i]? = some xs[i] := List.getElem?_eq_getElem hlt
      obtain ⟨go, y⟩ := j1 i _ hx'
      have hgo := iS i _ _ hx' hgo
      refine Or.inr ⟨go, fun σ H => ∃ P' env, Ext s P0 H0 P' H ∧ Same P1 P' ∧ Rel s H0 P' σ H env ∧ I (i + 1) env, fun σ H z => ⟨xs.length - (i + 1), by omega, rfl, hlt, z⟩, fun xv H2 hy => ?_⟩
      obtain ⟨P2, e2, rx⟩ := y _ _ hy
      refine hg s H0 P2 σ H2 _ _ _ _ _ (re'.ext e2) rx hgo fun σ3 env3 re3 _ h3 => ?_
      have sp2 := sp.trans e2.sub
      exact hb s P0 H0 P2 σ3 H2 env3 _ { nx := I (i + 1), rt := M.rt, bk := M.nx, ct := I (i + 1), xr := M.xr } (e'.trans e2) re3
        ⟨fun P4 σ H env a b c d => ⟨P4, env, a, sp2.trans b, c, d⟩, fun P4 H v t a b => l.rt P4 H v t a (e1.sub.trans (sp2.trans b)), fun P4 σ H env a b => l.nx P4 σ H env a (e1.sub.trans (sp2.trans b)), fun P4 σ H env a b c d => ⟨P4, env, a, sp2.trans b, c, d⟩, fun P4 σ H env a b => l.xr P4 σ H env a (e1.sub.trans (sp2.trans b))⟩ h3
    · have ei : i = xs.length := by omega
      subst ei
      exact Or.inl ⟨j2 _ (Nat.le_refl _), l.nx P' σ H env' e' (e1.sub.trans sp) re' (iE _ hgo)⟩
def mWhile (mt : MT) (mb : MS) : MS := fun env M => ∃ I : Nat → Env → Prop, (∃ n, I n env) ∧ ∀ n env, I n env → mt (M.xr env) env fun b => if b = true then mb env { nx := fun env' => ∃ m, m < n ∧ I m env', rt := M.rt, bk := M.nx, ct := fun env' => ∃ m, m < n ∧ I m env', xr := M.xr } else M.nx env
theorem rs_while {mb : MS} (ht : RT A E t mt) (hb : RS A E ts mb) : RS A E (tWhile t ts) (mWhile mt mb) := fun s P0 H0 P σ H env D M e re l ⟨I, ⟨n, h1⟩, h2⟩ => by
  refine ⟨fun m σ H => ∃ P' env, Ext s P0 H0 P' H ∧ Same P P' ∧ Rel s H0 P' σ H env ∧ I m env, ⟨n, P, env, e, Same.refl _, re, h1⟩, ?_⟩
  rintro m σ H ⟨P', env', e', sp, re', hI⟩
  refine ht s H0 P' σ H env' _ _ _ re' (l.xr P' σ H env' e' sp re') (h2 m env' hI) fun P1 H1 b e1 h3 => ?_
  cases b with
  | true =>
    refine ⟨fun σ H => ∃ m', m' < m ∧ ∃ P' env, Ext s P0 H0 P' H ∧ Same P P' ∧ Rel s H0 P' σ H env ∧ I m' env, fun σ H z => z, ?_⟩
    have sp1 := sp.trans e1.sub
    exact hb s P0 H0 P1 σ H1 env' _ { nx := fun env' => ∃ m', m' < m ∧ I m' env', rt := M.rt, bk := M.nx, ct := fun env' => ∃ m', m' < m ∧ I m' env', xr := M.xr } (e'.trans e1) (re'.ext e1)
      ⟨fun P4 σ H env a b c ⟨m', d, f⟩ => ⟨m', d, P4, env, a, sp1.trans b, c, f⟩, fun P4 H v t a b => l.rt P4 H v t a (sp1.trans b), fun P4 σ H env a b => l.nx P4 σ H env a (sp1.trans b), fun P4 σ H env a b c ⟨m', d, f⟩ => ⟨m', d, P4, env, a, sp1.trans b, c, f⟩, fun P4 σ H env a b => l.xr P4 σ H env a (sp1.trans b)⟩ h3
  | false => exact l.nx P1 σ H1 env' (e'.trans e1) (sp.trans e1.sub) (re'.ext e1) h3
/-! x op= e; a, b = e, f -/
def RIp (r : TIp) (o : T → T → (T → Prop) → Prop) : Prop := ∀ s P H x y d e k Q, WF s P H → Rp s P d x → Rp s P e y → o d e k → (∀ P' H' v t, Ext s P H P' H' → Rp s P' t v → k t → Q v H') → r x y H Q
def mAug (i : Nat) (me : ME) (o : T → T → (T → Prop) → Prop) : MS := fun env M => ∃ d, env[i]? = some (some (.d d)) ∧ me (M.xr env) env fun e => o d e fun t => M.nx (env.set i (some (.d t)))
theorem rs_aug {i : Nat} {r : TIp} {o : T → T → (T → Prop) → Prop} (ho : RIp r o) (ha : RE A E te me) : RS A E (tAug i te r) (mAug i me o) := fun s P0 H0 P σ H env D M e re l ⟨d, h1, h2⟩ => by
  obtain ⟨v, g1, g2⟩ := re.data h1
  refine ⟨v, g1, ha s H0 P σ H env _ _ _ re (l.xr P σ H env e (Same.refl _) re) h2 fun P1 H1 w f e1 r1 h3 => ho s P1 H1 v w d f _ _ e1.wf (rp_same e1.sub _ _ g2) r1 h3 fun P2 H2 z t e2 r2 h4 => ?_⟩
  exact l.nx P2 _ H2 _ (e.trans (e1.trans e2)) (e1.sub.trans e2.sub) (((re.ext e1).ext e2).put r2) h4
def mPar (i j : Nat) (am : MA) : MS := fun env M => am (M.xr env) env fun ds => ∃ a b, ds = [a, b] ∧ M.nx ((env.set i (some (.d a))).set j (some (.d b)))
theorem rs_par {i j : Nat} (ha : RA A E aa am) : RS A E (tPar i j aa) (mPar i j am) := fun s P0 H0 P σ H env D M e re l h =>
  ha s H0 P σ H env _ _ _ re (l.xr P σ H env e (Same.refl _) re) h fun P1 H1 vs ds e1 r1 ⟨a, b, h1, h2⟩ => by
    subst h1
    obtain ⟨v, w, rfl, g1, g2⟩ := rps2 r1
    exact ⟨v, w, rfl, l.nx P1 _ H1 _ (e.trans e1) e1.sub (((re.ext e1).put g1).put g2) h2⟩
/-! raise C(e), C one of the classes whose errors bear an argument -/
def mRaise (c : Ec) (me : ME) : MS := fun env M => me (M.xr env) env fun d => M.xr env (.arg c d)
theorem rs_raise {W : WX} {c : Ec} {C : Addr} (hC : C = c.adr A) (hat : c.attr = "argument") (ha : RE A (WE W) te me) : RS A (WE W) (fun _ σ H => tMkO C (sp_init K C) [] (tCons te tNil) σ H fun cls d H' => W cls d σ H') (mRaise c me) := fun s P0 H0 P σ H env D M e re l h => by
  have xc := l.xr P σ H env e (Same.refl _) re
  show tMkO C (sp_init K C) [] (tCons te tNil) σ H _
  rw [w_mkO]
  refine ha s H0 P σ H env _ _ _ re xc h fun P1 H1 v d e1 r1 h1 => ?_
  refine ⟨by show 1 ≤ 1000; decide, fun a hna => ?_⟩
  show sp_init K C [V.ref a, v] _ _ _
  refine u_mkO (Q := fun cls d H' => W cls d σ H') (fun dd hd => ?_) a hna
  have e2 := ext_own (o := .xd [("argument", v)]) e1.wf hd
  refine xc P1 _ (.arg c d) _ _ (e1.trans e2) h1 ⟨by rw [hC], dd, v, rfl, ?_, r1⟩
  rw [hat]
  exact upd_same
/-! try: .. except C as n: suite -/
/-- the classes' places, where each is one of C -/
structure AllOf (K : PySem.W.Frag) (A : Ad) (C : Value) : Prop where
  bn : PySem.W.exmOne K (.ref A.bn) C = some true
  bs : PySem.W.exmOne K (.ref A.bs) C = some true
  be : PySem.W.exmOne K (.ref A.be) C = some true
  bt : PySem.W.exmOne K (.ref A.bt) C = some true
  tl : PySem.W.exmOne K (.ref A.tl) C = some true
  cl : PySem.W.exmOne K (.ref A.cl) C = some true
  ni : PySem.W.exmOne K (.ref A.ni) C = some true
  nm : PySem.W.exmOne K (.ref A.nm) C = some true
  en : PySem.W.exmOne K (.ref A.en) C = some true
/-- which errors the clause takes -/
def Takes1 (K : PySem.W.Frag) (A : Ad) (C : Value) (x : Ex) : Prop := match x with
  | .arg c _ => PySem.W.exmOne K (.ref (c.adr A)) C = some true
  | .ni => PySem.W.exmOne K (.ref A.ni) C = some true
  | .nm => PySem.W.exmOne K (.ref A.nm) C = some true
  | .en => PySem.W.exmOne K (.ref A.en) C = some true
theorem takes1_cls {C cls : Value} {x : Ex} {s : Option Addr} {P H : Hp} {d : Option Addr} (h : Takes1 K A C x) (g : ExAt A s P H x cls d) : PySem.W.exmOne K cls C = some true := by
  cases x with
  | arg c pl => rw [g.1]; exact h
  | ni => rw [g.1]; exact h
  | nm => rw [g.1]; exact h
  | en => rw [g.1]; exact h
/-- the suite's reading, and what is left over data: the error x caught -/
def RH (A : Ad) (E : EK) (i : Nat) (ts : Addr → Value → Option Addr → TS) (mh : Ex → MS) : Prop := ∀ a cls d x s P0 H0 P σ H env D M, σ[i]? = some (some (.ref a)) → H a = none → ExAt A s P H x cls d → Ext s P0 H0 P H → Rel s H0 P σ H env → Link A E s P0 H0 P D M → mh x env M → ts a cls d D σ H
def tryM (K : PySem.W.Frag) (A : Ad) (C : Value) (i : Nat) (mh : Ex → MS) (M : MEnds) : MEnds := { M with xr := fun env' x => Takes1 K A C x ∧ i < env'.length ∧ mh x (env'.set i none) { nx := fun e2 => M.nx (e2.set i none), rt := M.rt, bk := fun e2 => M.bk (e2.set i none), ct := fun e2 => M.ct (e2.set i none), xr := M.xr } }
def mTry (K : PySem.W.Frag) (A : Ad) (C : Value) (i : Nat) (mb : MS) (mh : Ex → MS) : MS := fun env M => mb env (tryM K A C i mh M)
theorem rs_try {C : Value} {i : Nat} {tb : WX → TS} {mb : MS} {mh : Ex → MS} {ts : Addr → Value → Option Addr → TS} {Wout : WX} (hb : ∀ W, RS A (WE W) (tb W) mb) (hh : RH A E i ts mh) : RS A E (fun D σ H => tb (wAs K C i ts Wout D) D σ H) (mTry K A C i mb mh) := fun s P0 H0 P σ H env D M e re l h => by
  refine hb (wAs K C i ts Wout D) s P0 H0 P σ H env D (tryM K A C i mh M) e re ⟨l.nx, l.rt, l.bk, l.ct, fun P1 σ1 H1 env1 e1 sp re1 P2 H2 x cls d e2 hx hat => ?_⟩ h
  obtain ⟨hk, hil, hx⟩ := hx
  refine ⟨true, takes1_cls hk hat, fun _ a ha => ?_, fun z => nomatch z⟩
  have re2 := re1.ext e2
  have li : i < σ1.length := by rw [re1.len]; exact hil
  have sp2 := sp.trans e2.sub
  refine hh a cls d x s P0 H0 P2 _ H2 _ _ { nx := fun e2 => M.nx (e2.set i none), rt := M.rt, bk := fun e2 => M.bk (e2.set i none), ct := fun e2 => M.ct (e2.set i none), xr := M.xr } (List.getElem?_set_self li) ha hat (e1.trans e2) re2.drop ⟨fun P3 σ3 H3 env3 a3 b3 c3 => l.nx P3 _ H3 _ a3 (sp2.trans b3) c3.drop, fun P3 H3 v t a3 b3 => l.rt P3 H3 v t a3 (sp2.trans b3), fun P3 σ3 H3 env3 a3 b3 c3 => l.bk P3 _ H3 _ a3 (sp2.trans b3) c3.drop, fun P3 σ3 H3 env3 a3 b3 c3 => l.ct P3 _ H3 _ a3 (sp2.trans b3) c3.drop, fun P3 σ3 H3 env3 a3 b3 => l.xr P3 σ3 H3 env3 a3 (sp2.trans b3)⟩ hx
/-- a suite that does not look at the error -/
theorem rh_plain {i : Nat} {ts : TS} {ms : MS} (h : RS A E ts ms) : RH A E i (fun _ _ _ => ts) (fun _ => ms) := fun a cls d x s P0 H0 P σ H env D M _ _ _ e re l hm => h s P0 H0 P σ H env D M e re l hm
/-! a def's run -/
def startE (n : Nat) (ds : List T) : Env := ds.map (fun d => some (Sl.d d)) ++ List.replicate (n - ds.length) none
theorem rel_start {s : Option Addr} {P H : Hp} {N : List Str} {ds : List T} {vs : List V} (w : WF s P H) (r : Rps s P ds vs) : Rel s H P (L2.start N vs) H (startE N.length ds) := by
  refine ⟨w, ?_, fun _ => 0, fun i j hi => ?_, fun i x hx => ?_⟩
  · rw [w_start]
    unfold startE
    rw [List.length_append, List.length_append, List.length_map, List.length_map, List.length_replicate, List.length_replicate, rps_len r]
  · obtain ⟨es, h, mm⟩ := hi
    unfold startE at h
    rcases Nat.lt_or_ge i ds.length with z | z
    · rw [List.getElem?_append_left (by rw [List.length_map]; exact z), List.getElem?_map, List.getElem?_eq_getElem z] at h
      cases h
      cases mm
    · rw [List.getElem?_append_right (by rw [List.length_map]; exact z), List.getElem?_replicate] at h
      split at h
      · cases h
      · cases h
  · unfold startE at hx
    rcases Nat.lt_or_ge i ds.length with z | z
    · rw [List.getElem?_append_left (by rw [List.length_map]; exact z), List.getElem?_map, List.getElem?_eq_getElem z] at hx
      cases hx
      obtain ⟨v, h1, h2⟩ := rps_at r (List.getElem?_eq_getElem z)
      refine ⟨v, ?_, h2⟩
      rw [w_start, List.getElem?_append_left (by rw [List.length_map, rps_len r]; exact z), List.getElem?_map, h1]
      rfl
    · rw [List.getElem?_append_right (by rw [List.length_map]; exact z), List.getElem?_replicate] at hx
      split at hx <;> cases hx
theorem run0 {s : Option Addr} {P H : Hp} {ds : List T} {k : T → Prop} {XA : Ex → Prop} {N : List Str} {vs : List V} {Q : VK} {ts : TS} {ms : MS} (h1 : WF s P H) (h2 : Rps s P ds vs) (h5 : ∀ P' H' v d, Ext s P H P' H' → Rp s P' d v → k d → Q v H') (r : RS A ET ts ms) (u : ms (startE N.length ds) { nx := fun _ => k .non, rt := k, xr := fun _ => XA }) :
    ts { nx := fun _ H' => Q .non H', rt := Q } (L2.start N vs) H :=
  r s P H P _ H _ _ { nx := fun _ => k .non, rt := k, xr := fun _ => XA } (Ext.refl h1) (rel_start h1 h2) ⟨fun P' σ H' env e _ _ h => h5 P' H' _ _ e (by simp [Rp]) h, fun P' H' v t e _ rp h => h5 P' H' v t e rp h, fun _ _ _ _ _ _ _ h => h.elim, fun _ _ _ _ _ _ _ h => h.elim, fun _ _ _ _ _ _ _ => xc_true⟩ u
theorem runX {s : Option Addr} {P H : Hp} {ds : List T} {k : T → Prop} {XA : Ex → Prop} {N : List Str} {vs : List V} {Q : VK} {E' : XK} {W : WX} {ts : TS} {ms : MS} (h1 : WF s P H) (h2 : Rps s P ds vs) (h5 : ∀ P' H' v d, Ext s P H P' H' → Rp s P' d v → k d → Q v H') (h6 : ∀ P' H' x C d, Ext s P H P' H' → XA x → ExAt A s P' H' x C d → E' C d H') (hW : ∀ cls d σ H, E' cls d H → W cls d σ H) (r : RS A (WE W) ts ms) (u : ms (startE N.length ds) { nx := fun _ => k .non, rt := k, xr := fun _ => XA }) :
    ts { nx := fun _ H' => Q .non H', rt := Q } (L2.start N vs) H :=
  r s P H P _ H _ _ { nx := fun _ => k .non, rt := k, xr := fun _ => XA } (Ext.refl h1) (rel_start h1 h2) ⟨fun P' σ H' env e _ _ h => h5 P' H' _ _ e (by simp [Rp]) h, fun P' H' v t e _ rp h => h5 P' H' v t e rp h, fun _ _ _ _ _ _ _ h => h.elim, fun _ _ _ _ _ _ _ h => h.elim, fun P' σ H' env e _ _ P2 H2 x C d e2 hx hat => hW _ _ _ _ (h6 P2 H2 x C d (e.trans e2) hx hat)⟩ u
end
end Mt
/-! ### more operators; the words by rewriting; calls with keywords -/
namespace Mt
open PySem PySem.Spec PyProof.Rows L2 L2H
section
variable {X : Cx}
def rMax2H : List V → Hp → VK → Prop := fun xs H Q => ∃ i j, xs = [.int i, .int j] ∧ Q (.int (if j > i then j else i)) H
def rMin2H : List V → Hp → VK → Prop := fun xs H Q => ∃ i j, xs = [.int i, .int j] ∧ Q (.int (if j < i then j else i)) H
def rDivmodH : List V → Hp → VK → Prop := fun xs H Q => ∃ i j, xs = [.int i, .int j] ∧ CDiv i j ∧ ∀ p, H p = none → Q (.ref p) (upd H p (.tup [.int (i / j), .int (i % j)]))
theorem call_max2H (hc : X.calm = true) : CallR X (.builtin "max") rMax2H := call_max2 hc
theorem call_min2H (hc : X.calm = true) : CallR X (.builtin "min") rMin2H := call_min2 hc
def rIsNH : R2 := fun x y H Q => y = .non ∧ Q (.bl (decide (x = .non))) H
def rNotNH : R2 := fun x y H Q => y = .non ∧ Q (.bl (!decide (x = .non))) H
theorem op_isNH : OpR X (compareOp .Is) rIsNH := op_isN
theorem op_notNH : OpR X (compareOp .IsNot) rNotNH := op_notN
theorem call_divmodH : CallR X (.builtin "divmod") rDivmodH := call_divmod
end
section
variable {A : Ad} {E : EK} {te ta tb tc : TE} {me ma mb mc : ME} {t u : TT} {mt mu : MT} {aa ar ak : TA} {am ap : MA} {K : PySem.W.Frag} {wi : TI} {mi : MA} {s1 s2 ts : TS} {m1 m2 ms : MS}
def oMax : List T → (T → Prop) → Prop := fun ds k => ∃ i j, ds = [.int i, .int j] ∧ k (.int (max i j))
def oMin : List T → (T → Prop) → Prop := fun ds k => ∃ i j, ds = [.int i, .int j] ∧ k (.int (min i j))
def oDivmod : List T → (T → Prop) → Prop := fun ds k => ∃ i j, ds = [.int i, .int j] ∧ CDiv i j ∧ k (.tup [.int (i / j), .int (i % j)])
theorem rcb_max2 : RCB rMax2H oMax := fun s P H vs ds k Q w h ⟨i, j, g1, h3⟩ q => by
  subst g1
  obtain ⟨v, u, rfl, h1, h2⟩ := rps2 h
  have e : (if j > i then j else i) = max i j := by omega
  exact ⟨i, j, by rw [rp_int h1, rp_int h2], by rw [e]; exact q P H _ _ (Ext.refl w) (by simp [Rp]) h3⟩
theorem rcb_min2 : RCB rMin2H oMin := fun s P H vs ds k Q w h ⟨i, j, g1, h3⟩ q => by
  subst g1
  obtain ⟨v, u, rfl, h1, h2⟩ := rps2 h
  have e : (if j < i then j else i) = min i j := by omega
  exact ⟨i, j, by rw [rp_int h1, rp_int h2], by rw [e]; exact q P H _ _ (Ext.refl w) (by simp [Rp]) h3⟩
theorem rcb_divmod : RCB rDivmodH oDivmod := fun s P H vs ds k Q w h ⟨i, j, g1, c, h3⟩ q => by
  subst g1
  obtain ⟨v, u, rfl, h1, h2⟩ := rps2 h
  refine ⟨i, j, by rw [rp_int h1, rp_int h2], c, fun p hp => ?_⟩
  have e2 := ext_new (o := .tup [.int (i / j), .int (i % j)]) w hp
  refine q _ _ _ _ e2 ?_ h3
  simp only [Rp]
  exact ⟨p, _, rfl, upd_same, rps_cons (by simp [Rp]) (rps_cons (by simp [Rp]) rps_nil), by show 2 < 1000000; decide⟩
/-! is None, is not None by the operators' rules -/
def oIsN : T → T → (T → Prop) → Prop := fun d e k => e = .non ∧ k (.bl (isNon d))
def oNotN : T → T → (T → Prop) → Prop := fun d e k => e = .non ∧ k (.bl (!isNon d))
theorem ro_isN : ROp rIsNH oIsN := fun s P H x y d e k Q w h1 h2 ⟨e1, h⟩ q => by
  subst e1
  simp only [Rp] at h2
  exact ⟨h2, by rw [rp_non h1]; exact q P H _ _ (Ext.refl w) (by simp [Rp]) h⟩
theorem ro_notN : ROp rNotNH oNotN := fun s P H x y d e k Q w h1 h2 ⟨e1, h⟩ q => by
  subst e1
  simp only [Rp] at h2
  exact ⟨h2, by rw [rp_non h1]; exact q P H _ _ (Ext.refl w) (by simp [Rp]) h⟩
theorem oIsN_w {d : T} {k : T → Prop} : oIsN d .non k = k (.bl (isNon d)) := propext ⟨fun h => h.2, fun h => ⟨rfl, h⟩⟩
theorem oNotN_w {d : T} {k : T → Prop} : oNotN d .non k = k (.bl (!isNon d)) := propext ⟨fun h => h.2, fun h => ⟨rfl, h⟩⟩
/-! the caught error is looked at by a def -/
def exName : Ex → Str
  | .arg .bn _ => "BadNumber"
  | .arg .bs _ => "BadShape"
  | .arg .be _ => "BadElement"
  | .arg .bt _ => "BadText"
  | .arg .tl _ => "TooLarge"
  | .arg .cl _ => "Clash"
  | .ni => "NoInverse"
  | .nm => "NotMade"
  | .en => "Ended"
def exPl : Ex → T
  | .arg _ p => p
  | _ => .non
/-- a def of a suite that tells the error by its name and what it bears: of the errors with an argument -/
def SpK (A : Ad) (al : Ec → Bool) (p : Addr × Obj) : Sp := fun vs H Q _ => ∃ (c : Ec) (d : Addr) (y : V), vs = [.ref p.1] ∧ al c = true ∧ c.attr = "argument" ∧ ErrAt p (c.adr A) d ∧ H d = some (.xd [("argument", y)]) ∧
  ∀ t H', Same H H' → H t = none → H' t = some (.tup [.str (exName (.arg c .non)), y]) → Q (.ref t) H'
def mKind (al : Ec → Bool) (x : Ex) : MS := fun _ M => ∃ c pl, x = .arg c pl ∧ al c = true ∧ c.attr = "argument" ∧ M.rt (.tup [.str (exName x), pl])
theorem exName_pl {c : Ec} {a b : T} : exName (.arg c a) = exName (.arg c b) := by cases c <;> rfl
theorem rh_kind {al : Ec → Bool} {i : Nat} : RH A E i (fun a cls d => tRet (tCallE a cls d (SpK A al) (tCons (tVar i) tNil))) (mKind al) := fun a cls d x s P0 H0 P σ H env D M hi ha hx e re l ⟨c, pl, hx2, hal, hat, h⟩ => by
  subst hx2
  obtain ⟨rfl, dd, v, rfl, hd, hr⟩ := hx
  refine ⟨_, dd, rfl, rfl, .ref a, hi, fun oe he => ⟨c, dd, v, rfl, hal, hat, he, by rw [hat] at hd; exact hd, fun t H' sm ht et => ?_⟩⟩
  -- the new pair is data; what else is new is nobody's
  have w := re.wf
  have tP : P t = none := w.sub.free ht
  have sP : Same P (upd P t (.tup [.str (exName (.arg c .non)), v])) := same_new tP
  have ts : ∀ b, s = some b → b ≠ t := fun b hb z => by
    obtain ⟨_, u, _, h3⟩ := w.sto b hb
    rw [z, ht] at h3
    cases h3
  have e2 : Ext s P H (upd P t (.tup [.str (exName (.arg c .non)), v])) H' := by
    refine ⟨⟨fun b o g => ?_, fun b hb => ?_⟩, sP, fun b o _ g => sm _ _ g, fun b hb g => ?_⟩
    · by_cases z : b = t
      · rw [z, upd_same] at g
        rw [z, ← g]
        exact et
      · rw [upd_ne z] at g
        exact sm _ _ (w.sub _ _ g)
    · obtain ⟨g1, u, g2, g3⟩ := w.sto b hb
      exact ⟨by rw [upd_ne (ts b hb)]; exact g1, u, stok_same sP g2, sm _ _ g3⟩
    · by_cases z : b = t
      · rw [z]
        exact ht
      · rw [upd_ne z] at g
        exact absurd hb g
  refine l.rt _ H' (.ref t) _ (e.trans e2) sP ?_ h
  simp only [Rp]
  exact ⟨t, _, rfl, upd_same, rps_cons (by simp only [Rp]; rw [exName_pl]) (rps_cons (rp_same sP _ _ hr) rps_nil), by show 2 < 1000000; decide⟩
/-! ### readings by rewriting -/
theorem oI_w {g : Int → Int → Int} {a b : Int} {k : T → Prop} : oI g (.int a) (.int b) k = k (.int (g a b)) := propext ⟨fun ⟨i, j, e1, e2, h⟩ => by cases e1; cases e2; exact h, fun h => ⟨a, b, rfl, rfl, h⟩⟩
theorem oB_w {g : Int → Int → Bool} {a b : Int} {k : T → Prop} : oB g (.int a) (.int b) k = k (.bl (g a b)) := propext ⟨fun ⟨i, j, e1, e2, h⟩ => by cases e1; cases e2; exact h, fun h => ⟨a, b, rfl, rfl, h⟩⟩
theorem oIC_w {C : Int → Int → Prop} {g : Int → Int → Int} {a b : Int} {k : T → Prop} : oIC C g (.int a) (.int b) k = (C a b ∧ k (.int (g a b))) := propext ⟨fun ⟨i, j, e1, e2, c, h⟩ => by cases e1; cases e2; exact ⟨c, h⟩, fun ⟨c, h⟩ => ⟨a, b, rfl, rfl, c, h⟩⟩
theorem oU_w {g : Int → Int} {a : Int} {k : T → Prop} : oU g (.int a) k = k (.int (g a)) := propext ⟨fun ⟨i, e1, h⟩ => by cases e1; exact h, fun h => ⟨a, rfl, h⟩⟩
theorem isB_w {b : Bool} {k : Bool → Prop} : isB (.bl b) k = k b := propext ⟨fun ⟨c, e, h⟩ => by cases e; exact h, fun h => ⟨b, rfl, h⟩⟩
theorem oEq_w {a b : T} {k : T → Prop} : oEq a b k = ∃ c, scEq a b = some c ∧ k (.bl c) := rfl
theorem oNe_w {a b : T} {k : T → Prop} : oNe a b k = ∃ c, scEq a b = some c ∧ k (.bl (!c)) := rfl
theorem exS_w {α : Type} {a : α} {R : α → Prop} : (∃ c, some a = some c ∧ R c) = R a := propext ⟨fun ⟨c, e, h⟩ => by cases e; exact h, fun h => ⟨a, rfl, h⟩⟩
theorem oIx_w {d : T} {i : Int} {k : T → Prop} : oIx d (.int i) k = ∃ ds, itemsOf d = some ds ∧ ∃ t, atI ds i = some t ∧ k t := propext ⟨fun ⟨ds, j, t, h1, e, h2, h⟩ => by cases e; exact ⟨ds, h1, t, h2, h⟩, fun ⟨ds, h1, t, h2, h⟩ => ⟨ds, i, t, h1, rfl, h2, h⟩⟩
theorem items_l {ds : List T} : itemsOf (.lst ds) = some ds := rfl
theorem items_t {ds : List T} : itemsOf (.tup ds) = some ds := rfl
theorem oLen_w {d : T} {k : T → Prop} : oLen [d] k = ∃ es, itemsOf d = some es ∧ (es.length < 1000000 → k (.int es.length)) := propext ⟨fun ⟨d', es, e, h1, h⟩ => by cases e; exact ⟨es, h1, h⟩, fun ⟨es, h1, h⟩ => ⟨d, es, rfl, h1, h⟩⟩
theorem oAbs_w {i : Int} {k : T → Prop} : oAbs [.int i] k = k (.int (if i < 0 then -i else i)) := propext ⟨fun ⟨a, e, h⟩ => by cases e; exact h, fun h => ⟨i, rfl, h⟩⟩
theorem oInt_i {i : Int} {k : T → Prop} : oInt [.int i] k = k (.int i) := propext ⟨fun h => by rcases h with ⟨a, e, h⟩ | ⟨a, e, h⟩ <;> cases e; exact h, fun h => Or.inl ⟨i, rfl, h⟩⟩
theorem oInt_b {i : Bool} {k : T → Prop} : oInt [.bl i] k = k (.int (if i = true then 1 else 0)) := propext ⟨fun h => by rcases h with ⟨a, e, h⟩ | ⟨a, e, h⟩ <;> cases e; exact h, fun h => Or.inr ⟨i, rfl, h⟩⟩
theorem oGcd_w {a b : Int} {k : T → Prop} : oGcd [.int a, .int b] k = k (.int ((Nat.gcd a.natAbs b.natAbs : Nat) : Int)) := propext ⟨fun ⟨i, j, e, h⟩ => by cases e; exact h, fun h => ⟨a, b, rfl, h⟩⟩
theorem oMax_w {a b : Int} {k : T → Prop} : oMax [.int a, .int b] k = k (.int (max a b)) := propext ⟨fun ⟨i, j, e, h⟩ => by cases e; exact h, fun h => ⟨a, b, rfl, h⟩⟩
theorem oMin_w {a b : Int} {k : T → Prop} : oMin [.int a, .int b] k = k (.int (min a b)) := propext ⟨fun ⟨i, j, e, h⟩ => by cases e; exact h, fun h => ⟨a, b, rfl, h⟩⟩
theorem oDivmod_w {a b : Int} {k : T → Prop} : oDivmod [.int a, .int b] k = (CDiv a b ∧ k (.tup [.int (a / b), .int (a % b)])) := propext ⟨fun ⟨i, j, e, c, h⟩ => by cases e; exact ⟨c, h⟩, fun ⟨c, h⟩ => ⟨a, b, rfl, c, h⟩⟩
theorem oStr_w {i : Int} {k : T → Prop} : oStr [.int i] k = (i.natAbs.log2 < 1920 ∧ k (.str (Str.ofString (toString i)))) := propext ⟨fun ⟨a, e, c, h⟩ => by cases e; exact ⟨c, h⟩, fun ⟨c, h⟩ => ⟨i, rfl, c, h⟩⟩
theorem oType_w {d : T} {k : T → Prop} : oType [d] k = ∃ n, tyT d = some n ∧ k (.ty n) := propext ⟨fun ⟨d', n, e, h1, h⟩ => by cases e; exact ⟨n, h1, h⟩, fun ⟨n, h1, h⟩ => ⟨d, n, rfl, h1, h⟩⟩
theorem oIs1_w {d : T} {n : String} {k : T → Prop} : oIs1 [d, .ty n] k = ∃ m, tyT d = some m ∧ ∃ b, kitB m n = some b ∧ k (.bl b) := propext ⟨fun ⟨d', n', m, b, e, h1, h2, h⟩ => by cases e; exact ⟨m, h1, b, h2, h⟩, fun ⟨m, h1, b, h2, h⟩ => ⟨d, n, m, b, rfl, h1, h2, h⟩⟩
theorem oIs2_w {d : T} {n1 n2 : String} {k : T → Prop} : oIs2 [d, .tup [.ty n1, .ty n2]] k = ∃ m, tyT d = some m ∧ ∃ b, kitB m n1 = some b ∧ ∃ c, kitB m n2 = some c ∧ k (.bl (b || c)) :=
  propext ⟨fun ⟨d', a, a', m, b, c, e, h1, h2, h3, h⟩ => by cases e; exact ⟨m, h1, b, h2, c, h3, h⟩, fun ⟨m, h1, b, h2, c, h3, h⟩ => ⟨d, n1, n2, m, b, c, rfl, h1, h2, h3, h⟩⟩
theorem oIsTy_w {m n : String} {k : T → Prop} : oIsTy (.ty m) (.ty n) k = k (.bl (decide (m = n))) := propext ⟨fun ⟨a, b, e1, e2, h⟩ => by cases e1; cases e2; exact h, fun h => ⟨m, n, rfl, rfl, h⟩⟩
theorem oCat_w {a b : List T} {k : T → Prop} : oCat (.lst a) (.lst b) k = (a.length + b.length < 1000000 ∧ k (.lst (a ++ b))) := propext ⟨fun ⟨i, j, e1, e2, c, h⟩ => by cases e1; cases e2; exact ⟨c, h⟩, fun ⟨c, h⟩ => ⟨a, b, rfl, rfl, c, h⟩⟩
theorem exD_w {x : T} {R : T → Prop} : (∃ d, some (some (Sl.d x)) = some (some (Sl.d d)) ∧ R d) = R x := propext ⟨fun ⟨c, e, h⟩ => by cases e; exact h, fun h => ⟨x, rfl, h⟩⟩
theorem exO_w {x : List T} {R : List T → Prop} : (∃ d, some (some (Sl.own x)) = some (some (Sl.own d)) ∧ R d) = R x := propext ⟨fun ⟨c, e, h⟩ => by cases e; exact h, fun h => ⟨x, rfl, h⟩⟩
theorem exD2_w {x : T} {R : T → Prop} : (∃ d, Sl.d x = Sl.d d ∧ R d) = R x := propext ⟨fun ⟨c, e, h⟩ => by cases e; exact h, fun h => ⟨x, rfl, h⟩⟩
theorem exO2_w {x : List T} {R : List T → Prop} : (∃ d, Sl.own x = Sl.own d ∧ R d) = R x := propext ⟨fun ⟨c, e, h⟩ => by cases e; exact h, fun h => ⟨x, rfl, h⟩⟩
theorem scEq_i {i j : Int} : scEq (.int i) (.int j) = some (decide (i = j)) := rfl
theorem scEq_b {i j : Bool} : scEq (.bl i) (.bl j) = some (decide (i = j)) := rfl
theorem scEq_s {i j : Str} : scEq (.str i) (.str j) = some (decide (i = j)) := rfl
theorem scEq_n : scEq .non .non = some true := rfl
theorem exL_w {x : List T} {R : List T → Prop} : (∃ d, T.lst x = T.lst d ∧ R d) = R x := propext ⟨fun ⟨c, e, h⟩ => by cases e; exact h, fun h => ⟨x, rfl, h⟩⟩
theorem exT_w {x : List T} {R : List T → Prop} : (∃ d, T.tup x = T.tup d ∧ R d) = R x := propext ⟨fun ⟨c, e, h⟩ => by cases e; exact h, fun h => ⟨x, rfl, h⟩⟩
theorem exI_w {x : Int} {R : Int → Prop} : (∃ d, T.int x = T.int d ∧ R d) = R x := propext ⟨fun ⟨c, e, h⟩ => by cases e; exact h, fun h => ⟨x, rfl, h⟩⟩
theorem ex1_w {x : T} {R : T → Prop} : (∃ d, [x] = [d] ∧ R d) = R x := propext ⟨fun ⟨c, e, h⟩ => by cases e; exact h, fun h => ⟨x, rfl, h⟩⟩
theorem ex1i_w {x : Int} {R : Int → Prop} : (∃ d, [T.int x] = [T.int d] ∧ R d) = R x := propext ⟨fun ⟨c, e, h⟩ => by cases e; exact h, fun h => ⟨x, rfl, h⟩⟩
theorem mSeqV_w {i : Nat} {env : Env} {k : List T → Prop} : mSeqV i env k = ∃ x, env[i]? = some (some x) ∧ ∃ ds, seqOf x = some ds ∧ k ds := propext ⟨fun ⟨x, ds, h1, h2, h⟩ => ⟨x, h1, ds, h2, h⟩, fun ⟨x, h1, ds, h2, h⟩ => ⟨x, ds, h1, h2, h⟩⟩
theorem exX_w {x : Sl} {R : Sl → Prop} : (∃ d, some (some x) = some (some d) ∧ R d) = R x := propext ⟨fun ⟨c, e, h⟩ => by cases e; exact h, fun h => ⟨x, rfl, h⟩⟩
theorem seqOf_o {ds : List T} : seqOf (.own ds) = some ds := rfl
theorem seqOf_d {t : T} : seqOf (.d t) = itemsOf t := rfl
theorem mgCons_w {m : MG} {ms : MGs} {t : T} {ts : List T} {env : Env} {k : Env → Prop} : mgCons m ms (t :: ts) env k = m t env fun env' => ms ts env' k := propext ⟨fun ⟨a, b, e, h⟩ => by cases e; exact h, fun h => ⟨t, ts, rfl, h⟩⟩
theorem mgNil_w {env : Env} {k : Env → Prop} : mgNil [] env k = k env := propext ⟨fun ⟨_, h⟩ => h, fun h => ⟨rfl, h⟩⟩
theorem mgTup_w {n : Nat} {ms : MGs} {ds : List T} {env : Env} {k : Env → Prop} : mgTup n ms (.tup ds) env k = (ds.length = n ∧ ms ds env k) := propext ⟨fun ⟨a, e, h⟩ => by cases e; exact h, fun h => ⟨ds, rfl, h⟩⟩
theorem listC_w {x : T} {R : List T → Prop} : (∃ d es, [x] = [d] ∧ itemsOf d = some es ∧ R es) = ∃ es, itemsOf x = some es ∧ R es := propext ⟨fun ⟨d, es, e, h1, h⟩ => by cases e; exact ⟨es, h1, h⟩, fun ⟨es, h1, h⟩ => ⟨x, es, rfl, h1, h⟩⟩
theorem putI_w {j : Int} {m : Nat} {R : Nat → Prop} : (∃ n q, T.int j = T.int n ∧ ixN m n = some q ∧ R q) = ∃ q, ixN m j = some q ∧ R q := propext ⟨fun ⟨n, q, e, h1, h⟩ => by cases e; exact ⟨q, h1, h⟩, fun ⟨q, h1, h⟩ => ⟨j, q, rfl, h1, h⟩⟩
theorem ixV_w {j : Int} {ds : List T} {R : T → Prop} : (∃ n t, T.int j = T.int n ∧ atI ds n = some t ∧ R t) = ∃ t, atI ds j = some t ∧ R t := propext ⟨fun ⟨n, q, e, h1, h⟩ => by cases e; exact ⟨q, h1, h⟩, fun ⟨q, h1, h⟩ => ⟨j, q, rfl, h1, h⟩⟩
theorem exPar_w {a b : T} {R : T → T → Prop} : (∃ x y, [a, b] = [x, y] ∧ R x y) = R a b := propext ⟨fun ⟨x, y, e, h⟩ => by cases e; exact h, fun h => ⟨a, b, rfl, h⟩⟩
theorem rng1_w {j : Int} {R : Int → Prop} : (∃ i, [T.int j] = [T.int i] ∧ i < 1000000 ∧ -1000000 < i ∧ R i) = (j < 1000000 ∧ -1000000 < j ∧ R j) := propext ⟨fun ⟨x, e, h⟩ => by cases e; exact h, fun h => ⟨j, rfl, h⟩⟩
theorem rng2_w {a b : Int} {R : Int → Int → Prop} : (∃ i j, [T.int a, T.int b] = [T.int i, T.int j] ∧ R i j) = R a b := propext ⟨fun ⟨x, y, e, h⟩ => by cases e; exact h, fun h => ⟨a, b, rfl, h⟩⟩
def lcGo (f : T → (Option T → Prop) → Prop) : List T → List T → (List T → Prop) → Prop
  | [], acc, k => k acc
  | x :: xs, acc, k => f x fun o => match o with
    | some d => lcGo f xs (acc ++ [d]) k
    | none => lcGo f xs acc k
/-- turn by turn -/
theorem lc_go {f : T → (Option T → Prop) → Prop} {xs : List T} {k : List T → Prop} (h : lcGo f xs [] k) : lcInv f xs k := by
  refine ⟨fun i acc => lcGo f (xs.drop i) acc k, h, fun i x acc hx hi => ?_, fun acc hi => ?_⟩
  · obtain ⟨hlt, he⟩ := List.getElem?_eq_some_iff.mp hx
    replace hi : lcGo f (xs.drop i) acc k := hi
    rw [List.drop_eq_getElem_cons hlt, he] at hi
    exact hi
  · replace hi : lcGo f (xs.drop xs.length) acc k := hi
    rw [List.drop_length] at hi
    exact hi
/-- every item gives one value or none -/
theorem lc_pure {f : T → (Option T → Prop) → Prop} {xs : List T} {k : List T → Prop} (G : T → Option T) (h : ∀ (i : Nat) (x : T) r, xs[i]? = some x → r (G x) → f x r) (hk : k (xs.filterMap G)) : lcInv f xs k := by
  have st : ∀ (i : Nat) (x : T), xs[i]? = some x → (xs.take (i + 1)).filterMap G = (xs.take i).filterMap G ++ (G x).toList := fun i x hx => by
    rw [List.take_add_one, hx, List.filterMap_append]
    cases q : G x with
    | none => simp [q]
    | some d => simp [q]
  refine ⟨fun i acc => acc = (xs.take i).filterMap G, by simp, fun i x acc hx e => ?_, fun acc e => ?_⟩
  · refine h i x _ hx ?_
    have e : acc = (xs.take i).filterMap G := e
    have s := st i x hx
    cases q : G x with
    | none =>
      show acc = (xs.take (i + 1)).filterMap G
      rw [s, q, e]
      simp
    | some d =>
      show acc ++ [d] = (xs.take (i + 1)).filterMap G
      rw [s, q, e]
      simp
  · have e : acc = (xs.take xs.length).filterMap G := e
    rw [e, List.take_length]
    exact hk
theorem lc_map {f : T → (Option T → Prop) → Prop} {xs : List T} {k : List T → Prop} (G : Nat → T) (h : ∀ (i : Nat) (x : T) r, xs[i]? = some x → r (some (G i)) → f x r) (hk : k ((List.range xs.length).map G)) : lcInv f xs k := by
  refine ⟨fun i acc => acc = (List.range i).map G, rfl, fun i x acc hx e => ?_, fun acc e => ?_⟩
  · refine h i x _ hx ?_
    have e : acc = (List.range i).map G := e
    show acc ++ [G i] = (List.range (i + 1)).map G
    rw [List.range_succ, List.map_append, e]
    rfl
  · have e : acc = (List.range xs.length).map G := e
    rw [e]
    exact hk
theorem rng_at {a : Int} {n i : Nat} {x : T} (h : (rngT a n)[i]? = some x) : i < n ∧ x = .int (a + (i : Nat)) := by
  unfold rngT at h
  rw [List.getElem?_map] at h
  by_cases z : i < n
  · rw [List.getElem?_range z] at h
    cases h
    exact ⟨z, rfl⟩
  · rw [List.getElem?_eq_none (by rw [List.length_range]; omega)] at h
    cases h
def forGo (mg : MG) (mb : MS) (M : MEnds) : List T → Env → Prop
  | [], env => M.nx env
  | x :: xs, env => mg x env fun env' => mb env' { nx := forGo mg mb M xs, rt := M.rt, bk := M.nx, ct := forGo mg mb M xs, xr := M.xr }
theorem for_go {mg : MG} {mb : MS} {M : MEnds} {xs : List T} {env : Env} (h : forGo mg mb M xs env) : forInv mg mb M xs env := by
  refine ⟨fun i env => forGo mg mb M (xs.drop i) env, h, fun i x env hx hi => ?_, fun env hi => ?_⟩
  · obtain ⟨hlt, he⟩ := List.getElem?_eq_some_iff.mp hx
    replace hi : forGo mg mb M (xs.drop i) env := hi
    rw [List.drop_eq_getElem_cons hlt, he] at hi
    exact hi
  · replace hi : forGo mg mb M (xs.drop xs.length) env := hi
    rw [List.drop_length] at hi
    exact hi
theorem lcGo_n {f : T → (Option T → Prop) → Prop} {acc : List T} {k : List T → Prop} : lcGo f [] acc k = k acc := rfl
theorem lcGo_c {f : T → (Option T → Prop) → Prop} {x : T} {xs acc : List T} {k : List T → Prop} : lcGo f (x :: xs) acc k = f x fun o => match o with
    | some d => lcGo f xs (acc ++ [d]) k
    | none => lcGo f xs acc k := rfl
theorem forGo_n {mg : MG} {mb : MS} {M : MEnds} {env : Env} : forGo mg mb M [] env = M.nx env := rfl
theorem forGo_c {mg : MG} {mb : MS} {M : MEnds} {x : T} {xs : List T} {env : Env} : forGo mg mb M (x :: xs) env = mg x env fun env' => mb env' { nx := forGo mg mb M xs, rt := M.rt, bk := M.nx, ct := forGo mg mb M xs, xr := M.xr } := rfl
theorem frz_w {env : Env} {i : Nat} : frz env i = match env[i]? with
  | some (some (.own ds)) => env.set i (some (.d (.lst ds)))
  | some (some (.ob _ C ns ds)) => env.set i (some (.d (.obj C ns ds)))
  | _ => env := rfl
theorem rngT_0 {a : Int} : rngT a 0 = [] := rfl
theorem rngT_s {a : Int} {n : Nat} : rngT a (n + 1) = .int a :: rngT (a + 1) n := by
  unfold rngT
  rw [List.range_succ_eq_map, List.map_cons, List.map_map]
  congr 1
  · simp
  · refine List.map_congr_left fun i _ => ?_
    show T.int (a + ((i + 1 : Nat) : Int)) = T.int (a + 1 + i)
    congr 1
    omega
end
end Mt
/-! ### the store of drawn numbers; the law's own run; plain helpers -/
namespace Mt
open PySem PySem.Spec PyProof.Rows L2 L2H
theorem wr_self {H : Hp} {a : Addr} {t : Sto} (h : H a = some (.lst (stV t))) : Wr (del H a) a t = H := by
  funext b
  show upd (del H a) a (.lst (stV t)) b = H b
  by_cases z : b = a
  · rw [z, upd_same, h]
  · rw [upd_ne z, del_ne z]
/-- a drawn number below many, by the heap -/
def sp_take : Sp := fun vs H Q _ => ∃ (G : Hp) (s : Addr) (t : Sto) (m : Int), vs = [.ref s, .int m] ∧ H = Wr G s t ∧ G s = none ∧ StOk G t ∧ m.natAbs < 2 ^ 200 ∧
  ∀ (r : Int) (t' : Sto), StOk G t' → t'.l = t.l → t'.ns = t.ns → 0 ≤ r → (r < m ∨ (m < 2 ∧ r = 0)) → Q (.int r) (Wr G s t')
/-- a drawn number below many -/
def c_law_take : Ct := fun ds k _ => ∃ m : Int, ds = [.sto, .int m] ∧ m.natAbs < 2 ^ 200 ∧ ∀ r : Int, 0 ≤ r → (r < m ∨ (m < 2 ∧ r = 0)) → k (.int r)
theorem take_spec {A : Ad} {vs : List V} {H : Hp} {Q : VK} {E : XK} (h : SpU A 2 c_law_take vs H Q E) : sp_take vs H Q E := by
  obtain ⟨s, P, ds, k, XA, w, r, _, ⟨m, rfl, hm, hk⟩, q, _⟩ := h
  obtain ⟨v, u, rfl, h1, h2⟩ := rps2 r
  simp only [Rp] at h1 h2
  obtain ⟨a, rfl, rfl⟩ := h1
  subst h2
  obtain ⟨g1, t, g2, g3⟩ := w.sto a rfl
  have sG : Same P (del H a) := fun b o e => by
    have z : b ≠ a := fun z => by
      rw [z, g1] at e
      cases e
    rw [del_ne z]
    exact w.sub _ _ e
  refine ⟨del H a, a, t, m, rfl, (wr_self g3).symm, del_same, stok_same sG g2, hm, fun x t' ok e1 e2 x0 x1 => q P _ _ _ ⟨⟨fun b o e => ?_, fun b hb => ?_⟩, Same.refl _, fun b o hb e => ?_, fun b hb g => absurd hb g⟩ (by simp [Rp]) (hk x x0 x1)⟩
  · have z : b ≠ a := fun z => by
      rw [z, g1] at e
      cases e
    show upd (del H a) a _ b = _
    rw [upd_ne z]
    exact sG _ _ e
  · cases hb
    refine ⟨g1, t', ⟨by rw [e1, e2]; exact g2.at_, ok.i0, ok.il, ok.g0, ok.gi⟩, ?_⟩
    show upd (del H a) a _ a = _
    rw [upd_same]
  · have z : b ≠ a := fun z => hb (by rw [z])
    show upd (del H a) a _ b = _
    rw [upd_ne z, del_ne z]
    exact e
def sp_mixed : Sp := fun vs H Q _ => ∃ a b, vs = [.int a, .int b] ∧ ∀ r : Int, 0 ≤ r → Q (.int r) H
/-- a new store over the script -/
def sp_store (K : PySem.W.Frag) : Sp := fun vs H Q _ => ∃ (a : Addr) (ns : List Int), vs = [.ref a] ∧ SqL K H a (ns.map V.int) ∧ ns.length ≤ 63 ∧
  ∀ (G : Hp) (s : Addr) (t : Sto), Same H G → H s = none → G s = none → StOk G t → Q (.ref s) (Wr G s t)
def sp_law (K : PySem.W.Frag) : Sp := fun vs H Q _ => ∃ (a : Addr) (ns : List Int), vs = [.ref a] ∧ SqL K H a (ns.map V.int) ∧ ns.length ≤ 63 ∧ ∀ H', Q (.bl true) H'
/-- what follows the store's making -/
theorem run_law {A : Ad} {E : EK} {a st : Addr} {G : Hp} {t : Sto} {m : Nat} {Q : VK} {ts : TS} {ms : MS} (hs : G st = none) (ok : StOk G t) (q : ∀ H', Q (.bl true) H') (r : RS A E ts ms)
    (u : ms (none :: some (.d .sto) :: List.replicate m none) { nx := fun _ => False, rt := fun d => d = .bl true }) (hE : ∀ σ C d H, E σ C d H ∨ True) :
    ts { nx := fun _ H' => Q .non H', rt := Q } (some (.ref a) :: some (.ref st) :: List.replicate m none) (Wr G st t) := by
  have ls : t.l ≠ st := ne_of_none ok.at_ hs
  have w : WF (some st) (fun b => if b = t.l then some (.lst (t.ns.map V.int)) else none) (Wr G st t) := by
    refine ⟨fun b o e => ?_, fun b hb => ?_⟩
    · by_cases z : b = t.l
      · have e : (if b = t.l then some (HO.lst (t.ns.map V.int)) else none) = some o := e
        rw [if_pos z] at e
        cases e
        rw [z]
        exact wr_l ok hs
      · have e : (if b = t.l then some (HO.lst (t.ns.map V.int)) else none) = some o := e
        rw [if_neg z] at e
        cases e
    · cases hb
      exact ⟨if_neg (Ne.symm ls), t, ⟨if_pos rfl, ok.i0, ok.il, ok.g0, ok.gi⟩, wr_s⟩
  refine r (some st) _ (Wr G st t) _ _ _ _ _ { nx := fun _ => False, rt := fun d => d = .bl true } (Ext.refl w) ⟨w, by simp, fun _ => 0, fun i j hi => ?_, fun i x hx => ?_⟩ ⟨fun _ _ _ _ _ _ _ h => h.elim, fun P' H' v d _ _ rp h => by rw [h] at rp; rw [rp_bl rp]; exact q H', fun _ _ _ _ _ _ _ h => h.elim, fun _ _ _ _ _ _ _ h => h.elim, fun P' σ H env _ _ _ P2 H2 x C d _ h => h.elim⟩ u
  · obtain ⟨es, h, mm⟩ := hi
    match i, h with
    | 0, h => cases h
    | 1, h =>
      cases h
      cases mm
    | i + 2, h =>
      rw [List.getElem?_cons_succ, List.getElem?_cons_succ, List.getElem?_replicate] at h
      split at h
      · cases h
      · cases h
  · match i, hx with
    | 0, h => cases h
    | 1, h =>
      cases h
      refine ⟨.ref st, rfl, ?_⟩
      simp only [Rp]
      exact ⟨st, rfl, rfl⟩
    | i + 2, h =>
      rw [List.getElem?_cons_succ, List.getElem?_cons_succ, List.getElem?_replicate] at h
      split at h <;> cases h
theorem tf {b : Bool} {p : Prop} (h : b = true) (e : b = false) : p := by
  rw [h] at e
  cases e
def wholeT : T → Int → Int → Bool
  | .int i, lo, hi => decide (lo ≤ i) && decide (i ≤ hi)
  | _, _, _ => false
/-! two data the same -/
mutual
def sameT : T → T → Bool
  | .non, .non => true
  | .bl a, .bl b => decide (a = b)
  | .int a, .int b => decide (a = b)
  | .str a, .str b => decide (a = b)
  | .lst a, .lst b => sameTs a b
  | .tup a, .tup b => sameTs a b
  | _, _ => false
def sameTs : List T → List T → Bool
  | [], [] => true
  | a :: as, b :: bs => sameT a b && sameTs as bs
  | _, _ => false
end
mutual
/-- None, bools, ints, texts, lists and tuples of such, so deep -/
def okT : Nat → T → Bool
  | _, .non => true
  | _, .bl _ => true
  | _, .int _ => true
  | _, .str _ => true
  | 0, _ => false
  | n + 1, .lst a => okTs n a
  | n + 1, .tup a => okTs n a
  | _, _ => false
def okTs : Nat → List T → Bool
  | _, [] => true
  | n, a :: as => okT n a && okTs n as
end
theorem okTs_at : ∀ {n : Nat} {ds : List T} {i : Nat} {d : T}, okTs n ds = true → ds[i]? = some d → okT n d = true
  | n, [], i, d, h, e => by simp at e
  | n, a :: as, 0, d, h, e => by
    simp only [okTs, Bool.and_eq_true] at h
    cases e
    exact h.1
  | n, a :: as, i + 1, d, h, e => by
    simp only [okTs, Bool.and_eq_true] at h
    exact okTs_at h.2 e
theorem sameTs_len : ∀ {a b : List T}, a.length ≠ b.length → sameTs a b = false
  | [], [], h => absurd rfl h
  | [], _ :: _, _ => by simp [sameTs]
  | _ :: _, [], _ => by simp [sameTs]
  | a :: as, b :: bs, h => by
    simp only [sameTs]
    rw [sameTs_len (fun e => h (congrArg Nat.succ e)), Bool.and_false]
mutual
theorem sameT_refl : ∀ {n : Nat} {a : T}, okT n a = true → sameT a a = true
  | n, .non, h => by simp [sameT]
  | n, .bl b, h => by simp [sameT]
  | n, .int b, h => by simp [sameT]
  | n, .str b, h => by simp [sameT]
  | 0, .lst ds, h => by simp [okT] at h
  | 0, .tup ds, h => by simp [okT] at h
  | n + 1, .lst ds, h => by
    simp only [okT] at h
    simp only [sameT]
    exact sameTs_refl h
  | n + 1, .tup ds, h => by
    simp only [okT] at h
    simp only [sameT]
    exact sameTs_refl h
  | 0, .ty _, h => by simp [okT] at h
  | n + 1, .ty _, h => by simp [okT] at h
  | 0, .sto, h => by simp [okT] at h
  | n + 1, .sto, h => by simp [okT] at h
  | 0, .obj _ _ _, h => by simp [okT] at h
  | n + 1, .obj _ _ _, h => by simp [okT] at h
theorem sameTs_refl : ∀ {n : Nat} {a : List T}, okTs n a = true → sameTs a a = true
  | n, [], h => by simp [sameTs]
  | n, a :: as, h => by
    simp only [okTs, Bool.and_eq_true] at h
    simp only [sameTs, Bool.and_eq_true]
    exact ⟨sameT_refl h.1, sameTs_refl h.2⟩
end
mutual
theorem okT_up : ∀ {n : Nat} {a : T}, okT n a = true → okT (n + 1) a = true
  | n, .non, h => by simp [okT]
  | n, .bl b, h => by simp [okT]
  | n, .int b, h => by simp [okT]
  | n, .str b, h => by simp [okT]
  | 0, .lst ds, h => by simp [okT] at h
  | 0, .tup ds, h => by simp [okT] at h
  | n + 1, .lst ds, h => by
    simp only [okT] at h ⊢
    exact okTs_up h
  | n + 1, .tup ds, h => by
    simp only [okT] at h ⊢
    exact okTs_up h
  | 0, .ty _, h => by simp [okT] at h
  | n + 1, .ty _, h => by simp [okT] at h
  | 0, .sto, h => by simp [okT] at h
  | n + 1, .sto, h => by simp [okT] at h
  | 0, .obj _ _ _, h => by simp [okT] at h
  | n + 1, .obj _ _ _, h => by simp [okT] at h
theorem okTs_up : ∀ {n : Nat} {a : List T}, okTs n a = true → okTs (n + 1) a = true
  | n, [], h => by simp [okTs]
  | n, a :: as, h => by
    simp only [okTs, Bool.and_eq_true] at h ⊢
    exact ⟨okT_up h.1, okTs_up h.2⟩
end
theorem okT_le {n m : Nat} {a : T} (h : okT n a = true) (l : n ≤ m) : okT m a = true := by
  obtain ⟨d, rfl⟩ := Nat.exists_eq_add_of_le l
  clear l
  induction d with
  | zero => exact h
  | succ d ih => exact okT_up ih
def c_law_same (n : Nat) : Ct := fun ds k _ => ∃ a b, ds = [a, b] ∧ okT n a = true ∧ okT 20 b = true ∧ k (.bl (sameT a b))
/-- two values that are the same -/
theorem same_yes {n : Nat} {a b : T} {k : T → Prop} {XA : Ex → Prop} (e : a = b) (h : okT n a = true) (hk : k (.bl true)) (hn : n ≤ 20 := by decide) : c_law_same n [a, b] k XA := by
  subst e
  exact ⟨a, a, rfl, h, okT_le h hn, by rw [sameT_refl h]; exact hk⟩
theorem okT_ty {n : Nat} {a : T} (h : okT n a = true) : ∃ m, tyT a = some m := by
  cases a with
  | ty _ => cases n <;> simp [okT] at h
  | sto => cases n <;> simp [okT] at h
  | obj _ _ _ => cases n <;> simp [okT] at h
  | _ => exact ⟨_, rfl⟩
/-- the law's run: the store is made, then the rest -/
theorem run_law2 {A : Ad} {E' : EK} {K : PySem.W.Frag} {N : List Str} {m : Nat} {vs : List V} {H : Hp} {Q : VK} {E : XK} {ts : TS} {ms : MS} (hN : N.length = m + 2) (h : sp_law K vs H Q E) (r : RS A E' ts ms)
    (u : ms (none :: some (.d .sto) :: List.replicate m none) { nx := fun _ => False, rt := fun d => d = .bl true }) :
    tSeq (tAsg (tCall (sp_store K) [] E0 (tCons (tVar 0) tNil)) (gName 1)) ts { nx := fun _ H' => Q .non H', rt := Q } (L2.start N vs) H := by
  obtain ⟨a, ns, rfl, hL, hz, q⟩ := h
  refine ⟨.ref a, ?_, a, ns, rfl, hL, hz, fun G st t s0 ns0 hs ok => ?_⟩
  · rw [w_start]
    rfl
  · have e : (L2.start N [V.ref a]).set 1 (some (.ref st)) = some (.ref a) :: some (.ref st) :: List.replicate m none := by
      rw [w_start, hN]
      rfl
    show ts _ ((L2.start N [V.ref a]).set 1 (some (.ref st))) (Wr G st t)
    rw [e]
    exact run_law (A := A) hs ok q r u fun _ _ _ _ => Or.inr trivial
/-! ### the names of caught errors -/
def kindS (b1 b2 : Bool) : Str := if b1 = true then "BadNumber" else if b2 = true then "BadShape" else "BadElement"
def sp_kind (K : PySem.W.Frag) (A : Ad) (p : Addr × Obj) : Sp := fun vs H Q _ => ∃ (C d : Addr) (y : V) (b1 b2 b3 : Bool), vs = [.ref p.1] ∧ ErrAt p C d ∧ XcC K C ∧ PySem.W.findIn K (.ref C) "argument" = some none ∧ Kinds K A C b1 b2 b3 ∧
  ((b1, b2, b3) = (true, false, false) ∨ (b1, b2, b3) = (false, true, false) ∨ (b1, b2, b3) = (false, false, true)) ∧ H d = some (.xd [("argument", y)]) ∧
  ∀ t H', Same H H' → H t = none → H' t = some (.tup [.str (kindS b1 b2), y]) → Q (.ref t) H'
structure KOne (K : PySem.W.Frag) (A : Ad) (C : Addr) (b1 b2 b3 : Bool) : Prop where
  xc : XcC K C
  no : PySem.W.findIn K (.ref C) "argument" = some none
  kk : Kinds K A C b1 b2 b3
structure KOk (K : PySem.W.Frag) (A : Ad) (al : Ec → Bool) : Prop where
  bn : al .bn = true → KOne K A A.bn true false false
  bs : al .bs = true → KOne K A A.bs false true false
  be : al .be = true → KOne K A A.be false false true
theorem kind_spec {K : PySem.W.Frag} {A : Ad} {al : Ec → Bool} (O : KOk K A al) {p : Addr × Obj} {vs : List V} {H : Hp} {Q : VK} {E : XK} (h : SpK A al p vs H Q E) : sp_kind K A p vs H Q E := by
  obtain ⟨c, d, y, e1, hal, hat, z, hd, q⟩ := h
  cases c with
  | bn => exact ⟨A.bn, d, y, true, false, false, e1, z, (O.bn hal).xc, (O.bn hal).no, (O.bn hal).kk, Or.inl rfl, hd, fun t H' s ht e => q t H' s ht e⟩
  | bs => exact ⟨A.bs, d, y, false, true, false, e1, z, (O.bs hal).xc, (O.bs hal).no, (O.bs hal).kk, Or.inr (Or.inl rfl), hd, fun t H' s ht e => q t H' s ht e⟩
  | be => exact ⟨A.be, d, y, false, false, true, e1, z, (O.be hal).xc, (O.be hal).no, (O.be hal).kk, Or.inr (Or.inr rfl), hd, fun t H' s ht e => q t H' s ht e⟩
  | bt => exact absurd hat (by decide)
  | tl => exact absurd hat (by decide)
  | cl => exact absurd hat (by decide)
theorem FnE.imp {P : Program} {w : World} {K : PySem.W.Frag} {mg : Str → Option Value} {base : Heap} {k : Nat} {f : Addr} {fd : FuncData} {ps : List Str} {sp sp' : Addr × Obj → Sp} (F : FnE P w K mg base k f fd ps sp) (h : ∀ p vs H Q E, sp' p vs H Q E → sp p vs H Q E) : FnE P w K mg base k f fd ps sp' :=
  ⟨fun p vs H Q E g => F.len p vs H Q E (h _ _ _ _ _ g), fun p A outer s H args us vs Q E a b c d e f g => F.run p A outer s H args us vs Q E a b c d e f (h _ _ _ _ _ g)⟩
/-- a def of the top -/
def Dn (K : PySem.W.Frag) (x : Str) (s : Stmt) : Prop := ∃ f fd, PySem.W.nsIn K mainGlobals x = some (some (.ref f)) ∧ Fun K x x s f fd
theorem exm_sub {K : PySem.W.Frag} {C S : Addr} (h1 : PySem.W.subIn K (.ref S) (.type "BaseException") = some true) (h2 : PySem.W.isClsIn K S = true) (h3 : PySem.W.typeIn K (.ref S) = some (.type "type")) (h4 : PySem.W.subIn K (.ref C) (.ref S) = some true) : PySem.W.exmOne K (.ref C) (.ref S) = some true := by
  have e1 : (PySem.W.subIn K (.ref S) (.type "BaseException") == some true) = true := by rw [h1] <;> rfl
  have e2 : ((PySem.W.clsIn K S).isSome && PySem.W.typeIn K (.ref S) == some (.type "type")) = true := by
    have h2' : (PySem.W.clsIn K S).isSome = true := h2
    rw [h2', h3] <;> rfl
  show (if _ = true then (if _ = true then _ else none) else none) = some true
  rw [if_pos e1, if_pos e2]
  exact h4
/-- an error class that bears an argument, as a def of it makes it -/
theorem init_of {P : Program} {w : World} {K : PySem.W.Frag} {mg : Str → Option Value} {base : Heap} {f : Addr} {fd : FuncData} {C : Addr} {q : Str} {st : Stmt} (F : Fun K "__init__" q st f fd) (S : FnScope ["self", "argument"] ["self", "argument"] (defScope st))
    (hb : ∀ (cdv : Value) (A : Around) (outer : List PySem.Env) (s : Shared) (H : Hp) (E : XK), PSs (cxOf CX0 P w K mg base ["self", "argument"] q (defScope st) f cdv A outer s H E).nox (defBody st) (tOst K "argument" (tVar 0) (tVar 1))) (oex : OexC K C) (no : PySem.W.findIn K (.ref C) "argument" = some none) : FnOk P w K mg base CX0 1 f fd ["self", "argument"] (sp_init K C) := by
  refine F.ok S (fun vs H Q E h => ?_) (fun cdv A outer s H vs Q E hr h => ?_)
  · obtain ⟨a, y, rfl, _⟩ := h
    rfl
  · obtain ⟨a, y, rfl, ea, q⟩ := h
    exact ⟨_, hb cdv A outer s H E, y, rfl, .ref a, rfl, a, C, rfl, oex, no, Or.inl ⟨ea, q⟩⟩
/-! ### division -/
theorem step_div {c i : Int} (hc : 0 < c) (h0 : 0 ≤ i) : (i % c + 1 = c → (i + 1) % c = 0 ∧ (i + 1) / c = i / c + 1) ∧ (i % c + 1 ≠ c → (i + 1) % c = i % c + 1 ∧ (i + 1) / c = i / c) := by
  have e := Int.emod_add_mul_ediv i c
  have r0 := Int.emod_nonneg i (show c ≠ 0 by omega)
  have r1 := Int.emod_lt_of_pos i hc
  refine ⟨fun h => ?_, fun h => ?_⟩
  · have := (Int.ediv_emod_unique (a := i + 1) (b := c) (r := 0) (q := i / c + 1) hc).mpr ⟨by rw [Int.mul_add]; omega, Int.le_refl 0, hc⟩
    exact ⟨this.2, this.1⟩
  · have := (Int.ediv_emod_unique (a := i + 1) (b := c) (r := i % c + 1) (q := i / c) hc).mpr ⟨by omega, by omega, by omega⟩
    exact ⟨this.2, this.1⟩
theorem cn_false {P : Program} {w : World} {H : Hp} {s s' : Shared} {e : Value} (h : CN P w [] H s (fun _ _ _ => False) e s') : False := by
  obtain ⟨_, _, _, _, _, _, _, _, _, _, _, _, z⟩ := h
  exact z
end Mt
/-! ### calls by name -/
namespace Mt
open PySem PySem.Spec PyProof.Rows L2 L2H
/-- items in another order -/
def perm {α : Type} (js : List Nat) (ws : List α) : List α := js.filterMap fun j => ws[j]?
theorem rps_perm {s : Option Addr} {P : Hp} {ds : List T} {vs : List V} (h : Rps s P ds vs) : ∀ js : List Nat, Rps s P (perm js ds) (perm js vs)
  | [] => rps_nil
  | j :: js => by
    unfold perm
    rw [List.filterMap_cons, List.filterMap_cons]
    cases q : ds[j]? with
    | none =>
      have q2 : vs[j]? = none := by
        rw [List.getElem?_eq_none_iff, rps_len h]
        exact List.getElem?_eq_none_iff.mp q
      rw [q2]
      exact rps_perm h js
    | some d =>
      obtain ⟨v, hv, r⟩ := rps_at h q
      rw [hv]
      exact rps_cons r (rps_perm h js)
theorem vals_perm {vs : List V} {us : List Value} (h : Vals vs us) : ∀ js : List Nat, Vals (perm js vs) (perm js us)
  | [] => .nil
  | j :: js => by
    unfold perm
    rw [List.filterMap_cons, List.filterMap_cons]
    have hl := h.length
    cases q : vs[j]? with
    | none =>
      have q2 : us[j]? = none := by
        rw [List.getElem?_eq_none_iff, ← hl]
        exact List.getElem?_eq_none_iff.mp q
      rw [q2]
      exact vals_perm h js
    | some d =>
      obtain ⟨u, hu, r⟩ := h.get q
      rw [hu]
      exact .cons r (vals_perm h js)
theorem vals_app : ∀ {vs : List V} {us : List Value} {zs : List V} {ws : List Value}, Vals vs us → Vals zs ws → Vals (vs ++ zs) (us ++ ws)
  | _, _, _, _, .nil, h => h
  | _, _, _, _, .cons r t, h => .cons r (vals_app t h)
/-- f(.., k = v, ..): the errors of the call are told with the slots -/
def tCallKS (n m : Nat) (js : List Nat) (sp : Sp) (E : L2.St → XK) (t tk : TA) : TE := fun σ H Q => t σ H fun vs H1 => tk σ H1 fun zs H2 => vs.length = n ∧ zs.length = m ∧ sp (vs ++ perm js zs) H2 Q (E σ)
section
variable {X : Cx} {CX : CXT} {k n : Nat} {f : Addr} {fd : FuncData} {ps ks : List Str} {js : List Nat} {sp : Sp} {x : Str} {p pos : Pos} {kws : List Keyword} {t tk : TA} {e : Expr} {es : List Expr}
theorem run_fnKS {pins : List (Addr × Obj)} {σ : L2.St} {H : Hp} {s : Shared} {Q : VK} {E : XK} {us ws : List Value} {vs zs : List V} (F : FnOk X.prog X.w X.K X.mg X.base CX k f fd ps sp) (hr : Room k X.A) (hb : KBn X.K fd ps n ks (fun us ws => us ++ perm js ws) (fun vs zs => vs ++ perm js zs)) (hx : PassesAt CX X σ E)
    (I : L2.Inv X pins σ H s) (r : Vals vs us) (rz : Vals zs ws) (l1 : vs.length = n) (l2 : zs.length = ks.length) (h : sp (vs ++ perm js zs) H Q E) : wpAny (model X.prog X.w) X.A (call (.ref f) us (ks.zip ws)) (EP X pins σ Q) X.xe s := by
  have r2 := hb.rel r rz
  have bt := hb.to s us ws I.kIn (r.length.symm.trans l1) (rz.length.symm.trans l2)
  refine wpAny_call (codeAny_mono (F.run X.A X.stack s H ⟨us, ks.zip ws⟩ _ _ Q E hr I.env0 bt r2 h) fun rr s1 hq => ?_)
  cases rr with
  | error er => exact hx pins H s er s1 I hq
  | ok fl =>
    cases fl with
    | ret u => exact I.after hq
    | _ => exact False.elim hq
/-- a def that may raise, called by names -/
structure CalKX (P : Program) (w : World) (K : PySem.W.Frag) (mg : Str → Option Value) (base : Heap) (x : Str) (k : Nat) (ps : List Str) (n : Nat) (ks : List Str) (js : List Nat) (sp : Sp) : Prop where
  ex : ∃ f fd, FnOk P w K mg base (CN P w) k f fd ps sp ∧ mg x = some (.ref f) ∧ PySem.W.keepIn K (.ref f) = true ∧ KBn K fd ps n ks (fun us ws => us ++ perm js ws) (fun vs zs => vs ++ perm js zs)
theorem p_callKX0 {W : WX} {j : Nat} {m : Nat} (C : CalKX X.prog X.w X.K X.mg X.base x j ps 0 ks js sp) (hr : Room k X.A) (tks : L2N.Takes X W) (hkw : PK X kws tk) (hj : j ≤ k := by decide) (hm : ks.length = m := by rfl) (hg : Gl X x := by rfl)
    (hall : (backToKw pos (keywordEach kws X.env)).all (·.1.isSome) = true := by rfl) (hks : (backToKw pos (keywordEach kws X.env)).filterMap (·.1) = ks := by rfl) (hdb : (x == ("__debug__" : Str)) = false := by decide)
    (hpl : ((backTo pos (starEach [] X.env)).any (·.1) || (backToKw pos (keywordEach kws X.env)).any (·.1.isNone)) = false := by rfl) :
    PE X (.Call (.Name x p) [] kws pos) (tCallKS 0 m js sp (WE W) tNil tk) := by
  obtain ⟨f, fd, F, gm, kp, b⟩ := C.ex
  refine ⟨fun pins s σ H Q I h => ?_⟩
  refine wpAny_Call_Name_kw (ld_glob I hg gm ?_ hdb)
  refine PySem.W.callWith_KW0 (h₀ := X.base) I.ok.mod.kin kp hall (thn (hkw.run pos pins s σ H _ I h) fun ws s2 ⟨zs, H2, I2, rz, _, l2, q2⟩ => ⟨I2.kIn, ?_⟩) hpl
  rw [hks]
  exact run_fnKS (us := []) (vs := []) F (hr.mono hj) b (L2N.passAt tks σ) I2 .nil rz rfl (l2.trans hm.symm) q2
theorem p_callKX {W : WX} {j : Nat} {m : Nat} (C : CalKX X.prog X.w X.K X.mg X.base x j ps n ks js sp) (hr : Room k X.A) (tks : L2N.Takes X W) (ha : PA X (e :: es) t) (hkw : PK X kws tk) (hj : j ≤ k := by decide) (hm : ks.length = m := by rfl) (hg : Gl X x := by rfl)
    (hall : (backToKw pos (keywordEach kws X.env)).all (·.1.isSome) = true := by rfl) (hks : (backToKw pos (keywordEach kws X.env)).filterMap (·.1) = ks := by rfl)
    (hdb : (x == ("__debug__" : Str)) = false := by decide) (he : starEach (e :: es) X.env = (false, eval e X.env) :: starEach es X.env := by rfl)
    (hpl : ((backTo pos (starEach (e :: es) X.env)).any (·.1) || (backToKw pos (keywordEach kws X.env)).any (·.1.isNone)) = false := by rfl) :
    PE X (.Call (.Name x p) (e :: es) kws pos) (tCallKS n m js sp (WE W) t tk) := by
  obtain ⟨f, fd, F, gm, kp, b⟩ := C.ex
  refine ⟨fun pins s σ H Q I h => ?_⟩
  refine wpAny_Call_Name_kw (ld_glob I hg gm ?_ hdb)
  refine PySem.W.callWith_KW (h₀ := X.base) I.ok.mod.kin kp hall (thn (ha.run pos pins s σ H _ I h) fun us s1 ⟨vs, H1, I1, r, q⟩ => ?_) hpl he
  refine thn (hkw.run pos pins s1 σ H1 _ I1 q) fun ws s2 ⟨zs, H2, I2, rz, l1, l2, q2⟩ => ⟨I2.kIn, ?_⟩
  rw [hks]
  exact run_fnKS F (hr.mono hj) b (L2N.passAt tks σ) I2 r rz l1 (l2.trans hm.symm) q2
end
section
variable {A : Ad} {E : EK} {aa ak : TA} {am ap : MA}
def mCallKX (n m : Nat) (js : List Nat) (N : Nat) (c : Ct) (am ap : MA) : ME := fun XA env k => am XA env fun ds => ap XA env fun es => ds.length = n ∧ es.length = m ∧ (ds ++ perm js es).length = N ∧ c (ds ++ perm js es) k XA
theorem re_callKX {n m : Nat} {js : List Nat} {N : Nat} {c : Ct} (ha : RA A E aa am) (hk : RA A E ak ap) : RE A E (tCallKS n m js (SpU A N c) E aa ak) (mCallKX n m js N c am ap) := fun s H0 P σ H env XA k Q re x h q =>
  ha s H0 P σ H env XA _ _ re x h fun P1 H1 vs ds e1 r1 h1 => hk s H0 P1 σ H1 env XA _ _ (re.ext e1) (x.ext e1) h1 fun P2 H2 ws es e2 r2 ⟨l1, l2, l3, h2⟩ =>
    ⟨by rw [rps_len r1]; exact l1, by rw [rps_len r2]; exact l2, s, P2, ds ++ perm js es, k, XA, e2.wf, rps_app (rps_same e2.sub _ _ r1) (rps_perm r2 js), l3, h2, fun P' H' v d e3 r3 h3 => q P' H' v d (e1.trans (e2.trans e3)) r3 h3, fun P' H' z C d e3 h3 h4 => x P' H' z C d (e1.trans (e2.trans e3)) h3 h4⟩
end
/-! try, its parts kept apart -/
def tTryR (K : PySem.W.Frag) (c : Value) (i : Nat) (tb : WX → TS) (ts : Addr → Value → Option Addr → TS) (Wout : WX) : TS := fun D σ H => tb (wAs K c i ts Wout D) D σ H
section
variable {X : Cx} {x n : Str} {c : Value} {i : Nat} {body suite : List Stmt} {b₀ : Stmt} {np pos pos' : Pos} {tb : WX → TS} {ts : Addr → Value → Option Addr → TS} {Wout : WX}
theorem p_tryR (hs : X.stack = X.env :: X.outer) (hf : X.env.frame = some X.env.locals) (hN : X.N.Nodup) (hi : X.N[i]? = some n) (hln : X.env.kindOf n = some .local) (hc : Names X x c) (tk : L2N.Takes X Wout)
    (hb : ∀ (W : WX) (pn : List (Addr × Obj)) (xe : Value → Shared → Prop), L2N.Takes (X.tr pn xe) W → PassesOwn (model X.prog X.w) X.A X.env xe → PSs (X.tr pn xe) body (tb W))
    (hsu : ∀ (a : Addr) (oe : Obj) (cls : Value) (d : Option Addr) (pn : List (Addr × Obj)), L2N.Zn cls d oe → (∃ vs, oe.data = .fields vs) → PSs (X.suite a ((a, oe) :: pn)) (b₀ :: suite) (ts a cls d)) :
    PS X (.Try body [.ExceptHandler (some (.Name x np)) (some n) (b₀ :: suite) pos'] [] [] pos) (tTryR X.K c i tb ts Wout) := L2N.ps_try_as hs hf hN hi hln hc tk hb hsu
end
theorem rs_tryR {A : Ad} {E : EK} {K : PySem.W.Frag} {C : Value} {i : Nat} {tb : WX → TS} {mb : MS} {mh : Ex → MS} {ts : Addr → Value → Option Addr → TS} {Wout : WX} (hb : ∀ W, RS A (WE W) (tb W) mb) (hh : RH A E i ts mh) : RS A E (tTryR K C i tb ts Wout) (mTry K A C i mb mh) := rs_try hb hh
end Mt
/-! ### max of three, all -/
namespace Mt
open PySem PySem.Spec PyProof.Rows L2 L2H
section
variable {X : Cx}
def rMax3H : List V → Hp → VK → Prop := fun xs H Q => ∃ i j k : Int, xs = [.int i, .int j, .int k] ∧ Q (.int (max (max i j) k)) H
theorem call_max3H (hc : X.calm = true) : CallR X (.builtin "max") rMax3H := by
  intro pins s σ H xs us Q I r h
  obtain ⟨i, j, k, rfl, q⟩ := h
  cases r with
  | cons r1 rr =>
    obtain ⟨u, w', rfl, ⟨t, rfl⟩, ⟨t', rfl⟩⟩ := vals2 rr
    obtain ⟨t0, rfl⟩ := r1
    refine max_three_ints (I.ok.hd hc) fun h' tk kk => ⟨_, H, I.kept kk, ?_, q⟩
    by_cases h1 : j > i
    · rw [if_pos h1]
      by_cases h2 : k > j
      · rw [if_pos h2, show max (max i j) k = k by omega]
        exact ⟨_, rfl⟩
      · rw [if_neg h2, show max (max i j) k = j by omega]
        exact ⟨_, rfl⟩
    · rw [if_neg h1]
      by_cases h2 : k > i
      · rw [if_pos h2, show max (max i j) k = k by omega]
        exact ⟨_, rfl⟩
      · rw [if_neg h2, show max (max i j) k = i by omega]
        exact ⟨_, rfl⟩
end
def oMax3 : List T → (T → Prop) → Prop := fun ds k => ∃ i j l : Int, ds = [.int i, .int j, .int l] ∧ k (.int (max (max i j) l))
theorem rps3 {s : Option Addr} {P : Hp} {d e f : T} {vs : List V} (h : Rps s P [d, e, f] vs) : ∃ v w u, vs = [v, w, u] ∧ Rp s P d v ∧ Rp s P e w ∧ Rp s P f u := by
  simp only [Rps] at h
  obtain ⟨v, r, rfl, h1, w, r2, rfl, h2, u, r3, rfl, h3, rfl⟩ := h
  exact ⟨v, w, u, rfl, h1, h2, h3⟩
theorem rcb_max3 : RCB rMax3H oMax3 := fun s P H vs ds k Q w h ⟨i, j, l, g1, h3⟩ q => by
  subst g1
  obtain ⟨v, u, x, rfl, h1, h2, h4⟩ := rps3 h
  exact ⟨i, j, l, by rw [rp_int h1, rp_int h2, rp_int h4], q P H _ _ (Ext.refl w) (by simp [Rp]) h3⟩
theorem oMax3_w {a b c : Int} {k : T → Prop} : oMax3 [.int a, .int b, .int c] k = k (.int (max (max a b) c)) := propext ⟨fun ⟨i, j, l, e, h⟩ => by cases e; exact h, fun h => ⟨a, b, c, rfl, h⟩⟩
theorem rps_bls {s : Option Addr} {P : Hp} : ∀ {bs : List Bool} {vs : List V}, Rps s P (bs.map T.bl) vs → vs = bs.map V.bl
  | [], vs, h => by
    simp only [List.map_nil, Rps] at h
    exact h
  | b :: bs, vs, h => by
    simp only [List.map_cons, Rps, Rp] at h
    obtain ⟨v, r, rfl, rfl, h3⟩ := h
    rw [rps_bls h3, List.map_cons]
def oAll : List T → (T → Prop) → Prop := fun ds k => ∃ bs : List Bool, ds = [.lst (bs.map T.bl)] ∧ k (.bl (bs.all id))
def oAny : List T → (T → Prop) → Prop := fun ds k => ∃ bs : List Bool, ds = [.lst (bs.map T.bl)] ∧ k (.bl (bs.any id))
theorem rcb_all {K : PySem.W.Frag} : RCB (rAll K) oAll := fun s P H vs ds k Q w h ⟨bs, g1, h3⟩ q => by
  subst g1
  obtain ⟨v, rfl, h1⟩ := rps1 h
  simp only [Rp] at h1
  obtain ⟨a, us, rfl, g1, g2, g3⟩ := h1
  have e := rps_bls g2
  subst e
  exact ⟨a, bs, rfl, sql_of (w.sub _ _ g1), q P H _ _ (Ext.refl w) (by simp [Rp]) h3⟩
end Mt
/-! ### objects of own classes: made, their fields, properties and methods -/
namespace Mt
open PySem PySem.Spec PyProof.Rows L2 L2H
section
variable {X : Cx} {CX : CXT} {k : Nat} {f C : Addr} {fd : FuncData} {ps : List Str} {sp : Sp}
theorem run_makeS {pins : List (Addr × Obj)} {σ : L2.St} {H : Hp} {s : Shared} {Q : VK} {E : XK} {us : List Value} {vs : List V} (M : Mk X.K C f) (F : FnOk X.prog X.w X.K X.mg X.base CX k f fd ps sp) (hr : Room (k + 1) X.A) (hb : Binds X.K fd ps []) (hx : PassesAt CX X σ E)
    (I : L2.Inv X pins σ H s) (r : Vals vs us) (h : ∀ x dx, H x = none → H dx = none → dx ≠ x → sp (.ref x :: vs) (upd (upd H dx (.own x)) x (.ins C dx [])) (fun v H2 => v = .non ∧ Q (.ref x) H2) E) : wpAny (model X.prog X.w) X.A (call (.ref C) us) (EP X pins σ Q) X.xe s := by
  obtain ⟨hp, g, dr, tk, os⟩ := s
  have I2 := I.made (C := C)
  have hq := h (hp.objs.size + 1) hp.objs.size (I.hok.fresh (Nat.le_succ _)) (I.hok.fresh (Nat.le_refl _)) (Nat.ne_of_lt (Nat.lt_succ_self hp.objs.size))
  have r2 : Vals (V.ref (hp.objs.size + 1) :: vs) (Value.ref (hp.objs.size + 1) :: us) := .cons rfl r
  have n2 : (Value.ref (hp.objs.size + 1) :: us).length = ps.length := by
    rw [← r2.length]
    exact F.len _ _ _ _ hq
  have b2 := hb _ (Value.ref (hp.objs.size + 1) :: us) I2.kIn (by rw [List.append_nil]; exact n2)
  rw [List.append_nil] at b2
  refine wpAny_call (Att.make_obj I.kIn M.makes M.init M.fn (codeAny_mono (F.run _ X.stack _ _ ⟨Value.ref (hp.objs.size + 1) :: us, []⟩ _ _ _ E (hr.make C us []) (I2.env0.make C us []) b2 r2 hq) fun rr s1 hq => ?_))
  cases rr with
  | error er => exact hx pins _ _ er s1 I2 hq
  | ok fl =>
    cases fl with
    | ret u =>
      obtain ⟨v, H', J, rv, ev, q⟩ := I2.after hq
      subst ev
      exact ⟨rv, .ref (hp.objs.size + 1), _, J, rfl, q⟩
    | _ => exact False.elim hq
/-- C(e, ..): the errors of the making are told with the slots -/
def tMakeS (C : Addr) (sp : Sp) (E : L2.St → XK) (t : TA) : TE := fun σ H Q => t σ H fun vs H1 => ∀ x dx, H1 x = none → H1 dx = none → dx ≠ x → sp (.ref x :: vs) (upd (upd H1 dx (.own x)) x (.ins C dx [])) (fun v H2 => v = .non ∧ Q (.ref x) H2) (E σ)
/-- a class of the module, made by a def that may raise -/
structure CalM (P : Program) (w : World) (K : PySem.W.Frag) (mg : Str → Option Value) (base : Heap) (x : Str) (C : Addr) (k : Nat) (ps : List Str) (sp : Sp) : Prop where
  ex : ∃ f fd, FnOk P w K mg base (CN P w) k f fd ps sp ∧ mg x = some (.ref C) ∧ Mk K C f ∧ Binds K fd ps []
theorem p_makeX {W : WX} {x : Str} {j : Nat} {e : Expr} {es : List Expr} {t : TA} {p pos : Pos} (c : CalM X.prog X.w X.K X.mg X.base x C j ps sp) (hr : Room k X.A) (tks : L2N.Takes X W) (ha : PA X (e :: es) t) (hj : j + 1 ≤ k := by decide) (hg : Gl X x := by rfl)
    (hdb : (x == ("__debug__" : Str)) = false := by decide) (he : starEach (e :: es) X.env = (false, eval e X.env) :: starEach es X.env := by rfl) (hpl : (backTo pos (starEach es X.env)).any (·.1) = false := by rfl) :
    PE X (.Call (.Name x p) (e :: es) [] pos) (tMakeS C sp (WE W) t) := by
  obtain ⟨f, fd, F, gm, M, b⟩ := c.ex
  refine ⟨fun pins s σ H Q I h => ?_⟩
  refine wpAny_Call_Name_kw (ld_glob I hg gm ?_ hdb)
  exact PySem.W.callWith_K (h₀ := X.base) I.ok.mod.kin M.kp (thn (ha.run pos pins s σ H _ I h) fun us s1 ⟨vs, H1, I1, r, q⟩ => ⟨I1.kIn, run_makeS M F (hr.mono hj) b (L2N.passAt tks σ) I1 r q⟩) he hpl
/-- a method of a class that may raise -/
structure CalO (P : Program) (w : World) (K : PySem.W.Frag) (mg : Str → Option Value) (base : Heap) (C : Addr) (m : Str) (k : Nat) (ps : List Str) (sp : Sp) : Prop where
  ex : ∃ f fd, FnOk P w K mg base (CN P w) k f fd ps sp ∧ Cls K C ∧ Meth K C m f ∧ Binds K fd ps []
/-- o.m(e, ..): the errors of the method are told with the slots -/
def tMethW (C : Addr) (m : Str) (sp : Sp) (E : L2.St → XK) (ta : TE) (t : TA) : TE := fun σ H Q => ta σ H fun x H1 => ∃ a dx fs, x = .ref a ∧ H1 a = some (.ins C dx fs) ∧ fs.lookup m = none ∧ t σ H1 fun vs H2 => sp (x :: vs) H2 Q (E σ)
theorem p_methX {W : WX} {m : Str} {j : Nat} {o e : Expr} {es : List Expr} {ta : TE} {t : TA} {apos pos : Pos} {pl : Sem Bool} (c : CalO X.prog X.w X.K X.mg X.base C m j ps sp) (hr : Room k X.A) (tks : L2N.Takes X W) (ho : PE X o ta) (ha : PA X (e :: es) t) (hj : j ≤ k := by decide)
    (hst : starEach (e :: es) X.env = (false, eval e X.env) :: starEach es X.env := by rfl) (hpl : (backTo pos (starEach es X.env)).any (·.1) = false := by rfl)
    (ht : eval (.Call (.Attribute o m apos) (e :: es) [] pos) X.env = (do
      let ov ← eval o X.env
      standAt apos.atName
      let __x ← holding [ov] (getMethod ov m pl)
      match __x with
        | (f, first) => callWith pos f first (backTo pos (starEach (e :: es) X.env)) (backToKw pos (keywordEach [] X.env))) := by rfl) :
    PE X (.Call (.Attribute o m apos) (e :: es) [] pos) (tMethW C m sp (WE W) ta t) := by
  obtain ⟨f, fd, F, cl, M, b⟩ := c.ex
  constructor
  intro pins s σ H Q I h
  refine PySem.W.methodCall_KW (pl := pl) (thn (ho.run pins s σ H _ I h) fun u s1 ⟨x, H1, I1, rx, a, dx, fs, ex, ea, l, q⟩ => ?_) ht
  subst ex
  cases rx
  exact getmeth_ok I1 ea cl M l (PySem.W.callWith_K (first := [.ref a]) (h₀ := X.base) I.ok.mod.kin M.kp (thn (ha.run pos pins s1 σ H1 _ I1 q) fun us s2 ⟨vs, H2, I2, r, q2⟩ => ⟨I2.kIn, run_fnS (E := WE W) (us := .ref a :: us) (vs := .ref a :: vs) F (hr.mono hj) b (L2N.passAt tks σ) I2 (.cons rfl r) q2⟩) hst hpl)
end
end Mt
/-! ### objects as data -/
namespace Mt
open PySem PySem.Spec PyProof.Rows L2 L2H
theorem lk_zip {s : Option Addr} {P : Hp} {f : Str} : ∀ {ns : List Str} {ds : List T} {vs : List V} {t : T}, Rps s P ds vs → (ns.zip ds).lookup f = some t → ∃ v, (ns.zip vs).lookup f = some v ∧ Rp s P t v
  | [], ds, vs, t, r, h => by cases h
  | n :: ns, [], vs, t, r, h => by cases h
  | n :: ns, d :: ds, vs, t, r, h => by
    simp only [Rps] at r
    obtain ⟨v, q, rfl, e2, e3⟩ := r
    rw [List.zip_cons_cons, List.lookup_cons] at h ⊢
    cases c : f == n with
    | true =>
      rw [c] at h
      cases h
      exact ⟨v, rfl, e2⟩
    | false =>
      rw [c] at h
      exact lk_zip e3 h
theorem lk_no {f : Str} : ∀ {ns : List Str} {vs : List V}, ns.contains f = false → (ns.zip vs).lookup f = none
  | [], vs, h => rfl
  | n :: ns, [], h => rfl
  | n :: ns, v :: vs, h => by
    rw [List.contains_cons, Bool.or_eq_false_iff] at h
    rw [List.zip_cons_cons, List.lookup_cons, h.1]
    exact lk_no h.2
theorem put_zip {f : Str} {y : V} : ∀ {ns : List Str} {vs : List V}, ns.length = vs.length → ns.contains f = false → putF f y (ns.zip vs) = (ns ++ [f]).zip (vs ++ [y])
  | [], [], _, h => rfl
  | [], _ :: _, e, _ => nomatch e
  | _ :: _, [], e, _ => nomatch e
  | n :: ns, v :: vs, e, h => by
    rw [List.contains_cons, Bool.or_eq_false_iff] at h
    show (if n = f then _ else _) = _
    have hn : ¬ n = f := fun z => by
      rw [z, beq_self_eq_true] at h
      cases h.1
    rw [if_neg hn]
    exact congrArg ((n, v) :: ·) (put_zip (Nat.succ.inj e) h.2)
/-- the heap without the thing at x -/
def del (H : Hp) (x : Addr) : Hp := fun b => if b = x then none else H b
/-- the contract of an __init__ over data: what it makes of the arguments -/
def SpI (A : Ad) (C : Addr) (n : Nat) (c : Ct) : Sp := fun vs H Q E => ∃ x dx ws s P ds k EA, vs = .ref x :: ws ∧ H x = some (.ins C dx []) ∧ P x = none ∧ s ≠ some x ∧ WF s P H ∧ Rps s P ds ws ∧ ds.length = n ∧ c ds k EA ∧
  (∀ P' H' d, Ext s P (del H x) P' H' → Rp s P' d (.ref x) → k d → Q .non H') ∧ (∀ P' H' z C d, Ext s P (del H x) P' H' → EA z → ExAt A s P' H' z C d → E C d H')
theorem SpI.len {A : Ad} {C : Addr} {n : Nat} {c : Ct} {vs : List V} {H : Hp} {Q : VK} {E : XK} (h : SpI A C n c vs H Q E) : vs.length = n + 1 := by
  obtain ⟨x, dx, ws, s, P, ds, k, EA, rfl, _, _, _, _, h2, h3, _⟩ := h
  rw [List.length_cons, rps_len h2, h3]
section
variable {A : Ad} {E : EK} {te ta tb tc : TE} {me ma mb mc : ME} {aa : TA} {am : MA} {K : PySem.W.Frag}
theorem re_makeX {C : Addr} {n : Nat} {c : Ct} (ha : RA A E aa am) : RE A E (tMakeS C (SpI A C n c) E aa) (mCallX n c am) := fun s H0 P σ H env XA k Q re x h q =>
  ha s H0 P σ H env XA _ _ re x h fun P1 H1 vs ds e1 r1 ⟨h1, h2⟩ y dx hy hdx ne => by
    have a1 := ext_own (o := .own y) e1.wf hdx
    have hy1 : (upd H1 dx (.own y)) y = none := by
      rw [upd_ne (Ne.symm ne)]
      exact hy
    have a2 := ext_own (o := .ins C dx []) a1.wf hy1
    have e0 : del (upd (upd H1 dx (.own y)) y (.ins C dx [])) y = upd H1 dx (.own y) := by
      funext b
      unfold del
      by_cases z : b = y
      · rw [if_pos z, z, hy1]
      · rw [if_neg z, upd_ne z]
    refine ⟨y, dx, vs, s, P1, ds, k, XA, rfl, upd_same, e1.wf.sub.free hy, fun z => ?_, a2.wf, r1, h1, h2, fun P' H' d e2 r2 h3 => ?_, fun P' H' z C d e2 h3 h4 => ?_⟩
    · obtain ⟨_, t, _, h3⟩ := e1.wf.sto y z
      rw [hy] at h3
      cases h3
    · rw [e0] at e2
      exact ⟨rfl, q P' H' _ d (e1.trans (a1.trans e2)) r2 h3⟩
    · rw [e0] at e2
      exact x P' H' z C d (e1.trans (a1.trans e2)) h3 h4
/-! the fields -/
def mFld (C : Addr) (f : Str) (me : ME) : ME := fun XA env k => me XA env fun d => ∃ ns ds t, d = .obj C ns ds ∧ (ns.zip ds).lookup f = some t ∧ k t
theorem re_fld {C : Addr} {f : Str} (hc : Cls K C) (hn : NoAttr K C f) (ha : RE A E te me) : RE A E (tFld K te f) (mFld C f me) := fun s H0 P σ H env XA k Q re x h q =>
  ha s H0 P σ H env XA _ _ re x h fun P1 H1 v d e1 r1 ⟨ns, ds, t, g1, g2, h1⟩ => by
    subst g1
    simp only [Rp] at r1
    obtain ⟨a, dx, vs, rfl, r2, r3, r4⟩ := r1
    obtain ⟨u, l1, l2⟩ := lk_zip r3 g2
    exact ⟨a, C, dx, _, u, rfl, e1.wf.sub _ _ r2, hc, hn, l1, q P1 H1 u t e1 l2 h1⟩
/-- in __init__: self.f = e, f for the first time -/
def mFldS (C : Addr) (f : Str) (i : Nat) (me : ME) : MS := fun env M => me (M.xr env) env fun t => ∃ x ns ds, env[i]? = some (some (.ob x C ns ds)) ∧ ns.length < 900 ∧ ns.contains f = false ∧ M.nx (env.set i (some (.ob x C (ns ++ [f]) (ds ++ [t]))))
theorem rs_fld {C : Addr} {f : Str} {i : Nat} (hc : Cls K C) (hn : NoAttr K C f) (ha : RE A E te me) : RS A E (sFld K (tVar i) te f) (mFldS C f i me) := fun s P0 H0 P σ H env D M e re l h =>
  ha s H0 P σ H env _ _ _ re (l.xr P σ H env e (Same.refl _) re) h fun P1 H1 v d e1 r1 ⟨x, ns, ds, g1, g2, g3, h1⟩ => by
    have re1 := re.ext e1
    obtain ⟨dx, vs, q1, q2, q3, q4, q5, q6, q7⟩ := re1.ob g1
    have lz : (ns.zip vs).length < 1000 := by
      rw [List.length_zip]
      omega
    refine ⟨.ref x, q1, x, C, dx, _, rfl, q5, hc, hn, lz, ?_⟩
    rw [put_zip (by rw [rps_len q6]; exact q7) g3]
    exact l.nx P1 σ _ _ (ext_change (e.trans e1) q2 q3 q4) e1.sub (re1.changeB g1 q1 (rps_snoc q6 r1) (by rw [List.length_append, List.length_append, q7]; rfl)) h1
/-- in __init__: self.f is read -/
def mFldO (C : Addr) (f : Str) (i : Nat) : ME := fun XA env k => ∃ x ns ds t, env[i]? = some (some (.ob x C ns ds)) ∧ (ns.zip ds).lookup f = some t ∧ k t
theorem re_fldO {C : Addr} {f : Str} {i : Nat} (hc : Cls K C) (hn : NoAttr K C f) : RE A E (tFld K (tVar i) f) (mFldO C f i) := fun s H0 P σ H env XA k Q re x ⟨z, ns, ds, t, g1, g2, h1⟩ q => by
  obtain ⟨dx, vs, q1, q2, q3, q4, q5, q6, q7⟩ := re.ob g1
  obtain ⟨u, l1, l2⟩ := lk_zip q6 g2
  exact ⟨.ref z, q1, z, C, dx, _, u, rfl, q5, hc, hn, l1, q P H u t (Ext.refl re.wf) l2 h1⟩
/-! properties and methods -/
def mProp (C : Addr) (c : Ct) (me : ME) : ME := fun XA env k => me XA env fun d => (∃ ns ds, d = .obj C ns ds) ∧ c [d] k fun _ => False
theorem re_prop {C : Addr} {c : Ct} (ha : RE A E te me) : RE A E (tProp C (SpU A 1 c) [] E0 te) (mProp C c me) := fun s H0 P σ H env XA k Q re x h q =>
  ha s H0 P σ H env XA _ _ re x h fun P1 H1 v d e1 r1 ⟨⟨ns, ds, g1⟩, h1⟩ => by
    have r2 := r1
    subst g1
    simp only [Rp] at r1
    obtain ⟨a, dx, vs, rfl, r3, _⟩ := r1
    exact ⟨a, dx, _, rfl, e1.wf.sub _ _ r3, s, P1, _, k, _, e1.wf, rps_cons r2 rps_nil, rfl, h1, fun P' H' v d e2 r4 h3 => q P' H' v d (e1.trans e2) r4 h3, fun _ _ _ _ _ _ z => z.elim⟩
def mMeth (C : Addr) (m : Str) (n : Nat) (c : Ct) (me : ME) (am : MA) : ME := fun XA env k => me XA env fun d => (∃ ns ds, d = .obj C ns ds ∧ ns.contains m = false) ∧ am XA env fun ds => ds.length + 1 = n ∧ c (d :: ds) k fun _ => False
theorem re_meth {C : Addr} {m : Str} {n : Nat} {c : Ct} (ha : RE A E te me) (hs : RA A E aa am) : RE A E (tMeth C m (SpU A n c) [] E0 te aa) (mMeth C m n c me am) := fun s H0 P σ H env XA k Q re x h q =>
  ha s H0 P σ H env XA _ _ re x h fun P1 H1 v d e1 r1 ⟨⟨ns, ds, g1, g2⟩, h1⟩ => by
    have r2 := r1
    subst g1
    simp only [Rp] at r1
    obtain ⟨a, dx, vs, rfl, r3, _⟩ := r1
    refine ⟨a, dx, _, rfl, e1.wf.sub _ _ r3, lk_no g2, hs s H0 P1 σ H1 env XA _ _ (re.ext e1) (x.ext e1) h1 fun P2 H2 ws es e2 r5 ⟨h2, h3⟩ => ?_⟩
    rw [List.append_nil]
    exact ⟨s, P2, _, k, _, e2.wf, rps_cons (rp_same e2.sub _ _ r2) r5, h2, h3, fun P' H' v d e3 r4 h3 => q P' H' v d (e1.trans (e2.trans e3)) r4 h3, fun _ _ _ _ _ _ z => z.elim⟩
def mMethX (C : Addr) (m : Str) (n : Nat) (c : Ct) (me : ME) (am : MA) : ME := fun XA env k => me XA env fun d => (∃ ns ds, d = .obj C ns ds ∧ ns.contains m = false) ∧ am XA env fun ds => ds.length + 1 = n ∧ c (d :: ds) k XA
theorem re_methX {C : Addr} {m : Str} {n : Nat} {c : Ct} (ha : RE A E te me) (hs : RA A E aa am) : RE A E (tMethW C m (SpU A n c) E te aa) (mMethX C m n c me am) := fun s H0 P σ H env XA k Q re x h q =>
  ha s H0 P σ H env XA _ _ re x h fun P1 H1 v d e1 r1 ⟨⟨ns, ds, g1, g2⟩, h1⟩ => by
    have r2 := r1
    subst g1
    simp only [Rp] at r1
    obtain ⟨a, dx, vs, rfl, r3, _⟩ := r1
    refine ⟨a, dx, _, rfl, e1.wf.sub _ _ r3, lk_no g2, hs s H0 P1 σ H1 env XA _ _ (re.ext e1) (x.ext e1) h1 fun P2 H2 ws es e2 r5 ⟨h2, h3⟩ => ?_⟩
    exact ⟨s, P2, _, k, XA, e2.wf, rps_cons (rp_same e2.sub _ _ r2) r5, h2, h3, fun P' H' v d e3 r4 h3 => q P' H' v d (e1.trans (e2.trans e3)) r4 h3, fun P' H' z C d e3 h3 h4 => x P' H' z C d (e1.trans (e2.trans e3)) h3 h4⟩
/-! the run of an __init__ -/
theorem rel_startI {s : Option Addr} {P H : Hp} {N : List Str} {ds : List T} {vs : List V} {x C dx : Addr} {n : Nat} (hN : N.length = n + 1) (hx : H x = some (.ins C dx [])) (px : P x = none) (sx : s ≠ some x) (w : WF s P H) (r : Rps s P ds vs) : Rel s (del H x) P (L2.start N (.ref x :: vs)) H (some (.ob x C [] []) :: startE n ds) := by
  have w' : WF s P (del H x) := by
    refine ⟨fun b o e => ?_, fun a ha => ?_⟩
    · unfold del
      rw [if_neg (fun z => by rw [z, px] at e; cases e)]
      exact w.sub _ _ e
    · obtain ⟨h1, t, h2, h3⟩ := w.sto a ha
      refine ⟨h1, t, h2, ?_⟩
      unfold del
      rw [if_neg (fun z => sx (by rw [← z]; exact ha))]
      exact h3
  refine ⟨w, ?_, fun _ => x, fun i j hi hj _ => ?_, fun i y hy => ?_⟩
  · rw [w_start]
    unfold startE
    simp only [List.length_append, List.length_cons, List.length_map, List.length_replicate, rps_len r, hN]
    omega
  · have h0 : ∀ i, IsOwn (some (.ob x C [] []) :: startE n ds) i → i = 0 := fun i ⟨y, e, m⟩ => by
      cases i with
      | zero => rfl
      | succ i =>
        rw [List.getElem?_cons_succ] at e
        unfold startE at e
        rcases Nat.lt_or_ge i ds.length with z | z
        · rw [List.getElem?_append_left (by rw [List.length_map]; exact z), List.getElem?_map, List.getElem?_eq_getElem z] at e
          cases e
          cases m
        · rw [List.getElem?_append_right (by rw [List.length_map]; exact z), List.getElem?_replicate] at e
          split at e
          · cases e
          · cases e
    rw [h0 i hi, h0 j hj]
  · cases i with
    | zero =>
      cases hy
      refine ⟨?_, px, if_pos rfl, sx, dx, [], hx, rps_nil, rfl, rfl⟩
      rw [w_start]
      rfl
    | succ i =>
      rw [List.getElem?_cons_succ] at hy
      unfold startE at hy
      rcases Nat.lt_or_ge i ds.length with z | z
      · rw [List.getElem?_append_left (by rw [List.length_map]; exact z), List.getElem?_map, List.getElem?_eq_getElem z] at hy
        cases hy
        obtain ⟨v, h1, h2⟩ := rps_at r (List.getElem?_eq_getElem z)
        refine ⟨v, ?_, h2⟩
        rw [w_start, List.map_cons, List.cons_append, List.getElem?_cons_succ, List.getElem?_append_left (by rw [List.length_map, rps_len r]; exact z), List.getElem?_map, h1]
        rfl
      · rw [List.getElem?_append_right (by rw [List.length_map]; exact z), List.getElem?_replicate] at hy
        split at hy
        · cases hy
        · cases hy
theorem runI {C : Addr} {n : Nat} {c : Ct} {N : List Str} {vs : List V} {H : Hp} {Q : VK} {E' : XK} {W : WX} {ts : TS} {ms : MS} (h : SpI A C n c vs H Q E') (hl : n + 1 ≤ N.length) (hW : ∀ cls d σ H, E' cls d H → W cls d σ H) (r : RS A (WE W) ts ms)
    (u : ∀ x ds k XA, c ds k XA → ds.length = n → ms (some (.ob x C [] []) :: startE (N.length - 1) ds) { nx := fun env => ∃ D ns es, env[0]? = some (some (.ob x D ns es)) ∧ k (.obj D ns es), rt := fun _ => False, xr := fun _ => XA }) :
    ts { nx := fun _ H' => Q .non H', rt := Q } (L2.start N vs) H := by
  obtain ⟨x, dx, ws, s, P, ds, k, XA, rfl, hx, px, sx, w, r1, hn, hc, q, qx⟩ := h
  have re := rel_startI (N := N) (n := N.length - 1) (by omega) hx px sx w r1
  have e0 : Ext s P (del H x) P H := ⟨w, Same.refl _, fun a o _ g => by
    unfold del at g
    split at g
    · cases g
    · exact g, fun a h g => absurd h g⟩
  refine r s P (del H x) P _ H _ _ { nx := fun env => ∃ D ns es, env[0]? = some (some (.ob x D ns es)) ∧ k (.obj D ns es), rt := fun _ => False, xr := fun _ => XA } e0 re
    ⟨fun P' σ H' env e _ re' ⟨D, ns, es, g1, g2⟩ => ?_, fun _ _ _ _ _ _ _ z => z.elim, fun _ _ _ _ _ _ _ h => h.elim, fun _ _ _ _ _ _ _ h => h.elim, fun P' σ H' env e _ _ P2 H2 z C d e2 hz hat => hW _ _ _ _ (qx P2 H2 z C d (e.trans e2) hz hat)⟩ (u x ds k XA hc hn)
  obtain ⟨dx', us, q1, q2, q3, q4, q5, q6, q7⟩ := re'.ob g1
  obtain ⟨P2, sp, e2, re2⟩ := re'.frzO (t := .obj D ns es) e g1 rfl fun P'' a w o sP hP hH g => by
    obtain ⟨_, _, _, _, dx, vs, p5, p6, p7⟩ := g
    rw [hH] at p5
    cases p5
    simp only [Rp]
    exact ⟨_, dx, vs, rfl, hP, rps_same sP _ _ p6, p7.1⟩
  obtain ⟨v, j1, j2⟩ := re2.data (i := 0) (t := .obj D ns es) (by rw [List.getElem?_set_self (List.getElem?_eq_some_iff.mp g1).1])
  rw [q1] at j1
  cases j1
  exact q P2 H' _ e2 j2 g2
end
end Mt
/-! ### x in o by an own __contains__; methods and properties that raise nothing -/
namespace Mt
open PySem PySem.Spec PyProof.Rows L2 L2H
/-- x in o, x not in o by the class's own def -/
def tInW (C : Addr) (neg : Bool) (sp : Sp) (E : L2.St → XK) (ta to : TE) : TE := fun σ H Q => ta σ H fun x H1 => to σ H1 fun y H2 => ∃ a dx fs, y = .ref a ∧ H2 a = some (.ins C dx fs) ∧ sp [y, x] H2 (fun v H3 => ∃ c, v = .bl c ∧ Q (.bl (c != neg)) H3) (E σ)
section
variable {X : Cx} {W : WX} {k j : Nat} {C : Addr} {ps : List Str} {sp : Sp} {ta to : TE} {a o : Expr} {pos : Pos}
theorem ins_look {P : Program} {w : World} {H : Hp} {h : Heap} {a C dx : Addr} {fs : List (Str × V)} (z : HOk P w H h) (e : H a = some (.ins C dx fs)) : ∃ od, PySem.W.InstAt h a (PySem.W.instObj C dx) C od := by
  have q := z _ _ e
  unfold ObjOk at q
  obtain ⟨_, _, _, h1, mA, h2, _⟩ := q
  obtain ⟨o, es, ep, eo, _⟩ := h2
  exact ⟨some _, h1, rfl, rfl, eo⟩
theorem in_ok {pins : List (Addr × Obj)} {σ : L2.St} {H : Hp} {s : Shared} {y dx : Addr} {fs : List (Str × V)} {x : V} {v : Value} {Q : Bool → Hp → Prop} {R : Bool → Shared → Prop} (c : CalO X.prog X.w X.K X.mg X.base C "__contains__" j ps sp) (hr : Room k X.A) (hj : j ≤ k) (tks : L2N.Takes X W) (I : L2.Inv X pins σ H s) (rx : L2.RelV x v)
    (e : H y = some (.ins C dx fs)) (h : sp [.ref y, x] H (fun v H3 => ∃ c, v = .bl c ∧ Q c H3) (WE W σ)) (q : ∀ c H' s', L2.Inv X pins σ H' s' → Q c H' → R c s') : wpAny (model X.prog X.w) X.A (contains (.ref y) v) R X.xe s := by
  obtain ⟨f, fd, F, cl, M, b⟩ := c.ex
  obtain ⟨m, fr⟩ := I.fr
  obtain ⟨od, il⟩ := ins_look I.hok e
  refine PySem.W.contains_K fr I.ok.mod.kin il M.at_ M.fn ?_
  refine thn (run_fnS (E := WE W) (us := [.ref y, v]) (vs := [.ref y, x]) F (hr.mono hj) b (L2N.passAt tks σ) I (.cons rfl (.cons rx .nil)) h) fun u s1 ⟨r, H1, I1, rr, c, er, q1⟩ => ?_
  subst er
  cases rr
  exact wpAny_truthy_bool (q c H1 s1 I1 q1)
theorem pc_inX (c : CalO X.prog X.w X.K X.mg X.base C "__contains__" j ps sp) (hr : Room k X.A) (tks : L2N.Takes X W) (ha : PE X a ta) (ho : PE X o to) (hj : j ≤ k := by decide) : PC X .In a o (tInW C false sp (WE W) ta to) := by
  refine ⟨fun pins s σ H Q I h => ?_⟩
  refine (thn (ha.run pins s σ H _ I h) fun u s1 ⟨x, H1, I1, rx, h1⟩ => thn (ho.run pins s1 σ H1 _ I1 h1) fun v s2 ⟨y, H2, I2, ry, b, dx, fs, ey, e, h2⟩ => ?_)
  subst ey
  cases ry
  refine wpAny_bind (in_ok (Q := fun c H3 => Q (.bl c) H3) c hr hj tks I2 rx e (by simpa only [Bool.bne_false] using h2) fun c H' s' I' q' => wpAny_pure ⟨.bl c, H', I', rfl, q'⟩)
theorem pc_notInX (c : CalO X.prog X.w X.K X.mg X.base C "__contains__" j ps sp) (hr : Room k X.A) (tks : L2N.Takes X W) (ha : PE X a ta) (ho : PE X o to) (hj : j ≤ k := by decide) : PC X .NotIn a o (tInW C true sp (WE W) ta to) := by
  refine ⟨fun pins s σ H Q I h => ?_⟩
  refine (thn (ha.run pins s σ H _ I h) fun u s1 ⟨x, H1, I1, rx, h1⟩ => thn (ho.run pins s1 σ H1 _ I1 h1) fun v s2 ⟨y, H2, I2, ry, b, dx, fs, ey, e, h2⟩ => ?_)
  subst ey
  cases ry
  refine wpAny_bind (in_ok (Q := fun c H3 => Q (.bl (!c)) H3) c hr hj tks I2 rx e (by simpa only [Bool.bne_true] using h2) fun c H' s' I' q' => wpAny_pure ⟨.bl (!c), H', I', rfl, q'⟩)
/-! what raises nothing in a context that raises -/
theorem passes0 : Passes (CN X.prog X.w) X E0 := fun pins σ H s e s' I h => by
  obtain ⟨_, _, _, _, _, _, _, _, _, _, _, _, z⟩ := h
  exact z.elim
theorem p_methN {m : Str} {e : Expr} {es : List Expr} {ta : TE} {t : TA} {apos pos : Pos} {pl : Sem Bool} (c : CalO X.prog X.w X.K X.mg X.base C m j ps sp) (hr : Room k X.A) (ho : PE X o ta) (ha : PA X (e :: es) t) (hj : j ≤ k := by decide)
    (hst : starEach (e :: es) X.env = (false, eval e X.env) :: starEach es X.env := by rfl) (hpl : (backTo pos (starEach es X.env)).any (·.1) = false := by rfl)
    (ht : eval (.Call (.Attribute o m apos) (e :: es) [] pos) X.env = (do
      let ov ← eval o X.env
      standAt apos.atName
      let __x ← holding [ov] (getMethod ov m pl)
      match __x with
        | (f, first) => callWith pos f first (backTo pos (starEach (e :: es) X.env)) (backToKw pos (keywordEach [] X.env))) := by rfl) :
    PE X (.Call (.Attribute o m apos) (e :: es) [] pos) (tMeth C m sp [] E0 ta t) := by
  obtain ⟨f, fd, F, cl, M, b⟩ := c.ex
  exact pe_meth ho cl M F (hr.mono hj) b .nil passes0 ha hst hpl ht
theorem p_meth0 {m : Str} {ta : TE} {apos pos : Pos} {pl : Sem Bool} (c : CalO X.prog X.w X.K X.mg X.base C m j ps sp) (hr : Room k X.A) (ho : PE X o ta) (hj : j ≤ k := by decide)
    (ht : eval (.Call (.Attribute o m apos) [] [] pos) X.env = (do
      let ov ← eval o X.env
      standAt apos.atName
      let __x ← holding [ov] (getMethod ov m pl)
      match __x with
        | (f, first) => callWith pos f first (backTo pos (starEach [] X.env)) (backToKw pos (keywordEach [] X.env))) := by rfl) :
    PE X (.Call (.Attribute o m apos) [] [] pos) (tMeth C m sp [] E0 ta tNil) := by
  obtain ⟨f, fd, F, cl, M, b⟩ := c.ex
  exact pe_meth0 ho cl M F (hr.mono hj) b .nil passes0 ht
/-- a property -/
structure CalR (P : Program) (w : World) (K : PySem.W.Frag) (mg : Str → Option Value) (base : Heap) (C : Addr) (m : Str) (k : Nat) (ps : List Str) (sp : Sp) : Prop where
  ex : ∃ f fd p, FnOk P w K mg base (CN P w) k f fd ps sp ∧ Cls K C ∧ PropOf K C m p f ∧ Binds K fd ps []
theorem p_propR {m : Str} {ta : TE} {pos : Pos} (c : CalR X.prog X.w X.K X.mg X.base C m j ps sp) (hr : Room k X.A) (ho : PE X o ta) (hj : j + 1 ≤ k := by decide) (hab : attributeBase o m X.env (eval o X.env) = eval o X.env := by rfl) :
    PE X (.Attribute o m pos) (tProp C sp [] E0 ta) := by
  obtain ⟨f, fd, p, F, cl, M, b⟩ := c.ex
  exact pe_prop ho cl M F (hr.mono hj) b .nil (fun pins σ H s e s' I h => by
    obtain ⟨_, _, _, _, _, _, _, _, _, _, _, _, z⟩ := h
    exact z.elim) hab
end
section
variable {A : Ad} {E : EK} {ta to : TE} {ma mo : ME}
def mInW (C : Addr) (neg : Bool) (c : Ct) (ma mo : ME) : ME := fun XA env k => ma XA env fun d => mo XA env fun o => (∃ ns ds, o = .obj C ns ds) ∧ c [o, d] (fun t => ∃ b, t = .bl b ∧ k (.bl (b != neg))) XA
theorem re_inX {C : Addr} {neg : Bool} {c : Ct} (ha : RE A E ta ma) (ho : RE A E to mo) : RE A E (tInW C neg (SpU A 2 c) E ta to) (mInW C neg c ma mo) := fun s H0 P σ H env XA k Q re x h q =>
  ha s H0 P σ H env XA _ _ re x h fun P1 H1 v d e1 r1 h1 => ho s H0 P1 σ H1 env XA _ _ (re.ext e1) (x.ext e1) h1 fun P2 H2 y o e2 r2 ⟨⟨ns, ds, g1⟩, h2⟩ => by
    have r3 := r2
    subst g1
    simp only [Rp] at r2
    obtain ⟨a, dx, vs, rfl, r4, _⟩ := r2
    refine ⟨a, dx, _, rfl, e2.wf.sub _ _ r4, s, P2, _, _, XA, e2.wf, rps_cons r3 (rps_cons (rp_same e2.sub _ _ r1) rps_nil), rfl, h2, fun P' H' w t e3 r5 ⟨b, et, hk⟩ => ?_, fun P' H' z C d e3 h3 h4 => x P' H' z C d (e1.trans (e2.trans e3)) h3 h4⟩
    subst et
    exact ⟨b, rp_bl r5, q P' H' _ _ (e1.trans (e2.trans e3)) (by simp [Rp]) hk⟩
end
end Mt
/-! ### calls that leave defaults out -/
namespace Mt
open PySem PySem.Spec PyProof.Rows L2 L2H
/-- a def that may raise, its last arguments left to their defaults -/
structure CalXD (P : Program) (w : World) (K : PySem.W.Frag) (mg : Str → Option Value) (base : Heap) (x : Str) (k : Nat) (ps : List Str) (sp : Sp) (dvs : List V) : Prop where
  ex : ∃ f fd ds, FnOk P w K mg base (CN P w) k f fd ps sp ∧ mg x = some (.ref f) ∧ PySem.W.keepIn K (.ref f) = true ∧ Binds K fd ps ds ∧ Vals dvs ds
theorem p_callXD {X : Cx} {W : WX} {x : Str} {j k : Nat} {ps : List Str} {sp : Sp} {dvs : List V} {e : Expr} {es : List Expr} {t : TA} {p pos : Pos} (C : CalXD X.prog X.w X.K X.mg X.base x j ps sp dvs) (hr : Room k X.A) (tk : L2N.Takes X W) (ha : PA X (e :: es) t) (hj : j ≤ k := by decide) (hg : Gl X x := by rfl)
    (hdb : (x == ("__debug__" : Str)) = false := by decide) (he : starEach (e :: es) X.env = (false, eval e X.env) :: starEach es X.env := by rfl) (hpl : (backTo pos (starEach es X.env)).any (·.1) = false := by rfl) :
    PE X (.Call (.Name x p) (e :: es) [] pos) (tCallSD sp dvs (WE W) t) := by
  obtain ⟨f, fd, ds, F, gm, kp, b, hd⟩ := C.ex
  exact pe_callSD F (hr.mono hj) hg gm kp b hd (fun σ => L2N.passAt tk σ) ha hdb he hpl
section
variable {A : Ad} {E : EK} {aa : TA} {am : MA}
def mCallXD (n : Nat) (c : Ct) (dT : List T) (am : MA) : ME := fun XA env k => am XA env fun ds => (ds ++ dT).length = n ∧ c (ds ++ dT) k XA
theorem re_callXD {n : Nat} {c : Ct} {dvs : List V} {dT : List T} (hd : ∀ s P, Rps s P dT dvs) (ha : RA A E aa am) : RE A E (tCallSD (SpU A n c) dvs E aa) (mCallXD n c dT am) := fun s H0 P σ H env XA k Q re x h q =>
  ha s H0 P σ H env XA _ _ re x h fun P1 H1 vs ds e1 r1 ⟨h1, h2⟩ =>
    ⟨s, P1, ds ++ dT, k, XA, e1.wf, rps_app r1 (hd s P1), h1, h2, fun P' H' v d e2 r2 h3 => q P' H' v d (e1.trans e2) r2 h3, fun P' H' z C d e2 h3 h4 => x P' H' z C d (e1.trans e2) h3 h4⟩
end
/-- the default False -/
theorem rd_false : ∀ s P, Rps s P [.bl false] [.bl false] := fun s P => rps_cons (by simp [Rp]) rps_nil
/-! rewriting -/
theorem exOb_w {z C : Addr} {ns : List Str} {ds : List T} {R : Addr → List Str → List T → Prop} : (∃ x ns' ds', some (some (Sl.ob z C ns ds)) = some (some (Sl.ob x C ns' ds')) ∧ R x ns' ds') = R z ns ds := propext ⟨fun ⟨x, a, b, e, h⟩ => by cases e; exact h, fun h => ⟨z, ns, ds, rfl, h⟩⟩
theorem exOb2_w {z C : Addr} {ns : List Str} {ds : List T} {R : Addr → List Str → List T → Prop} : (∃ x ns' ds', Sl.ob z C ns ds = Sl.ob x C ns' ds' ∧ R x ns' ds') = R z ns ds := propext ⟨fun ⟨x, a, b, e, h⟩ => by cases e; exact h, fun h => ⟨z, ns, ds, rfl, h⟩⟩
theorem exObD_w {z C : Addr} {ns : List Str} {ds : List T} {R : Addr → List Str → List T → Prop} : (∃ D ns' ds', some (some (Sl.ob z C ns ds)) = some (some (Sl.ob z D ns' ds')) ∧ R D ns' ds') = R C ns ds := propext ⟨fun ⟨x, a, b, e, h⟩ => by cases e; exact h, fun h => ⟨C, ns, ds, rfl, h⟩⟩
theorem exObD2_w {z C : Addr} {ns : List Str} {ds : List T} {R : Addr → List Str → List T → Prop} : (∃ D ns' ds', Sl.ob z C ns ds = Sl.ob z D ns' ds' ∧ R D ns' ds') = R C ns ds := propext ⟨fun ⟨x, a, b, e, h⟩ => by cases e; exact h, fun h => ⟨C, ns, ds, rfl, h⟩⟩
theorem exObj_w {C : Addr} {ns : List Str} {ds : List T} {R : List Str → List T → T → Prop} : (∃ ns' ds' t, T.obj C ns ds = T.obj C ns' ds' ∧ R ns' ds' t) = ∃ t, R ns ds t := propext ⟨fun ⟨a, b, t, e, h⟩ => by cases e; exact ⟨t, h⟩, fun ⟨t, h⟩ => ⟨ns, ds, t, rfl, h⟩⟩
theorem exObj0_w {C : Addr} {ns : List Str} {ds : List T} : (∃ ns' ds', T.obj C ns ds = T.obj C ns' ds') = True := propext ⟨fun _ => trivial, fun _ => ⟨ns, ds, rfl⟩⟩
theorem exObjC_w {C : Addr} {ns : List Str} {ds : List T} {R : List Str → List T → Prop} : (∃ ns' ds', T.obj C ns ds = T.obj C ns' ds' ∧ R ns' ds') = R ns ds := propext ⟨fun ⟨a, b, e, h⟩ => by cases e; exact h, fun h => ⟨ns, ds, rfl, h⟩⟩
/-! type(x) is not T -/
def rIsNTyH : R2 := fun x y H Q => ∃ m n, x = .ty m ∧ y = .ty n ∧ Q (.bl !decide (m = n)) H
theorem op_isNTyH {X : Cx} : OpR X (compareOp .IsNot) rIsNTyH := op_isNotTy
def oIsNTy : T → T → (T → Prop) → Prop := fun d e k => ∃ m n, d = .ty m ∧ e = .ty n ∧ k (.bl !decide (m = n))
theorem ro_isNTy : ROp rIsNTyH oIsNTy := fun s P H x y d e k Q w h1 h2 ⟨m, n, e1, e2, h⟩ q => by
  subst e1 e2
  simp only [Rp] at h1 h2
  subst h1 h2
  exact ⟨m, n, rfl, rfl, q P H _ _ (Ext.refl w) (by simp [Rp]) h⟩
theorem oIsNTy_w {m n : String} {k : T → Prop} : oIsNTy (.ty m) (.ty n) k = k (.bl !decide (m = n)) := propext ⟨fun ⟨a, b, e1, e2, h⟩ => by cases e1; cases e2; exact h, fun h => ⟨m, n, rfl, rfl, h⟩⟩
end Mt
/-! ### deep ==, list.count -/
namespace Mt
open PySem PySem.Spec PyProof.Rows L2 L2H
mutual
def toPy : T → Option PyData
  | .non => some .none
  | .bl b => some (.bool b)
  | .int i => some (.int i)
  | .str x => some (.str x)
  | .lst ds => (toPys ds).map .list
  | .tup ds => (toPys ds).map .tuple
  | _ => none
def toPys : List T → Option (List PyData)
  | [] => some []
  | d :: ds => match toPy d, toPys ds with
    | some p, some ps => some (p :: ps)
    | _, _ => none
end
mutual
theorem dp_of {s : Option Addr} {P H : Hp} {K : PySem.W.Frag} (w : WF s P H) : ∀ {d : T} {v : V} {p : PyData}, Rp s P d v → toPy d = some p → Dp K H v p
  | .non, v, p, r, e => by
    simp only [Rp] at r
    simp only [toPy] at e
    cases e
    subst r
    exact .non
  | .bl b, v, p, r, e => by
    simp only [Rp] at r
    simp only [toPy] at e
    cases e
    subst r
    exact .bl b
  | .int b, v, p, r, e => by
    simp only [Rp] at r
    simp only [toPy] at e
    cases e
    subst r
    exact .int b
  | .str b, v, p, r, e => by
    simp only [Rp] at r
    simp only [toPy] at e
    cases e
    subst r
    exact .str b
  | .lst ds, v, p, r, e => by
    simp only [Rp] at r
    simp only [toPy, Option.map_eq_some_iff] at e
    obtain ⟨ps, e1, rfl⟩ := e
    obtain ⟨a, vs, rfl, h1, h2, _⟩ := r
    exact .lst (sql_of (w.sub _ _ h1)) (dps_of w h2 e1)
  | .tup ds, v, p, r, e => by
    simp only [Rp] at r
    simp only [toPy, Option.map_eq_some_iff] at e
    obtain ⟨ps, e1, rfl⟩ := e
    obtain ⟨a, vs, rfl, h1, h2, _⟩ := r
    exact .tup (sqt_of (w.sub _ _ h1)) (dps_of w h2 e1)
  | .ty _, v, p, r, e => by simp [toPy] at e
  | .sto, v, p, r, e => by simp [toPy] at e
  | .obj _ _ _, v, p, r, e => by simp [toPy] at e
theorem dps_of {s : Option Addr} {P H : Hp} {K : PySem.W.Frag} (w : WF s P H) : ∀ {ds : List T} {vs : List V} {ps : List PyData}, Rps s P ds vs → toPys ds = some ps → DpAll K H vs ps
  | [], vs, ps, r, e => by
    simp only [Rps] at r
    simp only [toPys] at e
    cases e
    subst r
    exact .nil
  | d :: ds, vs, ps, r, e => by
    simp only [Rps] at r
    obtain ⟨v, q, rfl, r1, r2⟩ := r
    simp only [toPys] at e
    split at e
    · rename_i p ps' e1 e2
      cases e
      exact .cons (dp_of w r1 e1) (dps_of w r2 e2)
    · cases e
end
def oEqD : T → T → (T → Prop) → Prop := fun d e k => ∃ p q, toPy d = some p ∧ toPy e = some q ∧ SeqAt.shaped p = true ∧ SeqAt.shaped q = true ∧ k (.bl (p.eqv q))
theorem ro_eqD {K : PySem.W.Frag} : ROp (rEqD K) oEqD := fun s P H x y d e k Q w h1 h2 ⟨p, q, e1, e2, s1, s2, h⟩ r =>
  ⟨p, q, dp_of w h1 e1, dp_of w h2 e2, s1, s2, r P H _ _ (Ext.refl w) (by simp [Rp]) h⟩
theorem eqD_ii {i j k l : Int} {Q : T → Prop} : oEqD (.tup [.int i, .int j]) (.tup [.int k, .int l]) Q = Q (.bl (decide (i = k) && decide (j = l))) := by
  have e : PyData.eqv (.tuple [.int i, .int j]) (.tuple [.int k, .int l]) = (decide (i = k) && decide (j = l)) := by
    simp [PyData.eqv, PyData.eqvAll]
    rfl
  refine propext ⟨fun ⟨p, q, e1, e2, _, _, h⟩ => ?_, fun h => ⟨.tuple [.int i, .int j], .tuple [.int k, .int l], rfl, rfl, rfl, rfl, by rw [e]; exact h⟩⟩
  cases e1
  cases e2
  rw [e] at h
  exact h
section
variable {A : Ad} {E : EK} {ta tb : TE} {ma mb : ME} {K : PySem.W.Frag}
def mLcnt (ma mb : ME) : ME := fun XA env k => ma XA env fun d => ∃ ns : List Int, d = .lst (ns.map T.int) ∧ mb XA env fun e => ∃ i : Int, e = .int i ∧ k (.int (ns.count i : Nat))
theorem rps_intsE {s : Option Addr} {P : Hp} : ∀ {ns : List Int} {vs : List V}, Rps s P (ns.map T.int) vs → vs = ns.map V.int
  | [], vs, h => by simpa only [Rps, List.map_nil] using h
  | n :: ns, vs, h => by
    simp only [List.map_cons, Rps, Rp] at h
    obtain ⟨v, r, rfl, rfl, h3⟩ := h
    rw [rps_intsE h3]
    rfl
theorem re_lcnt (ha : RE A E ta ma) (hb : RE A E tb mb) : RE A E (tBM K "list" (rCntI K) ta (tCons tb tNil)) (mLcnt ma mb) := fun s H0 P σ H env XA k Q re x h q =>
  ha s H0 P σ H env XA _ _ re x h fun P1 H1 v d e1 r1 ⟨ns, g1, h1⟩ => by
    subst g1
    simp only [Rp] at r1
    obtain ⟨a, vs, rfl, a1, a2, a3⟩ := r1
    have ev := rps_intsE a2
    subst ev
    refine ⟨by rw [w_tyL (e1.wf.sub _ _ a1)]; trivial, hb s H0 P1 σ H1 env XA _ _ (re.ext e1) (x.ext e1) h1 fun P2 H2 w e e2 r2 ⟨i, g2, h2⟩ => ?_⟩
    subst g2
    exact ⟨a, ns, i, rfl, by rw [rp_int r2], sql_of (e2.wf.sub _ _ (e2.sub _ _ a1)), q P2 H2 _ _ (e1.trans e2) (by simp [Rp]) h2⟩
end
end Mt
/-! ### texts -/
namespace Mt
open PySem PySem.Spec PyProof.Rows L2 L2H
/-- text + text -/
def rCatS : R2 := fun x y H Q => ∃ i j, x = .str i ∧ y = .str j ∧ i.length + j.length ≤ sizeLine ∧ Q (.str (i ++ j)) H
theorem op_catS {X : Cx} : OpR X (binaryOp .Add) rCatS := op_add_str
def oCatS : T → T → (T → Prop) → Prop := fun d e k => ∃ i j, d = .str i ∧ e = .str j ∧ i.length + j.length < 1000000 ∧ k (.str (i ++ j))
theorem ro_catS : ROp rCatS oCatS := fun s P H x y d e k Q w h1 h2 ⟨i, j, e1, e2, hz, h⟩ q => by
  subst e1 e2
  exact ⟨i, j, rp_str h1, rp_str h2, size_line hz, q P H _ _ (Ext.refl w) (by simp [Rp]) h⟩
/-- text[i] -/
def oIxS : T → T → (T → Prop) → Prop := fun d e k => ∃ z i c, d = .str z ∧ e = .int i ∧ z.length < 1000000 ∧ atI z.cps.toList i = some c ∧ k (.str ⟨#[c]⟩)
theorem ro_ixS : ROp rIxS oIxS := fun s P H x y d e k Q w h1 h2 ⟨z, i, c, e1, e2, hz, hc, h⟩ q => by
  subst e1 e2
  exact ⟨z, i, c, rp_str h1, rp_int h2, size_line hz, hc, q P H _ _ (Ext.refl w) (by simp [Rp]) h⟩
/-- sep.join(list of texts) -/
def rJoinH (K : PySem.W.Frag) : V → List V → Hp → VK → Prop := fun x xs H Q => ∃ a p, ∃ ys : List Str, x = .str a ∧ xs = [.ref p] ∧ (SqL K H p (ys.map V.str) ∨ SqT K H p (ys.map V.str)) ∧ (ys.map (·.length)).sum + ys.length * a.length ≤ 16777216 ∧ Q (.str (Txt.join a ys)) H
theorem mt_joinH {X : Cx} : MtR X "str.join" (rJoinH X.K) := mt_join
theorem rps_strsE {s : Option Addr} {P : Hp} : ∀ {ns : List Str} {vs : List V}, Rps s P (ns.map T.str) vs → vs = ns.map V.str
  | [], vs, h => by simpa only [Rps, List.map_nil] using h
  | n :: ns, vs, h => by
    simp only [List.map_cons, Rps, Rp] at h
    obtain ⟨v, r, rfl, rfl, h3⟩ := h
    rw [rps_strsE h3]
    rfl
section
variable {A : Ad} {E : EK} {ta tb : TE} {ma mb : ME} {K : PySem.W.Frag}
def mJoin (ma mb : ME) : ME := fun XA env k => ma XA env fun d => ∃ a : Str, d = .str a ∧ mb XA env fun e => ∃ ys : List Str, e = .lst (ys.map T.str) ∧ (ys.map (·.length)).sum + ys.length * a.length ≤ 16777216 ∧ k (.str (Txt.join a ys))
theorem re_join (ha : RE A E ta ma) (hb : RE A E tb mb) : RE A E (tM1 (rJoinH K) ta tb) (mJoin ma mb) := fun s H0 P σ H env XA k Q re x h q =>
  ha s H0 P σ H env XA _ _ re x h fun P1 H1 v d e1 r1 ⟨a, g1, h1⟩ => by
    subst g1
    have ev := rp_str r1
    subst ev
    refine ⟨⟨a, rfl⟩, hb s H0 P1 σ H1 env XA _ _ (re.ext e1) (x.ext e1) h1 fun P2 H2 w e e2 r2 ⟨ys, g2, hz, h2⟩ => ?_⟩
    subst g2
    simp only [Rp] at r2
    obtain ⟨p, vs, rfl, a1, a2, a3⟩ := r2
    have ev := rps_strsE a2
    subst ev
    exact ⟨a, p, ys, rfl, rfl, Or.inl (sql_of (e2.wf.sub _ _ a1)), hz, q P2 H2 _ _ (e1.trans e2) (by simp [Rp]) h2⟩
end
end Mt
namespace Mt
open PySem PySem.Spec PyProof.Rows L2 L2H
/-- len of a text -/
def rLenS : List V → Hp → VK → Prop := fun vs H Q => ∃ z : Str, vs = [.str z] ∧ z.length ≤ sizeLine ∧ Q (.int z.length) H
theorem call_lenS {X : Cx} : CallR X (.builtin "len") rLenS := call_len_str
def oLenS : List T → (T → Prop) → Prop := fun ds k => ∃ z : Str, ds = [.str z] ∧ z.length < 1000000 ∧ k (.int z.length)
theorem rcb_lenS : RCB rLenS oLenS := fun s P H vs ds k Q w h ⟨z, g1, hz, h3⟩ q => by
  subst g1
  obtain ⟨v, rfl, h1⟩ := rps1 h
  exact ⟨z, by rw [rp_str h1], size_line hz, q P H _ _ (Ext.refl w) (by simp [Rp]) h3⟩
end Mt
namespace Mt
open PySem PySem.Spec PyProof.Rows L2 L2H
/-- tuple of a list -/
def rTupOf (K : PySem.W.Frag) : List V → Hp → VK → Prop := fun xs H Q => ∃ p ys, xs = [.ref p] ∧ ((SqL K H p ys ∧ ∀ l, H l = none → Q (.ref l) (upd H l (.tup ys))) ∨ (SqT K H p ys ∧ Q (.ref p) H))
theorem call_tupOf {X : Cx} : CallR X (.type "tuple") (rTupOf X.K) := call_tuple_of
def oTupOf : List T → (T → Prop) → Prop := fun ds k => ∃ es, ds = [.lst es] ∧ k (.tup es)
theorem rcb_tupOf {K : PySem.W.Frag} : RCB (rTupOf K) oTupOf := fun s P H vs ds k Q w h ⟨es, g1, h3⟩ q => by
  subst g1
  obtain ⟨v, rfl, h1⟩ := rps1 h
  simp only [Rp] at h1
  obtain ⟨a, us, rfl, a1, a2, a3⟩ := h1
  refine ⟨a, us, rfl, Or.inl ⟨sql_of (w.sub _ _ a1), fun l hl => ?_⟩⟩
  have e2 := ext_new (o := .tup us) w hl
  refine q _ _ _ (.tup es) e2 ?_ h3
  simp only [Rp]
  exact ⟨l, us, rfl, upd_same, rps_same e2.sub _ _ a2, a3⟩
theorem oTupOf_w {es : List T} {k : T → Prop} : oTupOf [.lst es] k = k (.tup es) := propext ⟨fun ⟨a, e, h⟩ => by cases e; exact h, fun h => ⟨es, rfl, h⟩⟩
theorem atI_ex {α : Type} {l : List α} {r : Int} (h0 : 0 ≤ r) (h1 : r < l.length) : ∃ c, atI l r = some c := by
  obtain ⟨j, rfl⟩ := Int.eq_ofNat_of_zero_le h0
  exact ⟨l[j]'(by omega), atI_nat (List.getElem?_eq_getElem (by omega))⟩
end Mt
/-! ### max, sum of a list of ints, any, is of bools -/
namespace Mt
open PySem PySem.Spec PyProof.Rows L2 L2H
section
variable {K : PySem.W.Frag}
theorem rps_lst1 {s : Option Addr} {P H : Hp} {ds : List T} {vs : List V} (w : WF s P H) (h : Rps s P [.lst ds] vs) : ∃ a us, vs = [.ref a] ∧ SqL K H a us ∧ Rps s P ds us := by
  obtain ⟨v, rfl, h1⟩ := rps1 h
  simp only [Rp] at h1
  obtain ⟨a, us, rfl, a1, a2, a3⟩ := h1
  exact ⟨a, us, rfl, sql_of (w.sub _ _ a1), a2⟩
def oMaxL : List T → (T → Prop) → Prop := fun ds k => ∃ ns : List Int, ds = [.lst (ns.map T.int)] ∧ 0 < ns.length ∧ ∀ m, m ∈ ns → (∀ y, y ∈ ns → y ≤ m) → k (.int m)
theorem rcb_maxL : RCB (rMax K) oMaxL := fun s P H vs ds k Q w h ⟨ns, g1, g2, h3⟩ q => by
  subst g1
  obtain ⟨a, us, rfl, a1, a2⟩ := rps_lst1 (K := K) w h
  have e := rps_intsE a2
  subst e
  exact ⟨a, ns, rfl, a1, g2, fun m hm hy => q P H _ _ (Ext.refl w) (by simp [Rp]) (h3 m hm hy)⟩
def oSum : List T → (T → Prop) → Prop := fun ds k => ∃ ns : List Int, ds = [.lst (ns.map T.int)] ∧ k (.int ns.sum)
theorem rcb_sum : RCB (rSum K) oSum := fun s P H vs ds k Q w h ⟨ns, g1, h3⟩ q => by
  subst g1
  obtain ⟨a, us, rfl, a1, a2⟩ := rps_lst1 (K := K) w h
  have e := rps_intsE a2
  subst e
  exact ⟨a, ns, rfl, a1, q P H _ _ (Ext.refl w) (by simp [Rp]) h3⟩
theorem rcb_any : RCB (rAny K) oAny := fun s P H vs ds k Q w h ⟨bs, g1, h3⟩ q => by
  subst g1
  obtain ⟨a, us, rfl, a1, a2⟩ := rps_lst1 (K := K) w h
  have e := rps_bls a2
  subst e
  exact ⟨a, bs, rfl, a1, q P H _ _ (Ext.refl w) (by simp [Rp]) h3⟩
def oIsBl : T → T → (T → Prop) → Prop := fun d e k => ∃ a b, d = .bl a ∧ e = .bl b ∧ k (.bl (decide (a = b)))
theorem ro_isBl : ROp rIsB oIsBl := fun s P H x y d e k Q w h1 h2 ⟨a, b, e1, e2, h⟩ q => by
  subst e1 e2
  exact ⟨a, b, rp_bl h1, rp_bl h2, q P H _ _ (Ext.refl w) (by simp [Rp]) h⟩
theorem oIsBl_w {a b : Bool} {k : T → Prop} : oIsBl (.bl a) (.bl b) k = k (.bl (decide (a = b))) := propext ⟨fun ⟨x, y, e1, e2, h⟩ => by cases e1; cases e2; exact h, fun h => ⟨a, b, rfl, rfl, h⟩⟩
end
/-! a def that may raise, where it doesn't -/
section
variable {P : Program} {w : World} {K : PySem.W.Frag} {mg : Str → Option Value} {base : Heap} {A : Ad} {n k : Nat} {c : Ct} {f : Addr} {fd : FuncData} {ps : List Str} {x : Str}
def cCalm (c : Ct) : Ct := fun ds kk _ => c ds kk fun _ => False
theorem spu_calm {vs : List V} {H : Hp} {Q : VK} {E : XK} (h : SpU A n (cCalm c) vs H Q E) : SpU A n c vs H Q fun _ _ _ => False := by
  obtain ⟨s, P, ds, kk, EA, h1, h2, h3, h4, h5, _⟩ := h
  exact ⟨s, P, ds, kk, fun _ => False, h1, h2, h3, h4, h5, fun _ _ _ _ _ _ z => z.elim⟩
theorem fnok_calm (F : FnOk P w K mg base (CN P w) k f fd ps (SpU A n c)) : FnOk P w K mg base CX0 k f fd ps (SpU A n (cCalm c)) := by
  refine ⟨fun vs H Q E h => F.len vs H Q _ (spu_calm h), fun Ar outer s H args us vs Q E a b d e h => codeAny_mono (F.run Ar outer s H args us vs Q _ a b d e (spu_calm h)) fun r s' hr => ?_⟩
  cases r with
  | ok fl => cases fl <;> exact hr
  | error er =>
    obtain ⟨_, _, _, _, _, _, _, _, _, _, _, _, z⟩ := hr
    exact z.elim
theorem CalX.calm (C : CalX P w K mg base x k ps (SpU A n c)) : Cal P w K mg base x k ps (SpU A n (cCalm c)) := by
  obtain ⟨f, fd, F, gm, kp, b⟩ := C.ex
  exact ⟨f, fd, fnok_calm F, gm, kp, b⟩
end
theorem both_mk {K : PySem.W.Frag} {x qual : Str} {st : Stmt} {f D : Addr} {oc : Value} {od an : Option Addr} {osl : Array (Option Value)} {kV doc pm cdv ct : Value} {kws : List (Str × V)}
    (l : K.lookup f = some ⟨oc, od, .func (PySem.W.fnOf x qual (defArgs st) (defBody st) (defScope st) .none kV doc pm an cdv ct), osl⟩) (h : kV = .ref D) (c : PySem.W.codeIn K cdv qual = true) (k : PySem.W.keepIn K (.ref f) = true)
    (w : ∀ q ∈ kws, ∃ u, PySem.W.nsIn K D q.1 = some (some u) ∧ RelV q.2 u) :
    Fun K x qual st f (PySem.W.fnOf x qual (defArgs st) (defBody st) (defScope st) .none kV doc pm an cdv ct) ∧ FunD K x qual (defArgs st) (defBody st) (defScope st) [] kws f (PySem.W.fnOf x qual (defArgs st) (defBody st) (defScope st) .none kV doc pm an cdv ct) :=
  ⟨fun_mk l c k, ⟨⟨oc, od, .none, kV, doc, pm, an, cdv, ct, osl, rfl, l, c, Or.inl ⟨rfl, rfl⟩, Or.inr ⟨D, h, w⟩⟩, k⟩⟩
end Mt
namespace Mt
open PySem PySem.Spec PyProof.Rows L2 L2H
def topS (i : Nat) : Stmt := PySem.Challenge.pw_mendsontime_k59_no_bar_for_makeable_sett.main.body.getD i (.Pass ⟨0, 0, 0, 0⟩)
structure Txt (K : PySem.W.Frag) (mg : Str → Option Value) (A : Ad) (tk : Nat → Tok) (aBurstRule : Addr) : Prop where
  g_BurstRule : mg "BurstRule" = some (.ref aBurstRule)
  cl_BurstRule : Cls K aBurstRule
  na_BurstRule__burst : NoAttr K aBurstRule "_burst"
  na_BurstRule__gap : NoAttr K aBurstRule "_gap"
  m_abs : mg "abs" = none
  m_all : mg "all" = none
  m_bool : mg "bool" = none
  m_enumerate : mg "enumerate" = none
  m_int : mg "int" = none
  m_isinstance : mg "isinstance" = none
  m_len : mg "len" = none
  m_list : mg "list" = none
  m_max : mg "max" = none
  m_min : mg "min" = none
  m_range : mg "range" = none
  m_str : mg "str" = none
  m_tuple : mg "tuple" = none
  m_type : mg "type" = none
  g_MendError : mg "MendError" = some (.ref A.me)
  g_BadNumber : mg "BadNumber" = some (.ref A.bn)
  g_BadShape : mg "BadShape" = some (.ref A.bs)
  g_BadElement : mg "BadElement" = some (.ref A.be)
  g_MOST_BEATS_rules : mg "MOST_BEATS_rules" = some (.int 800 (tk 0))
  g_MOST_BURST_rules : mg "MOST_BURST_rules" = some (.int 8 (tk 1))
  g_MOST_GAP : mg "MOST_GAP" = some (.int 8 (tk 2))
  g_MOST_IN_SETTING : mg "MOST_IN_SETTING" = some (.int 8 (tk 3))
  g_MOST_BURST_burstmake : mg "MOST_BURST_burstmake" = some (.int 8 (tk 4))
  g_MOST_DELAY : mg "MOST_DELAY" = some (.int 6 (tk 5))
  g_MOST_BEATS_bar : mg "MOST_BEATS_bar" = some (.int 800 (tk 6))
abbrev s_is_whole : Stmt := topS 5
theorem sc_is_whole : FnScope ["value", "low", "high"] ["value", "low", "high"] (defScope s_is_whole) := ⟨rfl, rfl, rfl, by decide +kernel, rfl, by decide +kernel, by decide +kernel⟩
abbrev s_is_row : Stmt := topS 6
theorem sc_is_row : FnScope ["value", "size", "length", "entry"] ["value", "size", "length"] (defScope s_is_row) := ⟨rfl, rfl, rfl, by decide +kernel, rfl, by decide +kernel, by decide +kernel⟩
abbrev s_check_number : Stmt := topS 7
theorem sc_check_number : FnScope ["value", "low", "high", "argument"] ["value", "low", "high", "argument"] (defScope s_check_number) := ⟨rfl, rfl, rfl, by decide +kernel, rfl, by decide +kernel, by decide +kernel⟩
abbrev s_check_element : Stmt := topS 8
theorem sc_check_element : FnScope ["value", "size", "argument"] ["value", "size", "argument"] (defScope s_check_element) := ⟨rfl, rfl, rfl, by decide +kernel, rfl, by decide +kernel, by decide +kernel⟩
abbrev s_check_list : Stmt := topS 9
theorem sc_check_list : FnScope ["value", "most", "argument", "exact"] ["value", "most", "argument", "exact"] (defScope s_check_list) := ⟨rfl, rfl, rfl, by decide +kernel, rfl, by decide +kernel, by decide +kernel⟩
abbrev s_check_entries : Stmt := topS 10
theorem sc_check_entries : FnScope ["row", "size", "argument", "entry"] ["row", "size", "argument"] (defScope s_check_entries) := ⟨rfl, rfl, rfl, by decide +kernel, rfl, by decide +kernel, by decide +kernel⟩
abbrev s_check_pattern : Stmt := topS 11
theorem sc_check_pattern : FnScope ["pattern", "most", "argument", "exact"] ["pattern", "most", "argument", "exact"] (defScope s_check_pattern) := ⟨rfl, rfl, rfl, by decide +kernel, rfl, by decide +kernel, by decide +kernel⟩
abbrev s_check_setting : Stmt := topS 21
theorem sc_check_setting : FnScope ["letters", "signs", "burst", "delay"] ["letters", "signs", "burst", "delay"] (defScope s_check_setting) := ⟨rfl, rfl, rfl, by decide +kernel, rfl, by decide +kernel, by decide +kernel⟩
abbrev s_can_make : Stmt := topS 22
theorem sc_can_make : FnScope ["letters", "signs", "burst", "delay"] ["letters", "signs", "burst", "delay"] (defScope s_can_make) := ⟨rfl, rfl, rfl, by decide +kernel, rfl, by decide +kernel, by decide +kernel⟩
abbrev s_is_list : Stmt := topS 24
theorem sc_is_list : FnScope ["value", "least", "most"] ["value", "least", "most"] (defScope s_is_list) := ⟨rfl, rfl, rfl, by decide +kernel, rfl, by decide +kernel, by decide +kernel⟩
abbrev s_is_tuple : Stmt := topS 25
theorem sc_is_tuple : FnScope ["value", "many"] ["value", "many"] (defScope s_is_tuple) := ⟨rfl, rfl, rfl, by decide +kernel, rfl, by decide +kernel, by decide +kernel⟩
abbrev s_is_pattern : Stmt := topS 26
theorem sc_is_pattern : FnScope ["value", "least", "most"] ["value", "least", "most"] (defScope s_is_pattern) := ⟨rfl, rfl, rfl, by decide +kernel, rfl, by decide +kernel, by decide +kernel⟩
abbrev s_letters_due : Stmt := topS 29
theorem sc_letters_due : FnScope ["letters", "delay", "beats"] ["letters", "delay", "beats"] (defScope s_letters_due) := ⟨rfl, rfl, rfl, by decide +kernel, rfl, by decide +kernel, by decide +kernel⟩
abbrev s_BurstRule___init__ : Stmt := inClass (topS 16) 0
theorem sc_BurstRule___init__ : FnScope ["self", "burst", "gap"] ["self", "burst", "gap"] (defScope s_BurstRule___init__) := ⟨rfl, rfl, rfl, by decide +kernel, rfl, by decide +kernel, by decide +kernel⟩
abbrev s_BurstRule_after : Stmt := inClass (topS 16) 4
theorem sc_BurstRule_after : FnScope ["self", "state", "lost", "heard"] ["self", "state", "lost"] (defScope s_BurstRule_after) := ⟨rfl, rfl, rfl, by decide +kernel, rfl, by decide +kernel, by decide +kernel⟩
abbrev s_BurstRule_first_state : Stmt := inClass (topS 16) 3
theorem sc_BurstRule_first_state : FnScope ["self"] ["self"] (defScope s_BurstRule_first_state) := ⟨rfl, rfl, rfl, by decide +kernel, rfl, by decide +kernel, by decide +kernel⟩
abbrev s_BurstRule_first_break : Stmt := inClass (topS 16) 5
theorem sc_BurstRule_first_break : FnScope ["self", "pattern", "state", "beat", "flag"] ["self", "pattern"] (defScope s_BurstRule_first_break) := ⟨rfl, rfl, rfl, by decide +kernel, rfl, by decide +kernel, by decide +kernel⟩
abbrev s_BurstRule___contains__ : Stmt := inClass (topS 16) 6
theorem sc_BurstRule___contains__ : FnScope ["self", "x"] ["self", "x"] (defScope s_BurstRule___contains__) := ⟨rfl, rfl, rfl, by decide +kernel, rfl, by decide +kernel, by decide +kernel⟩
abbrev s_is_counted : Stmt := topS 31
theorem sc_is_counted : FnScope ["letters", "signs", "rule", "delay", "paper", "counts", "pattern", "due", "heard"] ["letters", "signs", "rule", "delay", "paper"] (defScope s_is_counted) := ⟨rfl, rfl, rfl, by decide +kernel, rfl, by decide +kernel, by decide +kernel⟩
abbrev s_is_bar_paper : Stmt := topS 30
theorem sc_is_bar_paper : FnScope ["letters", "signs", "burst", "delay", "paper"] ["letters", "signs", "burst", "delay", "paper"] (defScope s_is_bar_paper) := ⟨rfl, rfl, rfl, by decide +kernel, rfl, by decide +kernel, by decide +kernel⟩
abbrev s_law_mixed : Stmt := topS 33
theorem sc_law_mixed : FnScope ["number", "turn", "first", "second"] ["number", "turn"] (defScope s_law_mixed) := ⟨rfl, rfl, rfl, by decide +kernel, rfl, by decide +kernel, by decide +kernel⟩
abbrev s_law_store : Stmt := topS 34
theorem sc_law_store : FnScope ["script", "seed", "cell"] ["script"] (defScope s_law_store) := ⟨rfl, rfl, rfl, by decide +kernel, rfl, by decide +kernel, by decide +kernel⟩
abbrev s_law_take : Stmt := topS 35
theorem sc_law_take : FnScope ["store", "many", "number"] ["store", "many"] (defScope s_law_take) := ⟨rfl, rfl, rfl, by decide +kernel, rfl, by decide +kernel, by decide +kernel⟩
abbrev s_law_edge : Stmt := topS 36
theorem sc_law_edge : FnScope ["store", "low", "high", "way"] ["store", "low", "high"] (defScope s_law_edge) := ⟨rfl, rfl, rfl, by decide +kernel, rfl, by decide +kernel, by decide +kernel⟩
abbrev s_law_small : Stmt := topS 37
theorem sc_law_small : FnScope ["store", "low", "usual", "high"] ["store", "low", "usual", "high"] (defScope s_law_small) := ⟨rfl, rfl, rfl, by decide +kernel, rfl, by decide +kernel, by decide +kernel⟩
abbrev s_law_same : Stmt := topS 38
theorem sc_law_same : FnScope ["left", "right", "k"] ["left", "right"] (defScope s_law_same) := ⟨rfl, rfl, rfl, by decide +kernel, rfl, by decide +kernel, by decide +kernel⟩
abbrev s_law_copy : Stmt := topS 39
theorem sc_law_copy : FnScope ["value", "part"] ["value"] (defScope s_law_copy) := ⟨rfl, rfl, rfl, by decide +kernel, rfl, by decide +kernel, by decide +kernel⟩
abbrev s_law_char : Stmt := topS 40
theorem sc_law_char : FnScope ["store", "chars"] ["store"] (defScope s_law_char) := ⟨rfl, rfl, rfl, by decide +kernel, rfl, by decide +kernel, by decide +kernel⟩
abbrev s_law_text : Stmt := topS 41
theorem sc_law_text : FnScope ["store", "most", "k"] ["store", "most"] (defScope s_law_text) := ⟨rfl, rfl, rfl, by decide +kernel, rfl, by decide +kernel, by decide +kernel⟩
abbrev s_law_plain : Stmt := topS 42
theorem sc_law_plain : FnScope ["store", "depth", "way", "parts", "k"] ["store", "depth"] (defScope s_law_plain) := ⟨rfl, rfl, rfl, by decide +kernel, rfl, by decide +kernel, by decide +kernel⟩
abbrev s_law_round : Stmt := topS 43
theorem sc_law_round : FnScope ["lost", "heard", "beats", "k"] ["lost", "heard", "beats"] (defScope s_law_round) := ⟨rfl, rfl, rfl, by decide +kernel, rfl, by decide +kernel, by decide +kernel⟩
abbrev s_law_setting : Stmt := topS 44
theorem sc_law_setting : FnScope ["store", "letters", "low", "width"] ["store"] (defScope s_law_setting) := ⟨rfl, rfl, rfl, by decide +kernel, rfl, by decide +kernel, by decide +kernel⟩
abbrev s_law_gcd : Stmt := topS 45
theorem sc_law_gcd : FnScope ["one", "two", "k", "rest"] ["one", "two"] (defScope s_law_gcd) := ⟨rfl, rfl, rfl, by decide +kernel, rfl, by decide +kernel, by decide +kernel⟩
abbrev s_law_multiple : Stmt := topS 46
theorem sc_law_multiple : FnScope ["setting", "letters", "width", "burst", "late"] ["setting"] (defScope s_law_multiple) := ⟨rfl, rfl, rfl, by decide +kernel, rfl, by decide +kernel, by decide +kernel⟩
abbrev s_law_fit : Stmt := topS 47
theorem sc_law_fit : FnScope ["store", "most", "late", "burst", "letters", "least", "setting"] ["store", "most"] (defScope s_law_fit) := ⟨rfl, rfl, rfl, by decide +kernel, rfl, by decide +kernel, by decide +kernel⟩
abbrev s_law_unfit : Stmt := topS 48
theorem sc_law_unfit : FnScope ["store", "letters", "burst", "late", "high"] ["store"] (defScope s_law_unfit) := ⟨rfl, rfl, rfl, by decide +kernel, rfl, by decide +kernel, by decide +kernel⟩
abbrev s_law_losses : Stmt := topS 49
theorem sc_law_losses : FnScope ["store", "burst", "gap", "beats", "share", "found", "run", "behind", "k", "allowed"] ["store", "burst", "gap", "beats"] (defScope s_law_losses) := ⟨rfl, rfl, rfl, by decide +kernel, rfl, by decide +kernel, by decide +kernel⟩
abbrev s_law_makeable : Stmt := topS 50
theorem sc_law_makeable : FnScope ["store", "burst", "checks", "letters", "width", "late"] ["store"] (defScope s_law_makeable) := ⟨rfl, rfl, rfl, by decide +kernel, rfl, by decide +kernel, by decide +kernel⟩
abbrev s_law_counted : Stmt := topS 51
theorem sc_law_counted : FnScope ["setting", "pattern", "due", "k"] ["setting", "pattern"] (defScope s_law_counted) := ⟨rfl, rfl, rfl, by decide +kernel, rfl, by decide +kernel, by decide +kernel⟩
abbrev s_law_papers : Stmt := topS 52
theorem sc_law_papers : FnScope ["store", "setting", "beats", "kept", "loose", "found", "pattern", "right", "k"] ["store", "setting"] (defScope s_law_papers) := ⟨rfl, rfl, rfl, by decide +kernel, rfl, by decide +kernel, by decide +kernel⟩
abbrev s_law_is_bar : Stmt := topS 53
theorem sc_law_is_bar : FnScope ["setting", "paper", "due", "handed", "told"] ["setting", "paper", "due"] (defScope s_law_is_bar) := ⟨rfl, rfl, rfl, by decide +kernel, rfl, by decide +kernel, by decide +kernel⟩
abbrev s_law_refuses_all : Stmt := topS 54
theorem sc_law_refuses_all : FnScope ["setting", "papers", "paper"] ["setting", "papers"] (defScope s_law_refuses_all) := ⟨rfl, rfl, rfl, by decide +kernel, rfl, by decide +kernel, by decide +kernel⟩
abbrev s_law_takes_long : Stmt := topS 55
theorem sc_law_takes_long : FnScope ["store", "setting", "size", "paper", "off", "beats"] ["store", "setting"] (defScope s_law_takes_long) := ⟨rfl, rfl, rfl, by decide +kernel, rfl, by decide +kernel, by decide +kernel⟩
abbrev s_law : Stmt := topS 56
theorem sc_law : FnScope ["script", "store", "setting", "papers"] ["script"] (defScope s_law) := ⟨rfl, rfl, rfl, by decide +kernel, rfl, by decide +kernel, by decide +kernel⟩
abbrev s_BadNumber___init__ : Stmt := inClass (topS 2) 0
theorem sc_BadNumber___init__ : FnScope ["self", "argument"] ["self", "argument"] (defScope s_BadNumber___init__) := ⟨rfl, rfl, rfl, by decide +kernel, rfl, by decide +kernel, by decide +kernel⟩
abbrev s_BadShape___init__ : Stmt := inClass (topS 3) 0
theorem sc_BadShape___init__ : FnScope ["self", "argument"] ["self", "argument"] (defScope s_BadShape___init__) := ⟨rfl, rfl, rfl, by decide +kernel, rfl, by decide +kernel, by decide +kernel⟩
abbrev s_BadElement___init__ : Stmt := inClass (topS 4) 0
theorem sc_BadElement___init__ : FnScope ["self", "argument"] ["self", "argument"] (defScope s_BadElement___init__) := ⟨rfl, rfl, rfl, by decide +kernel, rfl, by decide +kernel, by decide +kernel⟩
/-- the errors that this program raises -/
def ecAl : Ec → Bool
  | .bn => true
  | .bs => true
  | .be => true
  | _ => false
end Mt
namespace Mt
open PySem PySem.Spec PyProof.Rows L2 L2H
/-- a list's entries are of the kinds that data has -/
def itemsTy (v : T) : Prop := ∀ es, v = .lst es → ∀ e ∈ es, ∃ n, tyT e = some n
def ruleT (C : Addr) (b g : Int) : T := .obj C ["_burst", "_gap"] [.int b, .int g]
theorem lkB_burst {α : Type} {x y : α} : ((["_burst", "_gap"] : List Str).zip [x, y]).lookup ("_burst" : Str) = some x := rfl
theorem lkB_gap {α : Type} {x y : α} : ((["_burst", "_gap"] : List Str).zip [x, y]).lookup ("_gap" : Str) = some y := rfl
def c_is_whole : Ct := fun ds k _ => ∃ v lo hi n, ds = [v, .int lo, .int hi] ∧ tyT v = some n ∧ k (.bl (wholeT v lo hi))
def rowB : T → Int → Int → Bool
  | .lst es, s, l => decide ((es.length : Int) = l) && es.all (fun e => wholeT e 0 (s - 1))
  | _, _, _ => false
def c_is_row : Ct := fun ds k _ => ∃ v n s l, ds = [v, .int s, .int l] ∧ tyT v = some n ∧ itemsTy v ∧ k (.bl (rowB v s l))
def c_check_number : Ct := fun ds k XA => ∃ v lo hi n z, ds = [v, .int lo, .int hi, z] ∧ tyT v = some n ∧ (wholeT v lo hi = true → k v) ∧ (wholeT v lo hi = false → XA (.arg .bn z))
theorem num_ok {i lo hi : Int} {z : T} {k : T → Prop} {XA : Ex → Prop} (h1 : lo ≤ i) (h2 : i ≤ hi) (h : k (.int i)) : c_check_number [.int i, .int lo, .int hi, z] k XA :=
  ⟨.int i, lo, hi, "int", z, rfl, rfl, fun _ => h, tf (by simp only [wholeT, decide_eq_true h1, decide_eq_true h2, Bool.and_self])⟩
theorem num_bad {v z : T} {lo hi : Int} {n : String} {k : T → Prop} {XA : Ex → Prop} (h : tyT v = some n) (h1 : wholeT v lo hi = false) (hx : XA (.arg .bn z)) : c_check_number [v, .int lo, .int hi, z] k XA :=
  ⟨v, lo, hi, n, z, rfl, h, fun e => tf e h1, fun _ => hx⟩
theorem wholeT_true {v : T} {lo hi : Int} (h : wholeT v lo hi = true) : ∃ i, v = .int i ∧ lo ≤ i ∧ i ≤ hi := by
  cases v with
  | int i =>
    simp only [wholeT, Bool.and_eq_true, decide_eq_true_eq] at h
    exact ⟨i, rfl, h.1, h.2⟩
  | _ => simp [wholeT] at h
theorem wholeT_int {i lo hi : Int} (h1 : lo ≤ i) (h2 : i ≤ hi) : wholeT (.int i) lo hi = true := by
  simp only [wholeT, decide_eq_true h1, decide_eq_true h2, Bool.and_self]
def c_check_element : Ct := fun ds k XA => ∃ v s n z, ds = [v, .int s, z] ∧ tyT v = some n ∧ (wholeT v 0 (s - 1) = true → k v) ∧ (wholeT v 0 (s - 1) = false → XA (.arg .be z))
/-- a list of the due length -/
def shapeB : T → Int → Bool → Bool
  | .lst es, m, e => !decide (m < (es.length : Int)) && !(e && !decide ((es.length : Int) = m))
  | _, _, _ => false
def c_check_list : Ct := fun ds k XA => ∃ v n m z e, ds = [v, .int m, z, .bl e] ∧ tyT v = some n ∧ (shapeB v m e = true → k .non) ∧ (shapeB v m e = false → XA (.arg .bs z))
def c_check_entries : Ct := fun ds k XA => ∃ es s z, ds = [.lst es, .int s, z] ∧ (∀ e ∈ es, ∃ n, tyT e = some n) ∧ (es.all (fun e => wholeT e 0 (s - 1)) = true → k (.lst es)) ∧ (es.all (fun e => wholeT e 0 (s - 1)) = false → XA (.arg .be z))
theorem all_false_of {α : Type} {p : α → Bool} {l : List α} {x : α} (h : x ∈ l) (e : p x = false) : l.all p = false := by
  cases q : l.all p with
  | false => rfl
  | true => rw [List.all_eq_true.mp q x h] at e; cases e
theorem lc_id {f : T → (Option T → Prop) → Prop} {xs : List T} {k : List T → Prop} (h : ∀ x r, x ∈ xs → r (some x) → f x r) (hk : k xs) : lcInv f xs k := by
  refine lc_pure some (fun i x r hx hr => h x r (List.mem_of_getElem? hx) hr) ?_
  rw [List.filterMap_some]
  exact hk
/-- with a last word on whether all items were let through -/
theorem lc_idA {f : T → (Option T → Prop) → Prop} {p : T → Bool} {xs : List T} {k : List T → Prop} (h : ∀ x r, x ∈ xs → (p x = true → r (some x)) → f x r) (hk : xs.all p = true → k xs) : lcInv f xs k := by
  refine ⟨fun i acc => acc = xs.take i ∧ (xs.take i).all p = true, ⟨by rw [List.take_zero], by rw [List.take_zero]; rfl⟩, fun i x acc hx ⟨e, ea⟩ => h x _ (List.mem_of_getElem? hx) fun hp => ?_, fun acc ⟨e, ea⟩ => ?_⟩
  · have hi : i < xs.length := (List.getElem?_eq_some_iff.mp hx).1
    have et : xs.take (i + 1) = xs.take i ++ [x] := by rw [List.take_add_one, hx]; rfl
    exact ⟨by rw [et, e], by rw [et, List.all_append, ea]; simp [hp]⟩
  · rw [List.take_length] at e ea
    rw [e]
    exact hk ea
def c_check_pattern : Ct := fun ds k XA => ∃ v n m z e, ds = [v, .int m, z, .bl e] ∧ tyT v = some n ∧ itemsTy v ∧ (shapeB v m e = false → XA (.arg .bs z)) ∧ (shapeB v m e = true → ∀ es, v = .lst es → (es.all (fun e => wholeT e 0 1) = false → XA (.arg .be z)) ∧ (es.all (fun e => wholeT e 0 1) = true → k (.lst es)))
theorem shape_lst {v : T} {m : Int} {e : Bool} (h : shapeB v m e = true) : ∃ es, v = .lst es := by
  cases v with
  | lst es => exact ⟨es, rfl⟩
  | _ => cases h
structure SetOk (l w b d : Int) : Prop where
  l0 : 0 ≤ l
  l1 : l ≤ 8
  w0 : max 1 l ≤ w
  w1 : w ≤ 8
  b0 : 0 ≤ b
  b1 : b ≤ 8
  d0 : 1 ≤ d
  d1 : d ≤ 6
def c_check_setting : Ct := fun ds k XA => ∃ l w b d nl nw nb nd, ds = [l, w, b, d] ∧ tyT l = some nl ∧ tyT w = some nw ∧ tyT b = some nb ∧ tyT d = some nd ∧
  (wholeT l 0 8 = false → XA (.arg .bn (.str "letters"))) ∧
  (∀ li, l = .int li → 0 ≤ li → li ≤ 8 → (wholeT w (max 1 li) 8 = false → XA (.arg .bn (.str "signs"))) ∧
    (wholeT w (max 1 li) 8 = true → (wholeT b 0 8 = false → XA (.arg .bn (.str "burst"))) ∧
      (wholeT b 0 8 = true → (wholeT d 1 6 = false → XA (.arg .bn (.str "delay"))) ∧ (wholeT d 1 6 = true → k .non))))
theorem set_ok {l w b d : Int} {k : T → Prop} {XA : Ex → Prop} (h : SetOk l w b d) (hk : k .non) : c_check_setting [.int l, .int w, .int b, .int d] k XA :=
  ⟨.int l, .int w, .int b, .int d, _, _, _, _, rfl, rfl, rfl, rfl, rfl, tf (wholeT_int h.l0 h.l1), fun li e _ _ => by
    cases e
    exact ⟨tf (wholeT_int h.w0 h.w1), fun _ => ⟨tf (wholeT_int h.b0 h.b1), fun _ => ⟨tf (wholeT_int h.d0 h.d1), fun _ => hk⟩⟩⟩⟩
theorem check_setting_mono {ds : List T} {k k' : T → Prop} {XA XA' : Ex → Prop} (h1 : k .non → k' .non) (h2 : ∀ x, XA x → XA' x) (h : c_check_setting ds k XA) : c_check_setting ds k' XA' := by
  obtain ⟨l, w, b, d, nl, nw, nb, nd, e, el, ew, eb, ed, g1, g2⟩ := h
  exact ⟨l, w, b, d, nl, nw, nb, nd, e, el, ew, eb, ed, fun e => h2 _ (g1 e), fun li e l0 l1 => ⟨fun e2 => h2 _ ((g2 li e l0 l1).1 e2), fun e2 => ⟨fun e3 => h2 _ (((g2 li e l0 l1).2 e2).1 e3), fun e3 => ⟨fun e4 => h2 _ ((((g2 li e l0 l1).2 e2).2 e3).1 e4), fun e4 => h1 ((((g2 li e l0 l1).2 e2).2 e3).2 e4)⟩⟩⟩⟩
def fitB (l w b d : Int) : Bool := decide (l = 0) || (decide (b ≤ d) && decide (l * (d + b) ≤ w * d))
def c_can_make : Ct := fun ds k _ => ∃ l w b d : Int, ds = [.int l, .int w, .int b, .int d] ∧ SetOk l w b d ∧ k (.bl (fitB l w b d))
def listB : T → Int → Int → Bool
  | .lst es, a, b => decide (a ≤ (es.length : Int)) && decide ((es.length : Int) ≤ b)
  | _, _, _ => false
def c_is_list : Ct := fun ds k _ => ∃ v n a b, ds = [v, .int a, .int b] ∧ tyT v = some n ∧ k (.bl (listB v a b))
def tupB : T → Int → Bool
  | .tup es, a => decide ((es.length : Int) = a)
  | _, _ => false
def c_is_tuple : Ct := fun ds k _ => ∃ v n a, ds = [v, .int a] ∧ tyT v = some n ∧ k (.bl (tupB v a))
/-- a list of so many flags -/
def patB : T → Int → Int → Bool
  | .lst es, a, b => (decide (a ≤ (es.length : Int)) && decide ((es.length : Int) ≤ b)) && es.all (fun e => wholeT e 0 1)
  | _, _, _ => false
def c_is_pattern : Ct := fun ds k _ => ∃ v n a b, ds = [v, .int a, .int b] ∧ tyT v = some n ∧ itemsTy v ∧ k (.bl (patB v a b))
def c_letters_due : Ct := fun ds k _ => ∃ l d n : Int, ds = [.int l, .int d, .int n] ∧ -1000 < l ∧ l < 1000 ∧ k (.int (l * max 0 (n - d)))
def c_BurstRule___init__ (C : Addr) : Ct := fun ds k XA => ∃ b g nb ng, ds = [b, g] ∧ tyT b = some nb ∧ tyT g = some ng ∧ (wholeT b 0 8 = false → XA (.arg .bn (.str "burst"))) ∧
  (∀ bi, b = .int bi → 0 ≤ bi → bi ≤ 8 → (wholeT g 1 8 = false → XA (.arg .bn (.str "gap"))) ∧ ∀ gi, g = .int gi → 1 ≤ gi → gi ≤ 8 → k (ruleT C bi gi))
/-- the state after a beat -/
def brAfter (b g s : Int) (lost : Bool) : Option Int := if lost = true then (if s < b then some (s + 1) else none) else if s = 0 then some 0 else if max (s - b) 0 + 1 < g then some (b + (max (s - b) 0 + 1)) else some 0
def optI : Option Int → T
  | none => .non
  | some i => .int i
def flagT (b : Bool) : T := .int (if b = true then 1 else 0)
def c_BurstRule_after (C : Addr) : Ct := fun ds k XA => ∃ b g s v n, ds = [ruleT C b g, .int s, v] ∧ tyT v = some n ∧ (wholeT v 0 1 = false → XA (.arg .bn (.str "lost"))) ∧ ∀ f, v = flagT f → k (optI (brAfter b g s f))
theorem flag_of {v : T} (h : wholeT v 0 1 = true) : ∃ f, v = flagT f := by
  obtain ⟨i, rfl, h0, h1⟩ := wholeT_true h
  rcases (by omega : i = 0 ∨ i = 1) with rfl | rfl
  · exact ⟨false, rfl⟩
  · exact ⟨true, rfl⟩
def c_BurstRule_first_state (C : Addr) : Ct := fun ds k _ => ∃ b g, ds = [ruleT C b g] ∧ k (.int 0)
def brGo (b g : Int) : Int → Nat → List Bool → Option Nat
  | _, _, [] => none
  | s, i, f :: fs => match brAfter b g s f with
    | none => some i
    | some s' => brGo b g s' (i + 1) fs
def optN : Option Nat → T
  | none => .non
  | some i => .int (i : Int)
def c_BurstRule_first_break (C : Addr) : Ct := fun ds k XA => ∃ b g v n, ds = [ruleT C b g, v] ∧ tyT v = some n ∧ itemsTy v ∧ (shapeB v 800 false = false → XA (.arg .bs (.str "pattern"))) ∧ (shapeB v 800 false = true → ∀ es, v = .lst es → (es.all (fun e => wholeT e 0 1) = false → XA (.arg .be (.str "pattern"))) ∧ ∀ fs : List Bool, es = fs.map flagT → k (optN (brGo b g 0 0 fs)))
theorem enumT_at {ds : List T} {i : Nat} {x : T} (h : (enumT ds)[i]? = some x) : ∃ d, ds[i]? = some d ∧ x = .tup [.int (i : Nat), d] := by
  unfold enumT at h
  rw [List.getElem?_mapIdx] at h
  cases e : ds[i]? with
  | none => rw [e] at h; cases h
  | some d => rw [e] at h; cases h; exact ⟨d, rfl, rfl⟩
theorem flags_of : ∀ {es : List T}, es.all (fun e => wholeT e 0 1) = true → ∃ fs : List Bool, es = fs.map flagT
  | [], _ => ⟨[], rfl⟩
  | e :: es, h => by
    rw [List.all_cons, Bool.and_eq_true] at h
    obtain ⟨f, rfl⟩ := flag_of h.1
    obtain ⟨fs, rfl⟩ := flags_of h.2
    exact ⟨f :: fs, rfl⟩
theorem flags_all : ∀ {fs : List Bool}, (fs.map flagT).all (fun e => wholeT e 0 1) = true
  | [] => rfl
  | f :: fs => by
    rw [List.map_cons, List.all_cons, flags_all]
    cases f <;> rfl
theorem flag_ty {f : Bool} : tyT (flagT f) = some "int" := rfl
def c_BurstRule___contains__ (C : Addr) : Ct := fun ds k XA => ∃ b g v n, ds = [ruleT C b g, v] ∧ tyT v = some n ∧ itemsTy v ∧ (shapeB v 800 false = false → XA (.arg .bs (.str "pattern"))) ∧ (shapeB v 800 false = true → ∀ es, v = .lst es → (es.all (fun e => wholeT e 0 1) = false → XA (.arg .be (.str "pattern"))) ∧ ∀ fs : List Bool, es = fs.map flagT → k (.bl (brGo b g 0 0 fs).isNone))
def heardF (fs : List Bool) : Nat := (fs.filter (fun f => !f)).length
theorem flag_inj {f g : Bool} (h : flagT f = flagT g) : f = g := by
  cases f <;> cases g <;> first | rfl | (exfalso; revert h; unfold flagT; simp)
theorem flags_inj : ∀ {fs gs : List Bool}, fs.map flagT = gs.map flagT → fs = gs
  | [], [], _ => rfl
  | [], _ :: _, h => nomatch h
  | _ :: _, [], h => nomatch h
  | f :: fs, g :: gs, h => by
    rw [List.map_cons, List.map_cons, List.cons.injEq] at h
    rw [flag_inj h.1, flags_inj h.2]
theorem tup3_of {v : T} (h : tupB v 3 = true) : ∃ p x y, v = .tup [p, x, y] := by
  cases v with
  | tup es =>
    have h : decide ((es.length : Int) = 3) = true := h
    have h := of_decide_eq_true h
    match es, h with
    | [p, x, y], _ => exact ⟨p, x, y, rfl⟩
    | [], h => simp at h
    | [_], h => simp at h
    | [_, _], h => simp at h
    | _ :: _ :: _ :: _ :: _, h => simp at h; omega
  | _ => cases h
theorem pat_of {v : T} {a b : Int} (h : patB v a b = true) : ∃ fs : List Bool, v = .lst (fs.map flagT) ∧ a ≤ (fs.length : Int) ∧ (fs.length : Int) ≤ b := by
  cases v with
  | lst es =>
    simp only [patB, Bool.and_eq_true, decide_eq_true_eq] at h
    obtain ⟨fs, rfl⟩ := flags_of h.2
    rw [List.length_map] at h
    exact ⟨fs, rfl, h.1.1, h.1.2⟩
  | _ => cases h
theorem ok_items {n : Nat} {v : T} (h : okT n v = true) : itemsTy v := fun es e x hx => by
  subst e
  cases n with
  | zero => simp [okT] at h
  | succ n =>
    simp only [okT] at h
    obtain ⟨i, hi⟩ := List.getElem?_of_mem hx
    exact okT_ty (okTs_at h hi)
theorem count_heard : ∀ fs : List Bool, (fs.map fun f => if f = true then (1 : Int) else 0).count 0 = heardF fs
  | [] => rfl
  | f :: fs => by
    have ih := count_heard fs
    unfold heardF at ih ⊢
    cases f
    · rw [List.map_cons, List.count_cons, ih]
      rfl
    · rw [List.map_cons, List.count_cons, ih]
      rfl
theorem flags_ints (fs : List Bool) : fs.map flagT = (fs.map fun f => if f = true then (1 : Int) else 0).map T.int := by
  rw [List.map_map]
  rfl
theorem int_of {v : T} (h : tyT v = some "int") : ∃ i, v = .int i := by
  cases v with
  | int i => exact ⟨i, rfl⟩
  | bl b => exact absurd (Option.some.inj h) (by decide)
  | str b => exact absurd (Option.some.inj h) (by decide)
  | lst b => exact absurd (Option.some.inj h) (by decide)
  | tup b => exact absurd (Option.some.inj h) (by decide)
  | non => exact absurd (Option.some.inj h) (by decide)
  | ty b => cases h
  | obj _ _ _ => cases h
  | sto => cases h
theorem heard_le : ∀ fs : List Bool, heardF fs ≤ fs.length := fun fs => List.length_filter_le _ fs
/-- the form and the counts of a bar certificate -/
def isCtd (kp : List Bool → Bool) (l w d : Int) (v : T) : Prop := ∃ fs : List Bool, v = .tup [.lst (fs.map flagT), .int (l * max 0 ((fs.length : Int) - d)), .int (w * (heardF fs : Int))] ∧ fs.length ≤ 800 ∧ kp fs = true ∧ w * (heardF fs : Int) < l * max 0 ((fs.length : Int) - d)
def c_is_counted (C : Addr) : Ct := fun ds k XA => ∃ l w b g d v n, ds = [.int l, .int w, ruleT C b g, .int d, v] ∧ 0 ≤ l ∧ l ≤ 8 ∧ 0 ≤ w ∧ w ≤ 8 ∧ 0 ≤ d ∧ d ≤ 8 ∧ okT 20 v = true ∧ tyT v = some n ∧ ∀ r : Bool, (r = true ↔ isCtd (fun fs => (brGo b g 0 0 fs).isNone) l w d v) → k (.bl r)
def isBarB (l w b d : Int) (v : T) : Prop := ∃ fs : List Bool, v = .tup [.lst (fs.map flagT), .int (l * max 0 ((fs.length : Int) - d)), .int (w * (heardF fs : Int))] ∧ fs.length ≤ 800 ∧ (brGo b d 0 0 fs).isNone = true ∧ w * (heardF fs : Int) < l * max 0 ((fs.length : Int) - d)
def c_is_bar_paper (C : Addr) : Ct := fun ds k XA => ∃ l w b d v n, ds = [.int l, .int w, .int b, .int d, v] ∧ SetOk l w b d ∧ okT 20 v = true ∧ tyT v = some n ∧ ∀ r : Bool, (r = true ↔ isBarB l w b d v) → k (.bl r)
-- missing: _law_mixed
-- missing: _law_store
-- missing: _law_take
def c_law_edge : Ct := fun ds k _ => ∃ lo hi : Int, ds = [.sto, .int lo, .int hi] ∧ lo ≤ hi ∧ (hi - lo).natAbs < 2 ^ 190 ∧ ∀ r : Int, lo ≤ r → r ≤ hi → k (.int r)
def c_law_small : Ct := fun ds k _ => ∃ lo us hi : Int, ds = [.sto, .int lo, .int us, .int hi] ∧ lo ≤ us ∧ us ≤ hi ∧ lo > -1000000 ∧ hi < 1000000 ∧ ∀ r : Int, lo ≤ r → r ≤ hi → k (.int r)
-- missing: _law_same
def c_law_copy (n : Nat) : Ct := fun ds k _ => ∃ v, ds = [v] ∧ okT n v = true ∧ k v
def c_law_char : Ct := fun ds k _ => ds = [.sto] ∧ ∀ x : Str, x.length = 1 → k (.str x)
def c_law_text : Ct := fun ds k _ => ∃ m : Int, ds = [.sto, .int m] ∧ 0 ≤ m ∧ m ≤ 1000 ∧ ∀ x : Str, k (.str x)
theorem sum_ones : ∀ {ys : List Str}, (∀ y ∈ ys, y.length = 1) → (ys.map (·.length)).sum = ys.length
  | [], _ => rfl
  | y :: ys, h => by
    rw [List.map_cons, List.sum_cons, sum_ones fun z hz => h z (List.mem_cons_of_mem _ hz), h y List.mem_cons_self, List.length_cons]
    omega
def c_law_plain (n : Nat) : Ct := fun ds k _ => ∃ m : Nat, ds = [.sto, .int m] ∧ m ≤ n ∧ ∀ v, okT n v = true → k v
theorem okTs_snoc {n : Nat} {v : T} : ∀ {acc : List T}, okTs n acc = true → okT n v = true → okTs n (acc ++ [v]) = true
  | [], _, h => by
    simp only [List.nil_append, okTs, Bool.and_eq_true]
    exact ⟨h, trivial⟩
  | a :: as, h, g => by
    simp only [okTs, Bool.and_eq_true] at h
    simp only [List.cons_append, okTs, Bool.and_eq_true]
    exact ⟨h.1, okTs_snoc h.2 g⟩
def c_law_round : Ct := fun ds k _ => ∃ (l h : Int) (n : Nat), ds = [.int l, .int h, .int n] ∧ 0 ≤ l ∧ l ≤ 8 ∧ 0 ≤ h ∧ h ≤ 8 ∧ 1 ≤ l + h ∧ n ≤ 900 ∧ k (.lst ((List.range n).map fun i => flagT (decide (((i : Nat) : Int).fmod (l + h) < l))))
def c_law_setting : Ct := fun ds k _ => ds = [.sto] ∧ ∀ l w b d : Int, SetOk l w b d → k (.tup [.int l, .int w, .int b, .int d])
def c_law_gcd : Ct := fun ds k _ => ∃ a b : Int, ds = [.int a, .int b] ∧ 1 ≤ a ∧ a ≤ 1000 ∧ 0 ≤ b ∧ b ≤ 1000 ∧ ∀ r : Int, 1 ≤ r → r ≤ 1000 → k (.int r)
def c_law_multiple : Ct := fun ds k _ => ∃ l w b d : Int, ds = [.tup [.int l, .int w, .int b, .int d]] ∧ SetOk l w b d ∧ ∀ m : Int, 0 ≤ m → m ≤ 8 → k (.int m)
def c_law_fit : Ct := fun ds k _ => ∃ m : Int, ds = [.sto, .int m] ∧ 1 ≤ m ∧ m ≤ 6 ∧ ∀ l w b d : Int, SetOk l w b d → fitB l w b d = true → k (.tup [.int l, .int w, .int b, .int d])
theorem fit_of {l w b d : Int} (hb : b ≤ d) (h : l * b ≤ (w - l) * d) : fitB l w b d = true := by
  unfold fitB
  rw [Int.sub_mul] at h
  rw [Bool.or_eq_true, Bool.and_eq_true]
  exact Or.inr ⟨decide_eq_true hb, decide_eq_true (by rw [Int.mul_add]; omega)⟩
theorem ceil_le {l b d c : Int} (d0 : 1 ≤ d) (h : -((-l * b) / d) ≤ c) : l * b ≤ c * d := by
  have e := Int.emod_add_mul_ediv (-l * b) d
  have r0 := Int.emod_nonneg (-l * b) (show d ≠ 0 by omega)
  have m := Int.mul_le_mul_of_nonneg_right h (show (0 : Int) ≤ d by omega)
  rw [Int.neg_mul, Int.mul_comm ((-l * b) / d) d] at m
  have n : -l * b = -(l * b) := Int.neg_mul _ _
  omega
theorem fit_one {b d : Int} (b0 : 0 ≤ b) (d0 : 1 ≤ d) (hb : b ≤ d) : fitB 1 (max 1 (1 + b)) b d = true := by
  refine fit_of hb ?_
  rw [show max 1 (1 + b) - 1 = b by omega, Int.one_mul]
  have := Int.mul_le_mul_of_nonneg_left (a := 1) (b := d) (c := b) d0 b0
  omega
def c_law_unfit : Ct := fun ds k _ => ds = [.sto] ∧ ∀ l w b d : Int, SetOk l w b d → 1 ≤ l → 1 ≤ b → fitB l w b d = false → k (.tup [.int l, .int w, .int b, .int d])
theorem unfit_of {l w b d : Int} (l1 : 1 ≤ l) (h : b ≤ d → w * d < l * (d + b)) : fitB l w b d = false := by
  unfold fitB
  rw [decide_eq_false (by omega), Bool.false_or]
  by_cases z : b ≤ d
  · have := h z
    rw [decide_eq_false (show ¬ l * (d + b) ≤ w * d by omega), Bool.and_false]
  · rw [decide_eq_false z, Bool.false_and]
def c_law_losses : Ct := fun ds k _ => ∃ (b g : Int) (n : Nat), ds = [.sto, .int b, .int g, .int n] ∧ n ≤ 900 ∧ ∀ fs : List Bool, fs.length = n → k (.lst (fs.map flagT))
def c_law_makeable : Ct := fun ds k _ => ds = [.sto] ∧ ∀ l w b d : Int, SetOk l w b d → fitB l w b d = true → k (.tup [.int l, .int w, .int b, .int d])
def c_law_counted : Ct := fun ds k _ => ∃ (l w b d : Int) (fs : List Bool), ds = [.tup [.int l, .int w, .int b, .int d], .lst (fs.map flagT)] ∧ SetOk l w b d ∧ fs.length ≤ 1000 ∧ k (.tup [.lst (fs.map flagT), .int (l * max 0 ((fs.length : Int) - d)), .int (w * (heardF fs : Int))])
theorem heard_filter : ∀ {fs : List Bool}, ((fs.map flagT).filterMap (fun t => if scEq t (.int 0) = some true then some t else none)).length = heardF fs
  | [] => rfl
  | f :: fs => by
    have ih := heard_filter (fs := fs)
    unfold heardF at ih ⊢
    cases f
    · rw [List.map_cons, List.filterMap_cons_some (b := flagT false) (by rfl), List.length_cons, ih]
      rfl
    · rw [List.map_cons, List.filterMap_cons_none (by rfl), ih]
      rfl
def c_law_papers : Ct := fun ds k _ => ∃ l w b d : Int, ds = [.sto, .tup [.int l, .int w, .int b, .int d]] ∧ SetOk l w b d ∧ ∀ vs : List T, (∀ v ∈ vs, okT 7 v = true) → vs.length ≤ 100 → k (.lst vs)
theorem okTs_flags {n : Nat} : ∀ {fs : List Bool}, okTs n (fs.map flagT) = true
  | [] => by simp [okTs]
  | f :: fs => by
    rw [List.map_cons]
    simp only [okTs, Bool.and_eq_true]
    exact ⟨by simp [flagT, okT], okTs_flags⟩
def c_law_is_bar (C : Addr) : Ct := fun ds k XA => ∃ (l w b d : Int) (v : T) (due : Bool), ds = [.tup [.int l, .int w, .int b, .int d], v, .bl due] ∧ SetOk l w b d ∧ okT 7 v = true ∧ (due = true ↔ isBarB l w b d v) ∧ k (.bl true)
/-- what a state can still bring: letters of lost beats, less the spare signs of the heard beats that the gap wants -/
def brU (l w b d s : Int) : Int := if s ≤ b then l * b - l * s else max 0 (l * b - ((w - l) * d - (w - l) * (s - b)))
theorem br_gain {l w b d : Int} (l0 : 0 ≤ l) (lw : l ≤ w) (b0 : 0 ≤ b) (d0 : 1 ≤ d) (fit : l * b ≤ (w - l) * d) : ∀ (fs : List Bool) (s : Int) (i : Nat), 0 ≤ s → s < b + d → brGo b d s i fs = none → l * (fs.length : Int) - w * (heardF fs : Int) ≤ brU l w b d s
  | [], s, i, s0, s1, _ => by
    have h1 : s ≤ b → l * s ≤ l * b := fun h => Int.mul_le_mul_of_nonneg_left h l0
    unfold brU heardF
    simp only [List.length_nil, List.filter_nil]
    rw [show ((0 : Nat) : Int) = 0 from rfl, Int.mul_zero, Int.mul_zero]
    by_cases z : s ≤ b
    · rw [if_pos z]
      have := h1 z
      omega
    · rw [if_neg z]
      omega
  | f :: fs, s, i, s0, s1, h => by
    have hl : l * ((f :: fs).length : Int) = l * (fs.length : Int) + l := by
      rw [List.length_cons, show ((fs.length + 1 : Nat) : Int) = (fs.length : Int) + 1 by omega, Int.mul_add, Int.mul_one]
    have e0 : (0 : Int) ≤ w - l := by omega
    have hgo : brGo b d s i (f :: fs) = match brAfter b d s f with
      | none => some i
      | some s' => brGo b d s' (i + 1) fs := rfl
    rw [hgo] at h
    have ih := br_gain l0 lw b0 d0 fit fs
    cases f with
    | true =>
      have hh : heardF (true :: fs) = heardF fs := rfl
      rw [hl, hh]
      by_cases z : s < b
      · have ea : brAfter b d s true = some (s + 1) := by
          unfold brAfter
          rw [if_pos rfl, if_pos z]
        rw [ea] at h
        have g := ih (s + 1) (i + 1) (by omega) (by omega) h
        unfold brU at g ⊢
        rw [if_pos (by omega)] at g ⊢
        rw [Int.mul_add, Int.mul_one] at g
        omega
      · have ea : brAfter b d s true = none := by
          unfold brAfter
          rw [if_pos rfl, if_neg z]
        rw [ea] at h
        cases h
    | false =>
      have hh : w * (heardF (false :: fs) : Int) = w * (heardF fs : Int) + w := by
        have : heardF (false :: fs) = heardF fs + 1 := rfl
        rw [this, show ((heardF fs + 1 : Nat) : Int) = (heardF fs : Int) + 1 by omega, Int.mul_add, Int.mul_one]
      rw [hl, hh]
      by_cases z : s = 0
      · subst z
        have ea : brAfter b d 0 false = some 0 := by
          unfold brAfter
          rw [if_neg (by decide), if_pos rfl]
        rw [ea] at h
        have g := ih 0 (i + 1) (by omega) (by omega) h
        omega
      · by_cases y : max (s - b) 0 + 1 < d
        · have ea : brAfter b d s false = some (b + (max (s - b) 0 + 1)) := by
            unfold brAfter
            rw [if_neg (by decide), if_neg z, if_pos y]
          rw [ea] at h
          have g := ih _ (i + 1) (by omega) (by omega) h
          unfold brU at g ⊢
          rw [if_neg (by omega)] at g
          by_cases x : s ≤ b
          · rw [if_pos x]
            have h1 : l * s ≤ l * b := Int.mul_le_mul_of_nonneg_left x l0
            rw [show b + (max (s - b) 0 + 1) - b = 1 by omega, Int.mul_one] at g
            omega
          · rw [if_neg x]
            rw [show b + (max (s - b) 0 + 1) - b = (s - b) + 1 by omega, Int.mul_add, Int.mul_one] at g
            omega
        · have ea : brAfter b d s false = some 0 := by
            unfold brAfter
            rw [if_neg (by decide), if_neg z, if_neg y]
          rw [ea] at h
          have g := ih 0 (i + 1) (by omega) (by omega) h
          unfold brU at g ⊢
          rw [if_pos (by omega), Int.mul_zero] at g
          by_cases x : s ≤ b
          · rw [if_pos x]
            have h1 : l * s ≤ l * b := Int.mul_le_mul_of_nonneg_left x l0
            have hd : d = 1 := by omega
            subst hd
            rw [Int.mul_one] at fit
            omega
          · rw [if_neg x]
            have hd : d = (s - b) + 1 := by omega
            have he : (w - l) * d = (w - l) * (s - b) + (w - l) := by rw [hd, Int.mul_add, Int.mul_one]
            omega
theorem bar_none {l w b d : Int} (ok : SetOk l w b d) (ft : fitB l w b d = true) (v : T) : ¬ isBarB l w b d v := by
  rintro ⟨fs, _, _, hb, hlt⟩
  have l0 := ok.l0
  have w0 := ok.w0
  have b0 := ok.b0
  have d0 := ok.d0
  unfold fitB at ft
  rw [Bool.or_eq_true, Bool.and_eq_true, decide_eq_true_eq, decide_eq_true_eq, decide_eq_true_eq] at ft
  have hw : 0 ≤ w * (heardF fs : Int) := Int.mul_nonneg (by omega) (by omega)
  rcases ft with z | ⟨z1, z2⟩
  · subst z
    rw [Int.zero_mul] at hlt
    omega
  · have hn : brGo b d 0 0 fs = none := Option.isNone_iff_eq_none.mp hb
    have e1 : l * (d + b) = l * d + l * b := Int.mul_add _ _ _
    have e2 : (w - l) * d = w * d - l * d := Int.sub_mul _ _ _
    have g := br_gain (l := l) (w := w) (b := b) (d := d) l0 (by omega) b0 d0 (by omega) fs 0 0 (by omega) (by omega) hn
    unfold brU at g
    rw [if_pos (by omega), Int.mul_zero] at g
    have h2 : l * b ≤ l * d := Int.mul_le_mul_of_nonneg_left z1 l0
    by_cases y : (fs.length : Int) ≤ d
    · rw [show max 0 ((fs.length : Int) - d) = 0 by omega, Int.mul_zero] at hlt
      omega
    · rw [show max 0 ((fs.length : Int) - d) = (fs.length : Int) - d by omega, Int.mul_sub] at hlt
      omega
def c_law_refuses_all (C : Addr) : Ct := fun ds k XA => ∃ (l w b d : Int) (vs : List T), ds = [.tup [.int l, .int w, .int b, .int d], .lst vs] ∧ SetOk l w b d ∧ fitB l w b d = true ∧ (∀ v ∈ vs, okT 7 v = true) ∧ k (.bl true)
def rndF (b d : Int) (n : Nat) : List Bool := (List.range n).map fun i => decide (((i : Nat) : Int).fmod (b + d) < b)
theorem br_step {b d : Int} {i : Nat} (b1 : 1 ≤ b) (d1 : 1 ≤ d) : brAfter b d ((i : Int) % (b + d)) (decide ((i : Int).fmod (b + d) < b)) = some (((i + 1 : Nat) : Int) % (b + d)) := by
  have st := step_div (c := b + d) (i := (i : Int)) (by omega) (by omega)
  have r0 := Int.emod_nonneg (i : Int) (show b + d ≠ 0 by omega)
  have r1 := Int.emod_lt_of_pos (i : Int) (show 0 < b + d by omega)
  rw [Int.fmod_eq_emod_of_nonneg _ (by omega), show ((i + 1 : Nat) : Int) = (i : Int) + 1 by omega]
  generalize hr : (i : Int) % (b + d) = r at *
  unfold brAfter
  by_cases z : r < b
  · rw [decide_eq_true z, if_pos rfl, if_pos z, (st.2 (by omega)).1]
  · rw [decide_eq_false z, if_neg (by decide), if_neg (by omega)]
    by_cases y : r + 1 = b + d
    · rw [if_neg (by omega), (st.1 y).1]
    · rw [if_pos (by omega), (st.2 y).1]
      congr 1
      omega
theorem br_round {b d : Int} (b1 : 1 ≤ b) (d1 : 1 ≤ d) : ∀ m i : Nat, brGo b d ((i : Int) % (b + d)) i ((List.range' i m).map fun j => decide (((j : Nat) : Int).fmod (b + d) < b)) = none
  | 0, i => rfl
  | m + 1, i => by
    rw [List.range'_succ, List.map_cons]
    have hgo : ∀ f fs, brGo b d ((i : Int) % (b + d)) i (f :: fs) = match brAfter b d ((i : Int) % (b + d)) f with
      | none => some i
      | some s' => brGo b d s' (i + 1) fs := fun f fs => rfl
    rw [hgo, br_step b1 d1]
    exact br_round b1 d1 m (i + 1)
theorem heard_round {b d : Int} (b1 : 1 ≤ b) (d1 : 1 ≤ d) : ∀ n : Nat, (heardF (rndF b d n) : Int) = (n : Int) / (b + d) * d + max 0 ((n : Int) % (b + d) - b)
  | 0 => by
    rw [show ((0 : Nat) : Int) = 0 from rfl, Int.zero_ediv, Int.zero_emod]
    show ((0 : Nat) : Int) = _
    omega
  | n + 1 => by
    have ih := heard_round b1 d1 n
    have st := step_div (c := b + d) (i := (n : Int)) (by omega) (by omega)
    have r0 := Int.emod_nonneg (n : Int) (show b + d ≠ 0 by omega)
    have r1 := Int.emod_lt_of_pos (n : Int) (show 0 < b + d by omega)
    have e : rndF b d (n + 1) = rndF b d n ++ [decide ((n : Int) % (b + d) < b)] := by
      unfold rndF
      rw [List.range_succ, List.map_append, List.map_cons, List.map_nil, Int.fmod_eq_emod_of_nonneg _ (by omega)]
    have h2 : ∀ f, heardF (rndF b d n ++ [f]) = heardF (rndF b d n) + (if f = true then 0 else 1) := fun f => by
      unfold heardF
      rw [List.filter_append, List.length_append]
      cases f <;> rfl
    rw [e, h2, show ((n + 1 : Nat) : Int) = (n : Int) + 1 by omega]
    generalize (n : Int) % (b + d) = r at *
    generalize (n : Int) / (b + d) = q at *
    by_cases y : r + 1 = b + d
    · rw [(st.1 y).1, (st.1 y).2, decide_eq_false (by omega), if_neg (by decide), Int.add_mul, Int.one_mul]
      omega
    · rw [(st.2 y).1, (st.2 y).2]
      by_cases z : r < b
      · rw [decide_eq_true z, if_pos rfl]
        omega
      · rw [decide_eq_false z, if_neg (by decide)]
        omega
theorem rnd_len {b d : Int} {n : Nat} : (rndF b d n).length = n := by
  unfold rndF
  rw [List.length_map, List.length_range]
theorem rnd_flags {b d : Int} {n : Nat} : (List.range n).map (fun i => flagT (decide (((i : Nat) : Int).fmod (b + d) < b))) = (rndF b d n).map flagT := by
  unfold rndF
  rw [List.map_map]
  rfl
theorem long_gap {l w c d q : Int} (l0 : 0 ≤ l) (d0 : 0 ≤ d) (h : w * d + 1 ≤ l * c) (hq : l * d + 1 ≤ q) : w * (q * d) < l * (q * c - d) := by
  have p : 0 ≤ l * d := Int.mul_nonneg l0 d0
  have m := Int.mul_le_mul_of_nonneg_left h (show (0 : Int) ≤ q by omega)
  rw [Int.mul_add, Int.mul_one] at m
  rw [Int.mul_sub, Int.mul_left_comm w q d, Int.mul_left_comm l q c]
  omega
theorem rnd_bar {l w b d : Int} {n : Nat} (b1 : 1 ≤ b) (d1 : 1 ≤ d) (hn : n ≤ 800) (h : w * (heardF (rndF b d n) : Int) < l * max 0 ((n : Int) - d)) : isBarB l w b d (.tup [.lst ((rndF b d n).map flagT), .int (l * max 0 (((rndF b d n).length : Int) - d)), .int (w * (heardF (rndF b d n) : Int))]) := by
  refine ⟨rndF b d n, rfl, by rw [rnd_len]; exact hn, ?_, by rw [rnd_len]; exact h⟩
  have r := br_round b1 d1 n 0
  rw [show ((0 : Nat) : Int) = 0 from rfl, Int.zero_emod, ← List.range_eq_range'] at r
  unfold rndF
  rw [r]
  rfl
/-- a paper that says other numbers is none -/
theorem off_bar {l w b d x y : Int} {fs : List Bool} (h : ¬ (x = l * max 0 ((fs.length : Int) - d) ∧ y = w * (heardF fs : Int))) : ¬ isBarB l w b d (.tup [.lst (fs.map flagT), .int x, .int y]) := by
  rintro ⟨fs2, e, _⟩
  injection e with e
  injection e with e e2
  injection e2 with e2 e3
  injection e3 with e3 _
  injection e with e
  have ef := flags_inj e
  subst ef
  injection e2 with e2
  injection e3 with e3
  exact h ⟨e2, e3⟩
def c_law_takes_long (C : Addr) : Ct := fun ds k XA => ∃ l w b d : Int, ds = [.sto, .tup [.int l, .int w, .int b, .int d]] ∧ SetOk l w b d ∧ 1 ≤ l ∧ 1 ≤ b ∧ fitB l w b d = false ∧ k (.bl true)
end Mt
namespace Mt
open PySem PySem.Spec PyProof.Rows L2 L2H
section
variable {P : Program} {w : World} {K : PySem.W.Frag} {mg : Str → Option Value} {base : Heap} {f : Addr} {fd : FuncData} {A : Ad} {tk : Nat → Tok} {aBurstRule : Addr}
theorem ok_is_whole (F : Fun K "is_whole" "is_whole" s_is_whole f fd) (Tx : Txt K mg A tk aBurstRule)  :
    FnOk P w K mg base CX0 1 f fd ["value", "low", "high"] (SpU A 3 c_is_whole) := by
  refine F.ok sc_is_whole (fun vs H Q E h => h.len) (fun cdv Ar outer s H vs Q E hr h => ?_)
  obtain ⟨st, P0, ds, k, XA, h1, h2, h3, hc, h5, h6⟩ := h
  refine ⟨_, (pss_one (ps_ret (pe_and (pe_cmpR op_isTyH (pe_typeOf (by rfl) Tx.m_type (pv 0)) (pe_bltn (v := .ty "int") (u := .type "int") (by rfl) Tx.m_int (by decide +kernel) rel_ty) (nomark _)) (pe_one (pe_chain op_le op_le (pv 1) (pv 0) (pv 2)))))), ?_⟩
  refine run0 (A := A) (ms := ?ms) (XA := XA) h1 h2 h5 ?r ?u
  case r => exact (rs_ret (re_andV (re_op ro_isTy (re_cb rcb_type (ra_cons re_var ra_nil)) re_ty) (re_chain ro_bool ro_bool re_var re_var re_var)))
  case u =>
    clear h1 h2 h5 h6 hr
    obtain ⟨v, lo, hi, n, rfl, hv, hk⟩ := hc
    (try simp only [mVar, mC, mOp, mUn, mNil, mCons, mTup, mLst, mCall, mCallX, mCallKX, mCB, mTest, mAnd, mOr, mNot, mYes, mAndV, mOrV, mNotV, mIf, mIsN, mNotN, mChain, mSeq, mNext, mBrk, mCnt, mRet, mRetN, mIfS, mDrop, mAsg, mOwn, mLstO, mListC, mLcO, oCatO, mShr, mApp, mPutI, mFrz, frz_w, mFor, mPar, mAug, mRaise, mTry, tryM, mKind, mLc, mList, mTupl, mListOwn, mRng1, mRng2, mEnum, mZip, mRev, mgName, mLenV, mIxV, mNoPart, mPart, mSl, wipeE, lcTurn, startE, oI_w, oB_w, oIC_w, oU_w, isB_w, oEq_w, oNe_w, exS_w, oIx_w, items_l, items_t, oLen_w, oAbs_w, oInt_i, oInt_b, oGcd_w, oMax_w, oMax3_w, oMin_w, oDivmod_w, oStr_w, oType_w, oIs1_w, oIs2_w, oIsTy_w, oCat_w, oIsN_w, oNotN_w, exD_w, exO_w, exD2_w, exO2_w, exL_w, exT_w, exI_w, ex1_w, ex1i_w, mSeqV_w, exX_w, seqOf_o, seqOf_d, mgCons_w, mgNil_w, mgTup_w, exPar_w, listC_w, putI_w, ixV_w, rng1_w, rng2_w, lcGo_n, lcGo_c, forGo_n, forGo_c, scEq_i, scEq_b, scEq_s, scEq_n, tyT, isNon, k_ii, k_ib, k_is, k_il, k_it, k_bi, k_bb, k_bs, k_bl, k_bt, k_ni, k_nb, k_ns, k_nl, k_nt, k_si, k_sb, k_ss, k_sl, k_st, k_li, k_lb, k_ls, k_ll, k_lt, k_ti, k_tb, k_ts, k_tl, k_tt, List.map_cons, List.map_nil, List.length_cons, List.length_nil, List.replicate, List.cons_append, List.nil_append, List.append_nil, List.getElem?_cons_zero, List.getElem?_cons_succ, List.set_cons_zero, List.set_cons_succ, Nat.sub_self, Nat.reduceAdd, Nat.reduceSub, List.replicate_zero, decide_eq_true_eq, Bool.true_eq_false, Bool.false_eq_true, if_true, if_false, reduceIte, Bool.not_eq_true', decide_eq_false_iff_not, Bool.not_true, Bool.not_false, exists_eq_left', true_and, and_true, Option.some.injEq, reduceCtorEq, decide_true, decide_false, not_true_eq_false, not_false_eq_true, Nat.reduceLT, Bool.or_false, Bool.or_true, Bool.false_or, Bool.true_or, Bool.and_true, Bool.true_and, Bool.and_false, Bool.false_and, true_implies, mFld, mFldS, mFldO, mProp, mMeth, mMethX, mInW, mCallXD, exOb_w, exOb2_w, exObD_w, exObD2_w, exObj_w, exObj0_w, exObjC_w, oIsNTy_w, mLcnt, eqD_ii, mJoin, oTupOf_w, oIsBl_w, cCalm, hv])
    cases v with
    | int i =>
      cases hv
      (try (try simp only [mVar, mC, mOp, mUn, mNil, mCons, mTup, mLst, mCall, mCallX, mCallKX, mCB, mTest, mAnd, mOr, mNot, mYes, mAndV, mOrV, mNotV, mIf, mIsN, mNotN, mChain, mSeq, mNext, mBrk, mCnt, mRet, mRetN, mIfS, mDrop, mAsg, mOwn, mLstO, mListC, mLcO, oCatO, mShr, mApp, mPutI, mFrz, frz_w, mFor, mPar, mAug, mRaise, mTry, tryM, mKind, mLc, mList, mTupl, mListOwn, mRng1, mRng2, mEnum, mZip, mRev, mgName, mLenV, mIxV, mNoPart, mPart, mSl, wipeE, lcTurn, startE, oI_w, oB_w, oIC_w, oU_w, isB_w, oEq_w, oNe_w, exS_w, oIx_w, items_l, items_t, oLen_w, oAbs_w, oInt_i, oInt_b, oGcd_w, oMax_w, oMax3_w, oMin_w, oDivmod_w, oStr_w, oType_w, oIs1_w, oIs2_w, oIsTy_w, oCat_w, oIsN_w, oNotN_w, exD_w, exO_w, exD2_w, exO2_w, exL_w, exT_w, exI_w, ex1_w, ex1i_w, mSeqV_w, exX_w, seqOf_o, seqOf_d, mgCons_w, mgNil_w, mgTup_w, exPar_w, listC_w, putI_w, ixV_w, rng1_w, rng2_w, lcGo_n, lcGo_c, forGo_n, forGo_c, scEq_i, scEq_b, scEq_s, scEq_n, tyT, isNon, k_ii, k_ib, k_is, k_il, k_it, k_bi, k_bb, k_bs, k_bl, k_bt, k_ni, k_nb, k_ns, k_nl, k_nt, k_si, k_sb, k_ss, k_sl, k_st, k_li, k_lb, k_ls, k_ll, k_lt, k_ti, k_tb, k_ts, k_tl, k_tt, List.map_cons, List.map_nil, List.length_cons, List.length_nil, List.replicate, List.cons_append, List.nil_append, List.append_nil, List.getElem?_cons_zero, List.getElem?_cons_succ, List.set_cons_zero, List.set_cons_succ, Nat.sub_self, Nat.reduceAdd, Nat.reduceSub, List.replicate_zero, decide_eq_true_eq, Bool.true_eq_false, Bool.false_eq_true, if_true, if_false, reduceIte, Bool.not_eq_true', decide_eq_false_iff_not, Bool.not_true, Bool.not_false, exists_eq_left', true_and, and_true, Option.some.injEq, reduceCtorEq, decide_true, decide_false, not_true_eq_false, not_false_eq_true, Nat.reduceLT, Bool.or_false, Bool.or_true, Bool.false_or, Bool.true_or, Bool.and_true, Bool.true_and, Bool.and_false, Bool.false_and, true_implies, mFld, mFldS, mFldO, mProp, mMeth, mMethX, mInW, mCallXD, exOb_w, exOb2_w, exObD_w, exObD2_w, exObj_w, exObj0_w, exObjC_w, oIsNTy_w, mLcnt, eqD_ii, mJoin, oTupOf_w, oIsBl_w, cCalm]))
      simp only [wholeT] at hk
      refine ite2 (fun h => ?_) (fun h => ?_)
      · rw [decide_eq_true h, Bool.true_and] at hk
        exact hk
      · rw [decide_eq_false h, Bool.false_and] at hk
        exact hk
    | ty _ => cases hv
    | obj _ _ _ => cases hv
    | sto => cases hv
    | _ =>
      cases hv
      (try (try simp only [mVar, mC, mOp, mUn, mNil, mCons, mTup, mLst, mCall, mCallX, mCallKX, mCB, mTest, mAnd, mOr, mNot, mYes, mAndV, mOrV, mNotV, mIf, mIsN, mNotN, mChain, mSeq, mNext, mBrk, mCnt, mRet, mRetN, mIfS, mDrop, mAsg, mOwn, mLstO, mListC, mLcO, oCatO, mShr, mApp, mPutI, mFrz, frz_w, mFor, mPar, mAug, mRaise, mTry, tryM, mKind, mLc, mList, mTupl, mListOwn, mRng1, mRng2, mEnum, mZip, mRev, mgName, mLenV, mIxV, mNoPart, mPart, mSl, wipeE, lcTurn, startE, oI_w, oB_w, oIC_w, oU_w, isB_w, oEq_w, oNe_w, exS_w, oIx_w, items_l, items_t, oLen_w, oAbs_w, oInt_i, oInt_b, oGcd_w, oMax_w, oMax3_w, oMin_w, oDivmod_w, oStr_w, oType_w, oIs1_w, oIs2_w, oIsTy_w, oCat_w, oIsN_w, oNotN_w, exD_w, exO_w, exD2_w, exO2_w, exL_w, exT_w, exI_w, ex1_w, ex1i_w, mSeqV_w, exX_w, seqOf_o, seqOf_d, mgCons_w, mgNil_w, mgTup_w, exPar_w, listC_w, putI_w, ixV_w, rng1_w, rng2_w, lcGo_n, lcGo_c, forGo_n, forGo_c, scEq_i, scEq_b, scEq_s, scEq_n, tyT, isNon, k_ii, k_ib, k_is, k_il, k_it, k_bi, k_bb, k_bs, k_bl, k_bt, k_ni, k_nb, k_ns, k_nl, k_nt, k_si, k_sb, k_ss, k_sl, k_st, k_li, k_lb, k_ls, k_ll, k_lt, k_ti, k_tb, k_ts, k_tl, k_tt, List.map_cons, List.map_nil, List.length_cons, List.length_nil, List.replicate, List.cons_append, List.nil_append, List.append_nil, List.getElem?_cons_zero, List.getElem?_cons_succ, List.set_cons_zero, List.set_cons_succ, Nat.sub_self, Nat.reduceAdd, Nat.reduceSub, List.replicate_zero, decide_eq_true_eq, Bool.true_eq_false, Bool.false_eq_true, if_true, if_false, reduceIte, Bool.not_eq_true', decide_eq_false_iff_not, Bool.not_true, Bool.not_false, exists_eq_left', true_and, and_true, Option.some.injEq, reduceCtorEq, decide_true, decide_false, not_true_eq_false, not_false_eq_true, Nat.reduceLT, Bool.or_false, Bool.or_true, Bool.false_or, Bool.true_or, Bool.and_true, Bool.true_and, Bool.and_false, Bool.false_and, true_implies, mFld, mFldS, mFldO, mProp, mMeth, mMethX, mInW, mCallXD, exOb_w, exOb2_w, exObD_w, exObD2_w, exObj_w, exObj0_w, exObjC_w, oIsNTy_w, mLcnt, eqD_ii, mJoin, oTupOf_w, oIsBl_w, cCalm]))
      exact hk
end
end Mt
namespace Mt
open PySem PySem.Spec PyProof.Rows L2 L2H
section
variable {P : Program} {w : World} {K : PySem.W.Frag} {mg : Str → Option Value} {base : Heap} {f : Addr} {fd : FuncData} {A : Ad} {tk : Nat → Tok} {aBurstRule : Addr}
theorem ok_is_row (F : Fun K "is_row" "is_row" s_is_row f fd) (Tx : Txt K mg A tk aBurstRule) (C_is_whole : Cal P w K mg base "is_whole" 1 ["value", "low", "high"] (SpU A 3 c_is_whole)) :
    FnOk P w K mg base CX0 2 f fd ["value", "size", "length"] (SpU A 3 c_is_row) := by
  refine F.ok sc_is_row (fun vs H Q E h => h.len) (fun cdv Ar outer s H vs Q E hr h => ?_)
  obtain ⟨st, P0, ds, k, XA, h1, h2, h3, hc, h5, h6⟩ := h
  refine ⟨_, (pss_cons (ps_if (PW.pt (pw_or (pt_cmpR op_isNTyH (pe_typeOf (by rfl) Tx.m_type (pv 0)) (pe_bltn (v := .ty "list") (u := .type "list") (by rfl) Tx.m_list (by decide +kernel) rel_ty) (nomark _)) (pw_or1 (pt_cmpR op_ne (pe_callB call_lenH (by rfl) Tx.m_len (by decide +kernel) (pa_cons (pv 0) pa_nil)) (pv 2) (nomark _))))) (pss_one (ps_ret pe_bl)) pss_nil)
      (pss_one (ps_ret (pe_callB (cr_all rfl) (by rfl) Tx.m_all (by decide +kernel) (pa_cons (pe_lc (own := [("entry", 3)]) (g := gName 3) rfl sc_is_row.nd (pi_list (pv 0)) (blkOk_by (N := ["value", "size", "length", "entry"]) (sc := defScope s_is_row) (by decide +kernel)) (fun _ _ _ _ _ => pg_name (i := 3) sc_is_row.nd rfl (.inl rfl)) (fun _ _ _ _ _ => pts_nil) (fun _ _ _ _ _ => (p_call C_is_whole hr (pa_cons (pv 3) (pa_cons pe_int (pa_cons (pe_op op_sub (pv 1) pe_int) pa_nil))) (by omega)))) pa_nil))))), ?_⟩
  refine run0 (A := A) (ms := ?ms) (XA := XA) h1 h2 h5 ?r ?u
  case r => exact (rs_seq (rs_if (rt_or (rt_test (re_op ro_isNTy (re_cb rcb_type (ra_cons re_var ra_nil)) re_ty)) (rt_test (re_op ro_ne (re_cb rcb_len (ra_cons re_var ra_nil)) re_var))) (rs_ret re_bl) rs_next)
      (rs_ret (re_cb rcb_all (ra_cons (re_lc (vs := [3]) (is := [3]) ric_var rg_name rt_yes (re_call (ra_cons re_var (ra_cons re_int (ra_cons (re_op ro_int re_var re_int) ra_nil))))) ra_nil))))
  case u =>
    clear h1 h2 h5 h6 hr
    obtain ⟨v, n, s, l, rfl, hv, ht, hk⟩ := hc
    (try simp only [mVar, mC, mOp, mUn, mNil, mCons, mTup, mLst, mCall, mCallX, mCallKX, mCB, mTest, mAnd, mOr, mNot, mYes, mAndV, mOrV, mNotV, mIf, mIsN, mNotN, mChain, mSeq, mNext, mBrk, mCnt, mRet, mRetN, mIfS, mDrop, mAsg, mOwn, mLstO, mListC, mLcO, oCatO, mShr, mApp, mPutI, mFrz, frz_w, mFor, mPar, mAug, mRaise, mTry, tryM, mKind, mLc, mList, mTupl, mListOwn, mRng1, mRng2, mEnum, mZip, mRev, mgName, mLenV, mIxV, mNoPart, mPart, mSl, wipeE, lcTurn, startE, oI_w, oB_w, oIC_w, oU_w, isB_w, oEq_w, oNe_w, exS_w, oIx_w, items_l, items_t, oLen_w, oAbs_w, oInt_i, oInt_b, oGcd_w, oMax_w, oMax3_w, oMin_w, oDivmod_w, oStr_w, oType_w, oIs1_w, oIs2_w, oIsTy_w, oCat_w, oIsN_w, oNotN_w, exD_w, exO_w, exD2_w, exO2_w, exL_w, exT_w, exI_w, ex1_w, ex1i_w, mSeqV_w, exX_w, seqOf_o, seqOf_d, mgCons_w, mgNil_w, mgTup_w, exPar_w, listC_w, putI_w, ixV_w, rng1_w, rng2_w, lcGo_n, lcGo_c, forGo_n, forGo_c, scEq_i, scEq_b, scEq_s, scEq_n, tyT, isNon, k_ii, k_ib, k_is, k_il, k_it, k_bi, k_bb, k_bs, k_bl, k_bt, k_ni, k_nb, k_ns, k_nl, k_nt, k_si, k_sb, k_ss, k_sl, k_st, k_li, k_lb, k_ls, k_ll, k_lt, k_ti, k_tb, k_ts, k_tl, k_tt, List.map_cons, List.map_nil, List.length_cons, List.length_nil, List.replicate, List.cons_append, List.nil_append, List.append_nil, List.getElem?_cons_zero, List.getElem?_cons_succ, List.set_cons_zero, List.set_cons_succ, Nat.sub_self, Nat.reduceAdd, Nat.reduceSub, List.replicate_zero, decide_eq_true_eq, Bool.true_eq_false, Bool.false_eq_true, if_true, if_false, reduceIte, Bool.not_eq_true', decide_eq_false_iff_not, Bool.not_true, Bool.not_false, exists_eq_left', true_and, and_true, Option.some.injEq, reduceCtorEq, decide_true, decide_false, not_true_eq_false, not_false_eq_true, Nat.reduceLT, Bool.or_false, Bool.or_true, Bool.false_or, Bool.true_or, Bool.and_true, Bool.true_and, Bool.and_false, Bool.false_and, true_implies, mFld, mFldS, mFldO, mProp, mMeth, mMethX, mInW, mCallXD, exOb_w, exOb2_w, exObD_w, exObD2_w, exObj_w, exObj0_w, exObjC_w, oIsNTy_w, mLcnt, eqD_ii, mJoin, oTupOf_w, oIsBl_w, cCalm, hv])
    cases v with
    | lst es =>
      cases hv
      simp only [rowB] at hk
      (try (try simp only [mVar, mC, mOp, mUn, mNil, mCons, mTup, mLst, mCall, mCallX, mCallKX, mCB, mTest, mAnd, mOr, mNot, mYes, mAndV, mOrV, mNotV, mIf, mIsN, mNotN, mChain, mSeq, mNext, mBrk, mCnt, mRet, mRetN, mIfS, mDrop, mAsg, mOwn, mLstO, mListC, mLcO, oCatO, mShr, mApp, mPutI, mFrz, frz_w, mFor, mPar, mAug, mRaise, mTry, tryM, mKind, mLc, mList, mTupl, mListOwn, mRng1, mRng2, mEnum, mZip, mRev, mgName, mLenV, mIxV, mNoPart, mPart, mSl, wipeE, lcTurn, startE, oI_w, oB_w, oIC_w, oU_w, isB_w, oEq_w, oNe_w, exS_w, oIx_w, items_l, items_t, oLen_w, oAbs_w, oInt_i, oInt_b, oGcd_w, oMax_w, oMax3_w, oMin_w, oDivmod_w, oStr_w, oType_w, oIs1_w, oIs2_w, oIsTy_w, oCat_w, oIsN_w, oNotN_w, exD_w, exO_w, exD2_w, exO2_w, exL_w, exT_w, exI_w, ex1_w, ex1i_w, mSeqV_w, exX_w, seqOf_o, seqOf_d, mgCons_w, mgNil_w, mgTup_w, exPar_w, listC_w, putI_w, ixV_w, rng1_w, rng2_w, lcGo_n, lcGo_c, forGo_n, forGo_c, scEq_i, scEq_b, scEq_s, scEq_n, tyT, isNon, k_ii, k_ib, k_is, k_il, k_it, k_bi, k_bb, k_bs, k_bl, k_bt, k_ni, k_nb, k_ns, k_nl, k_nt, k_si, k_sb, k_ss, k_sl, k_st, k_li, k_lb, k_ls, k_ll, k_lt, k_ti, k_tb, k_ts, k_tl, k_tt, List.map_cons, List.map_nil, List.length_cons, List.length_nil, List.replicate, List.cons_append, List.nil_append, List.append_nil, List.getElem?_cons_zero, List.getElem?_cons_succ, List.set_cons_zero, List.set_cons_succ, Nat.sub_self, Nat.reduceAdd, Nat.reduceSub, List.replicate_zero, decide_eq_true_eq, Bool.true_eq_false, Bool.false_eq_true, if_true, if_false, reduceIte, Bool.not_eq_true', decide_eq_false_iff_not, Bool.not_true, Bool.not_false, exists_eq_left', true_and, and_true, Option.some.injEq, reduceCtorEq, decide_true, decide_false, not_true_eq_false, not_false_eq_true, Nat.reduceLT, Bool.or_false, Bool.or_true, Bool.false_or, Bool.true_or, Bool.and_true, Bool.true_and, Bool.and_false, Bool.false_and, true_implies, mFld, mFldS, mFldO, mProp, mMeth, mMethX, mInW, mCallXD, exOb_w, exOb2_w, exObD_w, exObD2_w, exObj_w, exObj0_w, exObjC_w, oIsNTy_w, mLcnt, eqD_ii, mJoin, oTupOf_w, oIsBl_w, cCalm]))
      intro _
      refine ite2 (fun y => ?_) (fun y => ?_)
      · rw [decide_eq_false y, Bool.false_and] at hk
        exact hk
      · rw [decide_eq_true (show (es.length : Int) = l by omega), Bool.true_and] at hk
        refine ⟨es, Or.inr rfl, lc_pure (fun e => some (.bl (wholeT e 0 (s - 1)))) (fun i x r hx hr => ?_) ⟨es.map fun e => wholeT e 0 (s - 1), ?_, ?_⟩⟩
        · obtain ⟨n, hn⟩ := ht es rfl x (List.mem_of_getElem? hx)
          (try simp only [mVar, mC, mOp, mUn, mNil, mCons, mTup, mLst, mCall, mCallX, mCallKX, mCB, mTest, mAnd, mOr, mNot, mYes, mAndV, mOrV, mNotV, mIf, mIsN, mNotN, mChain, mSeq, mNext, mBrk, mCnt, mRet, mRetN, mIfS, mDrop, mAsg, mOwn, mLstO, mListC, mLcO, oCatO, mShr, mApp, mPutI, mFrz, frz_w, mFor, mPar, mAug, mRaise, mTry, tryM, mKind, mLc, mList, mTupl, mListOwn, mRng1, mRng2, mEnum, mZip, mRev, mgName, mLenV, mIxV, mNoPart, mPart, mSl, wipeE, lcTurn, startE, oI_w, oB_w, oIC_w, oU_w, isB_w, oEq_w, oNe_w, exS_w, oIx_w, items_l, items_t, oLen_w, oAbs_w, oInt_i, oInt_b, oGcd_w, oMax_w, oMax3_w, oMin_w, oDivmod_w, oStr_w, oType_w, oIs1_w, oIs2_w, oIsTy_w, oCat_w, oIsN_w, oNotN_w, exD_w, exO_w, exD2_w, exO2_w, exL_w, exT_w, exI_w, ex1_w, ex1i_w, mSeqV_w, exX_w, seqOf_o, seqOf_d, mgCons_w, mgNil_w, mgTup_w, exPar_w, listC_w, putI_w, ixV_w, rng1_w, rng2_w, lcGo_n, lcGo_c, forGo_n, forGo_c, scEq_i, scEq_b, scEq_s, scEq_n, tyT, isNon, k_ii, k_ib, k_is, k_il, k_it, k_bi, k_bb, k_bs, k_bl, k_bt, k_ni, k_nb, k_ns, k_nl, k_nt, k_si, k_sb, k_ss, k_sl, k_st, k_li, k_lb, k_ls, k_ll, k_lt, k_ti, k_tb, k_ts, k_tl, k_tt, List.map_cons, List.map_nil, List.length_cons, List.length_nil, List.replicate, List.cons_append, List.nil_append, List.append_nil, List.getElem?_cons_zero, List.getElem?_cons_succ, List.set_cons_zero, List.set_cons_succ, Nat.sub_self, Nat.reduceAdd, Nat.reduceSub, List.replicate_zero, decide_eq_true_eq, Bool.true_eq_false, Bool.false_eq_true, if_true, if_false, reduceIte, Bool.not_eq_true', decide_eq_false_iff_not, Bool.not_true, Bool.not_false, exists_eq_left', true_and, and_true, Option.some.injEq, reduceCtorEq, decide_true, decide_false, not_true_eq_false, not_false_eq_true, Nat.reduceLT, Bool.or_false, Bool.or_true, Bool.false_or, Bool.true_or, Bool.and_true, Bool.true_and, Bool.and_false, Bool.false_and, true_implies, mFld, mFldS, mFldO, mProp, mMeth, mMethX, mInW, mCallXD, exOb_w, exOb2_w, exObD_w, exObD2_w, exObj_w, exObj0_w, exObjC_w, oIsNTy_w, mLcnt, eqD_ii, mJoin, oTupOf_w, oIsBl_w, cCalm])
          exact ⟨x, 0, s - 1, n, rfl, hn, hr⟩
        · rw [List.map_map, List.filterMap_eq_map']
          rfl
        · rw [List.all_map]
          exact hk
    | ty _ => cases hv
    | obj _ _ _ => cases hv
    | sto => cases hv
    | _ =>
      cases hv
      (try (try simp only [mVar, mC, mOp, mUn, mNil, mCons, mTup, mLst, mCall, mCallX, mCallKX, mCB, mTest, mAnd, mOr, mNot, mYes, mAndV, mOrV, mNotV, mIf, mIsN, mNotN, mChain, mSeq, mNext, mBrk, mCnt, mRet, mRetN, mIfS, mDrop, mAsg, mOwn, mLstO, mListC, mLcO, oCatO, mShr, mApp, mPutI, mFrz, frz_w, mFor, mPar, mAug, mRaise, mTry, tryM, mKind, mLc, mList, mTupl, mListOwn, mRng1, mRng2, mEnum, mZip, mRev, mgName, mLenV, mIxV, mNoPart, mPart, mSl, wipeE, lcTurn, startE, oI_w, oB_w, oIC_w, oU_w, isB_w, oEq_w, oNe_w, exS_w, oIx_w, items_l, items_t, oLen_w, oAbs_w, oInt_i, oInt_b, oGcd_w, oMax_w, oMax3_w, oMin_w, oDivmod_w, oStr_w, oType_w, oIs1_w, oIs2_w, oIsTy_w, oCat_w, oIsN_w, oNotN_w, exD_w, exO_w, exD2_w, exO2_w, exL_w, exT_w, exI_w, ex1_w, ex1i_w, mSeqV_w, exX_w, seqOf_o, seqOf_d, mgCons_w, mgNil_w, mgTup_w, exPar_w, listC_w, putI_w, ixV_w, rng1_w, rng2_w, lcGo_n, lcGo_c, forGo_n, forGo_c, scEq_i, scEq_b, scEq_s, scEq_n, tyT, isNon, k_ii, k_ib, k_is, k_il, k_it, k_bi, k_bb, k_bs, k_bl, k_bt, k_ni, k_nb, k_ns, k_nl, k_nt, k_si, k_sb, k_ss, k_sl, k_st, k_li, k_lb, k_ls, k_ll, k_lt, k_ti, k_tb, k_ts, k_tl, k_tt, List.map_cons, List.map_nil, List.length_cons, List.length_nil, List.replicate, List.cons_append, List.nil_append, List.append_nil, List.getElem?_cons_zero, List.getElem?_cons_succ, List.set_cons_zero, List.set_cons_succ, Nat.sub_self, Nat.reduceAdd, Nat.reduceSub, List.replicate_zero, decide_eq_true_eq, Bool.true_eq_false, Bool.false_eq_true, if_true, if_false, reduceIte, Bool.not_eq_true', decide_eq_false_iff_not, Bool.not_true, Bool.not_false, exists_eq_left', true_and, and_true, Option.some.injEq, reduceCtorEq, decide_true, decide_false, not_true_eq_false, not_false_eq_true, Nat.reduceLT, Bool.or_false, Bool.or_true, Bool.false_or, Bool.true_or, Bool.and_true, Bool.true_and, Bool.and_false, Bool.false_and, true_implies, mFld, mFldS, mFldO, mProp, mMeth, mMethX, mInW, mCallXD, exOb_w, exOb2_w, exObD_w, exObD2_w, exObj_w, exObj0_w, exObjC_w, oIsNTy_w, mLcnt, eqD_ii, mJoin, oTupOf_w, oIsBl_w, cCalm]))
      exact hk
end
end Mt
namespace Mt
open PySem PySem.Spec PyProof.Rows L2 L2H
section
variable {P : Program} {w : World} {K : PySem.W.Frag} {mg : Str → Option Value} {base : Heap} {f : Addr} {fd : FuncData} {A : Ad} {tk : Nat → Tok} {aBurstRule : Addr}
theorem ok_check_number (F : Fun K "check_number" "check_number" s_check_number f fd) (Tx : Txt K mg A tk aBurstRule) (C_is_whole : Cal P w K mg base "is_whole" 1 ["value", "low", "high"] (SpU A 3 c_is_whole)) (E_BadNumber : ErrK P w K mg base "BadNumber" A.bn) :
    FnOk P w K mg base (CN P w) 3 f fd ["value", "low", "high", "argument"] (SpU A 4 c_check_number) := by
  refine okN F sc_check_number (fun vs H Q E h => h.len) (fun cdv Ar outer s H vs Q E hr h => ?_)
  obtain ⟨st, P0, ds, k, XA, h1, h2, h3, hc, h5, h6⟩ := h
  refine ⟨_, (pss_cons (ps_if (pt_not (pt_val (p_call C_is_whole hr (pa_cons (pv 0) (pa_cons (pv 1) (pa_cons (pv 2) pa_nil))) (by omega)))) (pss_one (L2N.ps_raise rfl (L2N.takes_of rfl rfl rfl rfl) (p_err E_BadNumber hr (pa_cons (pv 3) pa_nil)))) pss_nil)
      (pss_one (ps_ret (pv 0)))), ?_⟩
  refine runX (ms := ?ms) h1 h2 h5 h6 (fun _ _ _ _ h => h) ?r ?u
  case r => exact (rs_seq (rs_if (rt_not (rt_B (re_call (ra_cons re_var (ra_cons re_var (ra_cons re_var ra_nil)))))) (rs_raise (c := .bn) rfl rfl re_var) rs_next)
      (rs_ret re_var))
  case u =>
    clear h1 h2 h5 h6 hr
    obtain ⟨v, lo, hi, n, z, rfl, hv, hk, hx⟩ := hc
    (try simp only [mVar, mC, mOp, mUn, mNil, mCons, mTup, mLst, mCall, mCallX, mCallKX, mCB, mTest, mAnd, mOr, mNot, mYes, mAndV, mOrV, mNotV, mIf, mIsN, mNotN, mChain, mSeq, mNext, mBrk, mCnt, mRet, mRetN, mIfS, mDrop, mAsg, mOwn, mLstO, mListC, mLcO, oCatO, mShr, mApp, mPutI, mFrz, frz_w, mFor, mPar, mAug, mRaise, mTry, tryM, mKind, mLc, mList, mTupl, mListOwn, mRng1, mRng2, mEnum, mZip, mRev, mgName, mLenV, mIxV, mNoPart, mPart, mSl, wipeE, lcTurn, startE, oI_w, oB_w, oIC_w, oU_w, isB_w, oEq_w, oNe_w, exS_w, oIx_w, items_l, items_t, oLen_w, oAbs_w, oInt_i, oInt_b, oGcd_w, oMax_w, oMax3_w, oMin_w, oDivmod_w, oStr_w, oType_w, oIs1_w, oIs2_w, oIsTy_w, oCat_w, oIsN_w, oNotN_w, exD_w, exO_w, exD2_w, exO2_w, exL_w, exT_w, exI_w, ex1_w, ex1i_w, mSeqV_w, exX_w, seqOf_o, seqOf_d, mgCons_w, mgNil_w, mgTup_w, exPar_w, listC_w, putI_w, ixV_w, rng1_w, rng2_w, lcGo_n, lcGo_c, forGo_n, forGo_c, scEq_i, scEq_b, scEq_s, scEq_n, tyT, isNon, k_ii, k_ib, k_is, k_il, k_it, k_bi, k_bb, k_bs, k_bl, k_bt, k_ni, k_nb, k_ns, k_nl, k_nt, k_si, k_sb, k_ss, k_sl, k_st, k_li, k_lb, k_ls, k_ll, k_lt, k_ti, k_tb, k_ts, k_tl, k_tt, List.map_cons, List.map_nil, List.length_cons, List.length_nil, List.replicate, List.cons_append, List.nil_append, List.append_nil, List.getElem?_cons_zero, List.getElem?_cons_succ, List.set_cons_zero, List.set_cons_succ, Nat.sub_self, Nat.reduceAdd, Nat.reduceSub, List.replicate_zero, decide_eq_true_eq, Bool.true_eq_false, Bool.false_eq_true, if_true, if_false, reduceIte, Bool.not_eq_true', decide_eq_false_iff_not, Bool.not_true, Bool.not_false, exists_eq_left', true_and, and_true, Option.some.injEq, reduceCtorEq, decide_true, decide_false, not_true_eq_false, not_false_eq_true, Nat.reduceLT, Bool.or_false, Bool.or_true, Bool.false_or, Bool.true_or, Bool.and_true, Bool.true_and, Bool.and_false, Bool.false_and, true_implies, mFld, mFldS, mFldO, mProp, mMeth, mMethX, mInW, mCallXD, exOb_w, exOb2_w, exObD_w, exObD2_w, exObj_w, exObj0_w, exObjC_w, oIsNTy_w, mLcnt, eqD_ii, mJoin, oTupOf_w, oIsBl_w, cCalm])
    refine ⟨v, lo, hi, n, rfl, hv, ?_⟩
    (try simp only [mVar, mC, mOp, mUn, mNil, mCons, mTup, mLst, mCall, mCallX, mCallKX, mCB, mTest, mAnd, mOr, mNot, mYes, mAndV, mOrV, mNotV, mIf, mIsN, mNotN, mChain, mSeq, mNext, mBrk, mCnt, mRet, mRetN, mIfS, mDrop, mAsg, mOwn, mLstO, mListC, mLcO, oCatO, mShr, mApp, mPutI, mFrz, frz_w, mFor, mPar, mAug, mRaise, mTry, tryM, mKind, mLc, mList, mTupl, mListOwn, mRng1, mRng2, mEnum, mZip, mRev, mgName, mLenV, mIxV, mNoPart, mPart, mSl, wipeE, lcTurn, startE, oI_w, oB_w, oIC_w, oU_w, isB_w, oEq_w, oNe_w, exS_w, oIx_w, items_l, items_t, oLen_w, oAbs_w, oInt_i, oInt_b, oGcd_w, oMax_w, oMax3_w, oMin_w, oDivmod_w, oStr_w, oType_w, oIs1_w, oIs2_w, oIsTy_w, oCat_w, oIsN_w, oNotN_w, exD_w, exO_w, exD2_w, exO2_w, exL_w, exT_w, exI_w, ex1_w, ex1i_w, mSeqV_w, exX_w, seqOf_o, seqOf_d, mgCons_w, mgNil_w, mgTup_w, exPar_w, listC_w, putI_w, ixV_w, rng1_w, rng2_w, lcGo_n, lcGo_c, forGo_n, forGo_c, scEq_i, scEq_b, scEq_s, scEq_n, tyT, isNon, k_ii, k_ib, k_is, k_il, k_it, k_bi, k_bb, k_bs, k_bl, k_bt, k_ni, k_nb, k_ns, k_nl, k_nt, k_si, k_sb, k_ss, k_sl, k_st, k_li, k_lb, k_ls, k_ll, k_lt, k_ti, k_tb, k_ts, k_tl, k_tt, List.map_cons, List.map_nil, List.length_cons, List.length_nil, List.replicate, List.cons_append, List.nil_append, List.append_nil, List.getElem?_cons_zero, List.getElem?_cons_succ, List.set_cons_zero, List.set_cons_succ, Nat.sub_self, Nat.reduceAdd, Nat.reduceSub, List.replicate_zero, decide_eq_true_eq, Bool.true_eq_false, Bool.false_eq_true, if_true, if_false, reduceIte, Bool.not_eq_true', decide_eq_false_iff_not, Bool.not_true, Bool.not_false, exists_eq_left', true_and, and_true, Option.some.injEq, reduceCtorEq, decide_true, decide_false, not_true_eq_false, not_false_eq_true, Nat.reduceLT, Bool.or_false, Bool.or_true, Bool.false_or, Bool.true_or, Bool.and_true, Bool.true_and, Bool.and_false, Bool.false_and, true_implies, mFld, mFldS, mFldO, mProp, mMeth, mMethX, mInW, mCallXD, exOb_w, exOb2_w, exObD_w, exObD2_w, exObj_w, exObj0_w, exObjC_w, oIsNTy_w, mLcnt, eqD_ii, mJoin, oTupOf_w, oIsBl_w, cCalm])
    cases hb : wholeT v lo hi with
    | true => exact hk hb
    | false => exact hx hb
end
end Mt
namespace Mt
open PySem PySem.Spec PyProof.Rows L2 L2H
section
variable {P : Program} {w : World} {K : PySem.W.Frag} {mg : Str → Option Value} {base : Heap} {f : Addr} {fd : FuncData} {A : Ad} {tk : Nat → Tok} {aBurstRule : Addr}
theorem ok_check_element (F : Fun K "check_element" "check_element" s_check_element f fd) (Tx : Txt K mg A tk aBurstRule) (C_is_whole : Cal P w K mg base "is_whole" 1 ["value", "low", "high"] (SpU A 3 c_is_whole)) (E_BadElement : ErrK P w K mg base "BadElement" A.be) :
    FnOk P w K mg base (CN P w) 3 f fd ["value", "size", "argument"] (SpU A 3 c_check_element) := by
  refine okN F sc_check_element (fun vs H Q E h => h.len) (fun cdv Ar outer s H vs Q E hr h => ?_)
  obtain ⟨st, P0, ds, k, XA, h1, h2, h3, hc, h5, h6⟩ := h
  refine ⟨_, (pss_cons (ps_if (pt_not (pt_val (p_call C_is_whole hr (pa_cons (pv 0) (pa_cons pe_int (pa_cons (pe_op op_sub (pv 1) pe_int) pa_nil))) (by omega)))) (pss_one (L2N.ps_raise rfl (L2N.takes_of rfl rfl rfl rfl) (p_err E_BadElement hr (pa_cons (pv 2) pa_nil)))) pss_nil)
      (pss_one (ps_ret (pv 0)))), ?_⟩
  refine runX (ms := ?ms) h1 h2 h5 h6 (fun _ _ _ _ h => h) ?r ?u
  case r => exact (rs_seq (rs_if (rt_not (rt_B (re_call (ra_cons re_var (ra_cons re_int (ra_cons (re_op ro_int re_var re_int) ra_nil)))))) (rs_raise (c := .be) rfl rfl re_var) rs_next)
      (rs_ret re_var))
  case u =>
    clear h1 h2 h5 h6 hr
    obtain ⟨v, s, n, z, rfl, hv, hk, hx⟩ := hc
    (try simp only [mVar, mC, mOp, mUn, mNil, mCons, mTup, mLst, mCall, mCallX, mCallKX, mCB, mTest, mAnd, mOr, mNot, mYes, mAndV, mOrV, mNotV, mIf, mIsN, mNotN, mChain, mSeq, mNext, mBrk, mCnt, mRet, mRetN, mIfS, mDrop, mAsg, mOwn, mLstO, mListC, mLcO, oCatO, mShr, mApp, mPutI, mFrz, frz_w, mFor, mPar, mAug, mRaise, mTry, tryM, mKind, mLc, mList, mTupl, mListOwn, mRng1, mRng2, mEnum, mZip, mRev, mgName, mLenV, mIxV, mNoPart, mPart, mSl, wipeE, lcTurn, startE, oI_w, oB_w, oIC_w, oU_w, isB_w, oEq_w, oNe_w, exS_w, oIx_w, items_l, items_t, oLen_w, oAbs_w, oInt_i, oInt_b, oGcd_w, oMax_w, oMax3_w, oMin_w, oDivmod_w, oStr_w, oType_w, oIs1_w, oIs2_w, oIsTy_w, oCat_w, oIsN_w, oNotN_w, exD_w, exO_w, exD2_w, exO2_w, exL_w, exT_w, exI_w, ex1_w, ex1i_w, mSeqV_w, exX_w, seqOf_o, seqOf_d, mgCons_w, mgNil_w, mgTup_w, exPar_w, listC_w, putI_w, ixV_w, rng1_w, rng2_w, lcGo_n, lcGo_c, forGo_n, forGo_c, scEq_i, scEq_b, scEq_s, scEq_n, tyT, isNon, k_ii, k_ib, k_is, k_il, k_it, k_bi, k_bb, k_bs, k_bl, k_bt, k_ni, k_nb, k_ns, k_nl, k_nt, k_si, k_sb, k_ss, k_sl, k_st, k_li, k_lb, k_ls, k_ll, k_lt, k_ti, k_tb, k_ts, k_tl, k_tt, List.map_cons, List.map_nil, List.length_cons, List.length_nil, List.replicate, List.cons_append, List.nil_append, List.append_nil, List.getElem?_cons_zero, List.getElem?_cons_succ, List.set_cons_zero, List.set_cons_succ, Nat.sub_self, Nat.reduceAdd, Nat.reduceSub, List.replicate_zero, decide_eq_true_eq, Bool.true_eq_false, Bool.false_eq_true, if_true, if_false, reduceIte, Bool.not_eq_true', decide_eq_false_iff_not, Bool.not_true, Bool.not_false, exists_eq_left', true_and, and_true, Option.some.injEq, reduceCtorEq, decide_true, decide_false, not_true_eq_false, not_false_eq_true, Nat.reduceLT, Bool.or_false, Bool.or_true, Bool.false_or, Bool.true_or, Bool.and_true, Bool.true_and, Bool.and_false, Bool.false_and, true_implies, mFld, mFldS, mFldO, mProp, mMeth, mMethX, mInW, mCallXD, exOb_w, exOb2_w, exObD_w, exObD2_w, exObj_w, exObj0_w, exObjC_w, oIsNTy_w, mLcnt, eqD_ii, mJoin, oTupOf_w, oIsBl_w, cCalm])
    refine ⟨v, 0, s - 1, n, rfl, hv, ?_⟩
    (try simp only [mVar, mC, mOp, mUn, mNil, mCons, mTup, mLst, mCall, mCallX, mCallKX, mCB, mTest, mAnd, mOr, mNot, mYes, mAndV, mOrV, mNotV, mIf, mIsN, mNotN, mChain, mSeq, mNext, mBrk, mCnt, mRet, mRetN, mIfS, mDrop, mAsg, mOwn, mLstO, mListC, mLcO, oCatO, mShr, mApp, mPutI, mFrz, frz_w, mFor, mPar, mAug, mRaise, mTry, tryM, mKind, mLc, mList, mTupl, mListOwn, mRng1, mRng2, mEnum, mZip, mRev, mgName, mLenV, mIxV, mNoPart, mPart, mSl, wipeE, lcTurn, startE, oI_w, oB_w, oIC_w, oU_w, isB_w, oEq_w, oNe_w, exS_w, oIx_w, items_l, items_t, oLen_w, oAbs_w, oInt_i, oInt_b, oGcd_w, oMax_w, oMax3_w, oMin_w, oDivmod_w, oStr_w, oType_w, oIs1_w, oIs2_w, oIsTy_w, oCat_w, oIsN_w, oNotN_w, exD_w, exO_w, exD2_w, exO2_w, exL_w, exT_w, exI_w, ex1_w, ex1i_w, mSeqV_w, exX_w, seqOf_o, seqOf_d, mgCons_w, mgNil_w, mgTup_w, exPar_w, listC_w, putI_w, ixV_w, rng1_w, rng2_w, lcGo_n, lcGo_c, forGo_n, forGo_c, scEq_i, scEq_b, scEq_s, scEq_n, tyT, isNon, k_ii, k_ib, k_is, k_il, k_it, k_bi, k_bb, k_bs, k_bl, k_bt, k_ni, k_nb, k_ns, k_nl, k_nt, k_si, k_sb, k_ss, k_sl, k_st, k_li, k_lb, k_ls, k_ll, k_lt, k_ti, k_tb, k_ts, k_tl, k_tt, List.map_cons, List.map_nil, List.length_cons, List.length_nil, List.replicate, List.cons_append, List.nil_append, List.append_nil, List.getElem?_cons_zero, List.getElem?_cons_succ, List.set_cons_zero, List.set_cons_succ, Nat.sub_self, Nat.reduceAdd, Nat.reduceSub, List.replicate_zero, decide_eq_true_eq, Bool.true_eq_false, Bool.false_eq_true, if_true, if_false, reduceIte, Bool.not_eq_true', decide_eq_false_iff_not, Bool.not_true, Bool.not_false, exists_eq_left', true_and, and_true, Option.some.injEq, reduceCtorEq, decide_true, decide_false, not_true_eq_false, not_false_eq_true, Nat.reduceLT, Bool.or_false, Bool.or_true, Bool.false_or, Bool.true_or, Bool.and_true, Bool.true_and, Bool.and_false, Bool.false_and, true_implies, mFld, mFldS, mFldO, mProp, mMeth, mMethX, mInW, mCallXD, exOb_w, exOb2_w, exObD_w, exObD2_w, exObj_w, exObj0_w, exObjC_w, oIsNTy_w, mLcnt, eqD_ii, mJoin, oTupOf_w, oIsBl_w, cCalm])
    cases hb : wholeT v 0 (s - 1) with
    | true => exact hk hb
    | false => exact hx hb
end
end Mt
namespace Mt
open PySem PySem.Spec PyProof.Rows L2 L2H
section
variable {P : Program} {w : World} {K : PySem.W.Frag} {mg : Str → Option Value} {base : Heap} {f : Addr} {fd : FuncData} {A : Ad} {tk : Nat → Tok} {aBurstRule : Addr}
theorem ok_check_list (F : Fun K "check_list" "check_list" s_check_list f fd) (Tx : Txt K mg A tk aBurstRule)  (E_BadShape : ErrK P w K mg base "BadShape" A.bs) :
    FnOk P w K mg base (CN P w) 3 f fd ["value", "most", "argument", "exact"] (SpU A 4 c_check_list) := by
  refine okN F sc_check_list (fun vs H Q E h => h.len) (fun cdv Ar outer s H vs Q E hr h => ?_)
  obtain ⟨st, P0, ds, k, XA, h1, h2, h3, hc, h5, h6⟩ := h
  refine ⟨_, (pss_cons (ps_if (PW.pt (pw_or (pt_cmpR op_isNTyH (pe_typeOf (by rfl) Tx.m_type (pv 0)) (pe_bltn (v := .ty "list") (u := .type "list") (by rfl) Tx.m_list (by decide +kernel) rel_ty) (nomark _)) (pw_or1 (pt_cmpR op_gt (pe_callB call_lenH (by rfl) Tx.m_len (by decide +kernel) (pa_cons (pv 0) pa_nil)) (pv 1) (nomark _))))) (pss_one (L2N.ps_raise rfl (L2N.takes_of rfl rfl rfl rfl) (p_err E_BadShape hr (pa_cons (pv 2) pa_nil)))) pss_nil)
      (pss_one (ps_if (PW.pt (pw_and (pt_val (pv 3)) (pw_and1 (pt_cmpR op_ne (pe_callB call_lenH (by rfl) Tx.m_len (by decide +kernel) (pa_cons (pv 0) pa_nil)) (pv 1) (nomark _))))) (pss_one (L2N.ps_raise rfl (L2N.takes_of rfl rfl rfl rfl) (p_err E_BadShape hr (pa_cons (pv 2) pa_nil)))) pss_nil))), ?_⟩
  refine runX (ms := ?ms) h1 h2 h5 h6 (fun _ _ _ _ h => h) ?r ?u
  case r => exact (rs_seq (rs_if (rt_or (rt_test (re_op ro_isNTy (re_cb rcb_type (ra_cons re_var ra_nil)) re_ty)) (rt_test (re_op ro_bool (re_cb rcb_len (ra_cons re_var ra_nil)) re_var))) (rs_raise (c := .bs) rfl rfl re_var) rs_next)
      (rs_if (rt_and (rt_B re_var) (rt_test (re_op ro_ne (re_cb rcb_len (ra_cons re_var ra_nil)) re_var))) (rs_raise (c := .bs) rfl rfl re_var) rs_next))
  case u =>
    clear h1 h2 h5 h6 hr
    obtain ⟨v, n, m, z, e, rfl, hv, hk, hx⟩ := hc
    (try simp only [mVar, mC, mOp, mUn, mNil, mCons, mTup, mLst, mCall, mCallX, mCallKX, mCB, mTest, mAnd, mOr, mNot, mYes, mAndV, mOrV, mNotV, mIf, mIsN, mNotN, mChain, mSeq, mNext, mBrk, mCnt, mRet, mRetN, mIfS, mDrop, mAsg, mOwn, mLstO, mListC, mLcO, oCatO, mShr, mApp, mPutI, mFrz, frz_w, mFor, mPar, mAug, mRaise, mTry, tryM, mKind, mLc, mList, mTupl, mListOwn, mRng1, mRng2, mEnum, mZip, mRev, mgName, mLenV, mIxV, mNoPart, mPart, mSl, wipeE, lcTurn, startE, oI_w, oB_w, oIC_w, oU_w, isB_w, oEq_w, oNe_w, exS_w, oIx_w, items_l, items_t, oLen_w, oAbs_w, oInt_i, oInt_b, oGcd_w, oMax_w, oMax3_w, oMin_w, oDivmod_w, oStr_w, oType_w, oIs1_w, oIs2_w, oIsTy_w, oCat_w, oIsN_w, oNotN_w, exD_w, exO_w, exD2_w, exO2_w, exL_w, exT_w, exI_w, ex1_w, ex1i_w, mSeqV_w, exX_w, seqOf_o, seqOf_d, mgCons_w, mgNil_w, mgTup_w, exPar_w, listC_w, putI_w, ixV_w, rng1_w, rng2_w, lcGo_n, lcGo_c, forGo_n, forGo_c, scEq_i, scEq_b, scEq_s, scEq_n, tyT, isNon, k_ii, k_ib, k_is, k_il, k_it, k_bi, k_bb, k_bs, k_bl, k_bt, k_ni, k_nb, k_ns, k_nl, k_nt, k_si, k_sb, k_ss, k_sl, k_st, k_li, k_lb, k_ls, k_ll, k_lt, k_ti, k_tb, k_ts, k_tl, k_tt, List.map_cons, List.map_nil, List.length_cons, List.length_nil, List.replicate, List.cons_append, List.nil_append, List.append_nil, List.getElem?_cons_zero, List.getElem?_cons_succ, List.set_cons_zero, List.set_cons_succ, Nat.sub_self, Nat.reduceAdd, Nat.reduceSub, List.replicate_zero, decide_eq_true_eq, Bool.true_eq_false, Bool.false_eq_true, if_true, if_false, reduceIte, Bool.not_eq_true', decide_eq_false_iff_not, Bool.not_true, Bool.not_false, exists_eq_left', true_and, and_true, Option.some.injEq, reduceCtorEq, decide_true, decide_false, not_true_eq_false, not_false_eq_true, Nat.reduceLT, Bool.or_false, Bool.or_true, Bool.false_or, Bool.true_or, Bool.and_true, Bool.true_and, Bool.and_false, Bool.false_and, true_implies, mFld, mFldS, mFldO, mProp, mMeth, mMethX, mInW, mCallXD, exOb_w, exOb2_w, exObD_w, exObD2_w, exObj_w, exObj0_w, exObjC_w, oIsNTy_w, mLcnt, eqD_ii, mJoin, oTupOf_w, oIsBl_w, cCalm, hv])
    cases v with
    | lst es =>
      cases hv
      simp only [shapeB] at hk hx
      (try simp only [mVar, mC, mOp, mUn, mNil, mCons, mTup, mLst, mCall, mCallX, mCallKX, mCB, mTest, mAnd, mOr, mNot, mYes, mAndV, mOrV, mNotV, mIf, mIsN, mNotN, mChain, mSeq, mNext, mBrk, mCnt, mRet, mRetN, mIfS, mDrop, mAsg, mOwn, mLstO, mListC, mLcO, oCatO, mShr, mApp, mPutI, mFrz, frz_w, mFor, mPar, mAug, mRaise, mTry, tryM, mKind, mLc, mList, mTupl, mListOwn, mRng1, mRng2, mEnum, mZip, mRev, mgName, mLenV, mIxV, mNoPart, mPart, mSl, wipeE, lcTurn, startE, oI_w, oB_w, oIC_w, oU_w, isB_w, oEq_w, oNe_w, exS_w, oIx_w, items_l, items_t, oLen_w, oAbs_w, oInt_i, oInt_b, oGcd_w, oMax_w, oMax3_w, oMin_w, oDivmod_w, oStr_w, oType_w, oIs1_w, oIs2_w, oIsTy_w, oCat_w, oIsN_w, oNotN_w, exD_w, exO_w, exD2_w, exO2_w, exL_w, exT_w, exI_w, ex1_w, ex1i_w, mSeqV_w, exX_w, seqOf_o, seqOf_d, mgCons_w, mgNil_w, mgTup_w, exPar_w, listC_w, putI_w, ixV_w, rng1_w, rng2_w, lcGo_n, lcGo_c, forGo_n, forGo_c, scEq_i, scEq_b, scEq_s, scEq_n, tyT, isNon, k_ii, k_ib, k_is, k_il, k_it, k_bi, k_bb, k_bs, k_bl, k_bt, k_ni, k_nb, k_ns, k_nl, k_nt, k_si, k_sb, k_ss, k_sl, k_st, k_li, k_lb, k_ls, k_ll, k_lt, k_ti, k_tb, k_ts, k_tl, k_tt, List.map_cons, List.map_nil, List.length_cons, List.length_nil, List.replicate, List.cons_append, List.nil_append, List.append_nil, List.getElem?_cons_zero, List.getElem?_cons_succ, List.set_cons_zero, List.set_cons_succ, Nat.sub_self, Nat.reduceAdd, Nat.reduceSub, List.replicate_zero, decide_eq_true_eq, Bool.true_eq_false, Bool.false_eq_true, if_true, if_false, reduceIte, Bool.not_eq_true', decide_eq_false_iff_not, Bool.not_true, Bool.not_false, exists_eq_left', true_and, and_true, Option.some.injEq, reduceCtorEq, decide_true, decide_false, not_true_eq_false, not_false_eq_true, Nat.reduceLT, Bool.or_false, Bool.or_true, Bool.false_or, Bool.true_or, Bool.and_true, Bool.true_and, Bool.and_false, Bool.false_and, true_implies, mFld, mFldS, mFldO, mProp, mMeth, mMethX, mInW, mCallXD, exOb_w, exOb2_w, exObD_w, exObD2_w, exObj_w, exObj0_w, exObjC_w, oIsNTy_w, mLcnt, eqD_ii, mJoin, oTupOf_w, oIsBl_w, cCalm])
      intro _
      by_cases w0 : m < (es.length : Int)
      · rw [if_pos w0]
        rw [decide_eq_true w0] at hx
        exact hx rfl
      · rw [if_neg w0]
        rw [decide_eq_false w0] at hk hx
        cases e with
        | true =>
          rw [if_pos rfl]
          intro _
          by_cases x : (es.length : Int) = m
          · rw [if_neg (fun h => h x)]
            rw [decide_eq_true x] at hk
            exact hk rfl
          · rw [if_pos x]
            rw [decide_eq_false x] at hx
            exact hx rfl
        | false => exact hk rfl
    | ty _ => cases hv
    | obj _ _ _ => cases hv
    | sto => cases hv
    | _ =>
      cases hv
      (try (try simp only [mVar, mC, mOp, mUn, mNil, mCons, mTup, mLst, mCall, mCallX, mCallKX, mCB, mTest, mAnd, mOr, mNot, mYes, mAndV, mOrV, mNotV, mIf, mIsN, mNotN, mChain, mSeq, mNext, mBrk, mCnt, mRet, mRetN, mIfS, mDrop, mAsg, mOwn, mLstO, mListC, mLcO, oCatO, mShr, mApp, mPutI, mFrz, frz_w, mFor, mPar, mAug, mRaise, mTry, tryM, mKind, mLc, mList, mTupl, mListOwn, mRng1, mRng2, mEnum, mZip, mRev, mgName, mLenV, mIxV, mNoPart, mPart, mSl, wipeE, lcTurn, startE, oI_w, oB_w, oIC_w, oU_w, isB_w, oEq_w, oNe_w, exS_w, oIx_w, items_l, items_t, oLen_w, oAbs_w, oInt_i, oInt_b, oGcd_w, oMax_w, oMax3_w, oMin_w, oDivmod_w, oStr_w, oType_w, oIs1_w, oIs2_w, oIsTy_w, oCat_w, oIsN_w, oNotN_w, exD_w, exO_w, exD2_w, exO2_w, exL_w, exT_w, exI_w, ex1_w, ex1i_w, mSeqV_w, exX_w, seqOf_o, seqOf_d, mgCons_w, mgNil_w, mgTup_w, exPar_w, listC_w, putI_w, ixV_w, rng1_w, rng2_w, lcGo_n, lcGo_c, forGo_n, forGo_c, scEq_i, scEq_b, scEq_s, scEq_n, tyT, isNon, k_ii, k_ib, k_is, k_il, k_it, k_bi, k_bb, k_bs, k_bl, k_bt, k_ni, k_nb, k_ns, k_nl, k_nt, k_si, k_sb, k_ss, k_sl, k_st, k_li, k_lb, k_ls, k_ll, k_lt, k_ti, k_tb, k_ts, k_tl, k_tt, List.map_cons, List.map_nil, List.length_cons, List.length_nil, List.replicate, List.cons_append, List.nil_append, List.append_nil, List.getElem?_cons_zero, List.getElem?_cons_succ, List.set_cons_zero, List.set_cons_succ, Nat.sub_self, Nat.reduceAdd, Nat.reduceSub, List.replicate_zero, decide_eq_true_eq, Bool.true_eq_false, Bool.false_eq_true, if_true, if_false, reduceIte, Bool.not_eq_true', decide_eq_false_iff_not, Bool.not_true, Bool.not_false, exists_eq_left', true_and, and_true, Option.some.injEq, reduceCtorEq, decide_true, decide_false, not_true_eq_false, not_false_eq_true, Nat.reduceLT, Bool.or_false, Bool.or_true, Bool.false_or, Bool.true_or, Bool.and_true, Bool.true_and, Bool.and_false, Bool.false_and, true_implies, mFld, mFldS, mFldO, mProp, mMeth, mMethX, mInW, mCallXD, exOb_w, exOb2_w, exObD_w, exObD2_w, exObj_w, exObj0_w, exObjC_w, oIsNTy_w, mLcnt, eqD_ii, mJoin, oTupOf_w, oIsBl_w, cCalm]))
      exact hx rfl
end
end Mt
namespace Mt
open PySem PySem.Spec PyProof.Rows L2 L2H
section
variable {P : Program} {w : World} {K : PySem.W.Frag} {mg : Str → Option Value} {base : Heap} {f : Addr} {fd : FuncData} {A : Ad} {tk : Nat → Tok} {aBurstRule : Addr}
theorem ok_check_entries (F : Fun K "check_entries" "check_entries" s_check_entries f fd) (Tx : Txt K mg A tk aBurstRule) (C_check_element : CalX P w K mg base "check_element" 3 ["value", "size", "argument"] (SpU A 3 c_check_element)) :
    FnOk P w K mg base (CN P w) 4 f fd ["row", "size", "argument"] (SpU A 3 c_check_entries) := by
  refine okN F sc_check_entries (fun vs H Q E h => h.len) (fun cdv Ar outer s H vs Q E hr h => ?_)
  obtain ⟨st, P0, ds, k, XA, h1, h2, h3, hc, h5, h6⟩ := h
  refine ⟨_, (pss_one (ps_ret (pe_lcX (own := [("entry", 3)]) (g := gName 3) rfl rfl (L2N.takes_of rfl rfl rfl rfl) rfl sc_check_entries.nd (pi_list (pv 0)) (blkOk_by (N := ["row", "size", "argument", "entry"]) (sc := defScope s_check_entries) (by decide +kernel)) (fun _ _ _ _ _ _ => pg_name (i := 3) sc_check_entries.nd rfl (.inl rfl)) (fun _ _ _ _ _ _ => pts_nil) (fun _ _ _ _ _ _ V tkb => (p_callB C_check_element hr tkb (pa_cons (pv 3) (pa_cons (pv 1) (pa_cons (pv 2) pa_nil))) (by omega)))))), ?_⟩
  refine runX (ms := ?ms) h1 h2 h5 h6 (fun _ _ _ _ h => h) ?r ?u
  case r => exact (rs_ret (re_lcX (vs := [3]) (is := [3]) ric_var rg_name (fun _ => rt_yes) (fun _ => (re_callX (ra_cons re_var (ra_cons re_var (ra_cons re_var ra_nil)))))))
  case u =>
    clear h1 h2 h5 h6 hr
    obtain ⟨es, s, z, rfl, ht, hk, hx⟩ := hc
    (try simp only [mVar, mC, mOp, mUn, mNil, mCons, mTup, mLst, mCall, mCallX, mCallKX, mCB, mTest, mAnd, mOr, mNot, mYes, mAndV, mOrV, mNotV, mIf, mIsN, mNotN, mChain, mSeq, mNext, mBrk, mCnt, mRet, mRetN, mIfS, mDrop, mAsg, mOwn, mLstO, mListC, mLcO, oCatO, mShr, mApp, mPutI, mFrz, frz_w, mFor, mPar, mAug, mRaise, mTry, tryM, mKind, mLc, mList, mTupl, mListOwn, mRng1, mRng2, mEnum, mZip, mRev, mgName, mLenV, mIxV, mNoPart, mPart, mSl, wipeE, lcTurn, startE, oI_w, oB_w, oIC_w, oU_w, isB_w, oEq_w, oNe_w, exS_w, oIx_w, items_l, items_t, oLen_w, oAbs_w, oInt_i, oInt_b, oGcd_w, oMax_w, oMax3_w, oMin_w, oDivmod_w, oStr_w, oType_w, oIs1_w, oIs2_w, oIsTy_w, oCat_w, oIsN_w, oNotN_w, exD_w, exO_w, exD2_w, exO2_w, exL_w, exT_w, exI_w, ex1_w, ex1i_w, mSeqV_w, exX_w, seqOf_o, seqOf_d, mgCons_w, mgNil_w, mgTup_w, exPar_w, listC_w, putI_w, ixV_w, rng1_w, rng2_w, lcGo_n, lcGo_c, forGo_n, forGo_c, scEq_i, scEq_b, scEq_s, scEq_n, tyT, isNon, k_ii, k_ib, k_is, k_il, k_it, k_bi, k_bb, k_bs, k_bl, k_bt, k_ni, k_nb, k_ns, k_nl, k_nt, k_si, k_sb, k_ss, k_sl, k_st, k_li, k_lb, k_ls, k_ll, k_lt, k_ti, k_tb, k_ts, k_tl, k_tt, List.map_cons, List.map_nil, List.length_cons, List.length_nil, List.replicate, List.cons_append, List.nil_append, List.append_nil, List.getElem?_cons_zero, List.getElem?_cons_succ, List.set_cons_zero, List.set_cons_succ, Nat.sub_self, Nat.reduceAdd, Nat.reduceSub, List.replicate_zero, decide_eq_true_eq, Bool.true_eq_false, Bool.false_eq_true, if_true, if_false, reduceIte, Bool.not_eq_true', decide_eq_false_iff_not, Bool.not_true, Bool.not_false, exists_eq_left', true_and, and_true, Option.some.injEq, reduceCtorEq, decide_true, decide_false, not_true_eq_false, not_false_eq_true, Nat.reduceLT, Bool.or_false, Bool.or_true, Bool.false_or, Bool.true_or, Bool.and_true, Bool.true_and, Bool.and_false, Bool.false_and, true_implies, mFld, mFldS, mFldO, mProp, mMeth, mMethX, mInW, mCallXD, exOb_w, exOb2_w, exObD_w, exObD2_w, exObj_w, exObj0_w, exObjC_w, oIsNTy_w, mLcnt, eqD_ii, mJoin, oTupOf_w, oIsBl_w, cCalm])
    refine ⟨es, Or.inr rfl, lc_idA (p := fun e => wholeT e 0 (s - 1)) (fun x r hm hr => ?_) hk⟩
    obtain ⟨n, hn⟩ := ht x hm
    (try simp only [mVar, mC, mOp, mUn, mNil, mCons, mTup, mLst, mCall, mCallX, mCallKX, mCB, mTest, mAnd, mOr, mNot, mYes, mAndV, mOrV, mNotV, mIf, mIsN, mNotN, mChain, mSeq, mNext, mBrk, mCnt, mRet, mRetN, mIfS, mDrop, mAsg, mOwn, mLstO, mListC, mLcO, oCatO, mShr, mApp, mPutI, mFrz, frz_w, mFor, mPar, mAug, mRaise, mTry, tryM, mKind, mLc, mList, mTupl, mListOwn, mRng1, mRng2, mEnum, mZip, mRev, mgName, mLenV, mIxV, mNoPart, mPart, mSl, wipeE, lcTurn, startE, oI_w, oB_w, oIC_w, oU_w, isB_w, oEq_w, oNe_w, exS_w, oIx_w, items_l, items_t, oLen_w, oAbs_w, oInt_i, oInt_b, oGcd_w, oMax_w, oMax3_w, oMin_w, oDivmod_w, oStr_w, oType_w, oIs1_w, oIs2_w, oIsTy_w, oCat_w, oIsN_w, oNotN_w, exD_w, exO_w, exD2_w, exO2_w, exL_w, exT_w, exI_w, ex1_w, ex1i_w, mSeqV_w, exX_w, seqOf_o, seqOf_d, mgCons_w, mgNil_w, mgTup_w, exPar_w, listC_w, putI_w, ixV_w, rng1_w, rng2_w, lcGo_n, lcGo_c, forGo_n, forGo_c, scEq_i, scEq_b, scEq_s, scEq_n, tyT, isNon, k_ii, k_ib, k_is, k_il, k_it, k_bi, k_bb, k_bs, k_bl, k_bt, k_ni, k_nb, k_ns, k_nl, k_nt, k_si, k_sb, k_ss, k_sl, k_st, k_li, k_lb, k_ls, k_ll, k_lt, k_ti, k_tb, k_ts, k_tl, k_tt, List.map_cons, List.map_nil, List.length_cons, List.length_nil, List.replicate, List.cons_append, List.nil_append, List.append_nil, List.getElem?_cons_zero, List.getElem?_cons_succ, List.set_cons_zero, List.set_cons_succ, Nat.sub_self, Nat.reduceAdd, Nat.reduceSub, List.replicate_zero, decide_eq_true_eq, Bool.true_eq_false, Bool.false_eq_true, if_true, if_false, reduceIte, Bool.not_eq_true', decide_eq_false_iff_not, Bool.not_true, Bool.not_false, exists_eq_left', true_and, and_true, Option.some.injEq, reduceCtorEq, decide_true, decide_false, not_true_eq_false, not_false_eq_true, Nat.reduceLT, Bool.or_false, Bool.or_true, Bool.false_or, Bool.true_or, Bool.and_true, Bool.true_and, Bool.and_false, Bool.false_and, true_implies, mFld, mFldS, mFldO, mProp, mMeth, mMethX, mInW, mCallXD, exOb_w, exOb2_w, exObD_w, exObD2_w, exObj_w, exObj0_w, exObjC_w, oIsNTy_w, mLcnt, eqD_ii, mJoin, oTupOf_w, oIsBl_w, cCalm])
    exact ⟨x, s, n, z, rfl, hn, hr, fun e => hx (all_false_of hm e)⟩
end
end Mt
namespace Mt
open PySem PySem.Spec PyProof.Rows L2 L2H
section
variable {P : Program} {w : World} {K : PySem.W.Frag} {mg : Str → Option Value} {base : Heap} {f : Addr} {fd : FuncData} {A : Ad} {tk : Nat → Tok} {aBurstRule : Addr}
theorem ok_check_pattern (F : Fun K "check_pattern" "check_pattern" s_check_pattern f fd) (Tx : Txt K mg A tk aBurstRule) (C_check_entries : CalX P w K mg base "check_entries" 4 ["row", "size", "argument"] (SpU A 3 c_check_entries)) (CK_check_list_3_exact : CalKX P w K mg base "check_list" 3 ["value", "most", "argument", "exact"] 3 ["exact"] [0] (SpU A 4 c_check_list)) :
    FnOk P w K mg base (CN P w) 5 f fd ["pattern", "most", "argument", "exact"] (SpU A 4 c_check_pattern) := by
  refine okN F sc_check_pattern (fun vs H Q E h => h.len) (fun cdv Ar outer s H vs Q E hr h => ?_)
  obtain ⟨st, P0, ds, k, XA, h1, h2, h3, hc, h5, h6⟩ := h
  refine ⟨_, (pss_cons (ps_expr (p_callKX CK_check_list_3_exact hr (L2N.takes_of rfl rfl rfl rfl) (pa_cons (pv 0) (pa_cons (pv 1) (pa_cons (pv 2) pa_nil))) (pk_cons (pv 3) pk_nil) (by omega)))
      (pss_one (ps_ret (p_callX C_check_entries hr (L2N.takes_of rfl rfl rfl rfl) (pa_cons (pv 0) (pa_cons pe_int (pa_cons (pv 2) pa_nil))) (by omega))))), ?_⟩
  refine runX (ms := ?ms) h1 h2 h5 h6 (fun _ _ _ _ h => h) ?r ?u
  case r => exact (rs_seq (rs_drop (re_callKX (ra_cons re_var (ra_cons re_var (ra_cons re_var ra_nil))) (ra_cons re_var ra_nil)))
      (rs_ret (re_callX (ra_cons re_var (ra_cons re_int (ra_cons re_var ra_nil))))))
  case u =>
    clear h1 h2 h5 h6 hr
    obtain ⟨v, n, m, z, e, rfl, hv, ht, h1, h2⟩ := hc
    (try simp only [mVar, mC, mOp, mUn, mNil, mCons, mTup, mLst, mCall, mCallX, mCallKX, mCB, mTest, mAnd, mOr, mNot, mYes, mAndV, mOrV, mNotV, mIf, mIsN, mNotN, mChain, mSeq, mNext, mBrk, mCnt, mRet, mRetN, mIfS, mDrop, mAsg, mOwn, mLstO, mListC, mLcO, oCatO, mShr, mApp, mPutI, mFrz, frz_w, mFor, mPar, mAug, mRaise, mTry, tryM, mKind, mLc, mList, mTupl, mListOwn, mRng1, mRng2, mEnum, mZip, mRev, mgName, mLenV, mIxV, mNoPart, mPart, mSl, wipeE, lcTurn, startE, oI_w, oB_w, oIC_w, oU_w, isB_w, oEq_w, oNe_w, exS_w, oIx_w, items_l, items_t, oLen_w, oAbs_w, oInt_i, oInt_b, oGcd_w, oMax_w, oMax3_w, oMin_w, oDivmod_w, oStr_w, oType_w, oIs1_w, oIs2_w, oIsTy_w, oCat_w, oIsN_w, oNotN_w, exD_w, exO_w, exD2_w, exO2_w, exL_w, exT_w, exI_w, ex1_w, ex1i_w, mSeqV_w, exX_w, seqOf_o, seqOf_d, mgCons_w, mgNil_w, mgTup_w, exPar_w, listC_w, putI_w, ixV_w, rng1_w, rng2_w, lcGo_n, lcGo_c, forGo_n, forGo_c, scEq_i, scEq_b, scEq_s, scEq_n, tyT, isNon, k_ii, k_ib, k_is, k_il, k_it, k_bi, k_bb, k_bs, k_bl, k_bt, k_ni, k_nb, k_ns, k_nl, k_nt, k_si, k_sb, k_ss, k_sl, k_st, k_li, k_lb, k_ls, k_ll, k_lt, k_ti, k_tb, k_ts, k_tl, k_tt, List.map_cons, List.map_nil, List.length_cons, List.length_nil, List.replicate, List.cons_append, List.nil_append, List.append_nil, List.getElem?_cons_zero, List.getElem?_cons_succ, List.set_cons_zero, List.set_cons_succ, Nat.sub_self, Nat.reduceAdd, Nat.reduceSub, List.replicate_zero, decide_eq_true_eq, Bool.true_eq_false, Bool.false_eq_true, if_true, if_false, reduceIte, Bool.not_eq_true', decide_eq_false_iff_not, Bool.not_true, Bool.not_false, exists_eq_left', true_and, and_true, Option.some.injEq, reduceCtorEq, decide_true, decide_false, not_true_eq_false, not_false_eq_true, Nat.reduceLT, Bool.or_false, Bool.or_true, Bool.false_or, Bool.true_or, Bool.and_true, Bool.true_and, Bool.and_false, Bool.false_and, true_implies, mFld, mFldS, mFldO, mProp, mMeth, mMethX, mInW, mCallXD, exOb_w, exOb2_w, exObD_w, exObD2_w, exObj_w, exObj0_w, exObjC_w, oIsNTy_w, mLcnt, eqD_ii, mJoin, oTupOf_w, oIsBl_w, cCalm])
    refine ⟨rfl, v, n, m, z, e, rfl, hv, fun hs => ?_, h1⟩
    obtain ⟨es, rfl⟩ := shape_lst hs
    exact ⟨es, 2, z, rfl, ht es rfl, (h2 hs es rfl).2, (h2 hs es rfl).1⟩
end
end Mt
namespace Mt
open PySem PySem.Spec PyProof.Rows L2 L2H
section
variable {P : Program} {w : World} {K : PySem.W.Frag} {mg : Str → Option Value} {base : Heap} {f : Addr} {fd : FuncData} {A : Ad} {tk : Nat → Tok} {aBurstRule : Addr}
theorem ok_check_setting (F : Fun K "check_setting" "check_setting" s_check_setting f fd) (Tx : Txt K mg A tk aBurstRule) (C_check_number : CalX P w K mg base "check_number" 3 ["value", "low", "high", "argument"] (SpU A 4 c_check_number)) :
    FnOk P w K mg base (CN P w) 4 f fd ["letters", "signs", "burst", "delay"] (SpU A 4 c_check_setting) := by
  refine okN F sc_check_setting (fun vs H Q E h => h.len) (fun cdv Ar outer s H vs Q E hr h => ?_)
  obtain ⟨st, P0, ds, k, XA, h1, h2, h3, hc, h5, h6⟩ := h
  refine ⟨_, (pss_cons (ps_expr (p_callX C_check_number hr (L2N.takes_of rfl rfl rfl rfl) (pa_cons (pv 0) (pa_cons pe_int (pa_cons (pe_glob (v := .int 8) rfl Tx.g_MOST_IN_SETTING ⟨_, rfl⟩) (pa_cons pe_str pa_nil)))) (by omega)))
      (pss_cons (ps_expr (p_callX C_check_number hr (L2N.takes_of rfl rfl rfl rfl) (pa_cons (pv 1) (pa_cons (pe_callB (call_max2H rfl) (by rfl) Tx.m_max (by decide +kernel) (pa_cons pe_int (pa_cons (pv 0) pa_nil))) (pa_cons (pe_glob (v := .int 8) rfl Tx.g_MOST_IN_SETTING ⟨_, rfl⟩) (pa_cons pe_str pa_nil)))) (by omega)))
      (pss_cons (ps_expr (p_callX C_check_number hr (L2N.takes_of rfl rfl rfl rfl) (pa_cons (pv 2) (pa_cons pe_int (pa_cons (pe_glob (v := .int 8) rfl Tx.g_MOST_BURST_burstmake ⟨_, rfl⟩) (pa_cons pe_str pa_nil)))) (by omega)))
      (pss_one (ps_expr (p_callX C_check_number hr (L2N.takes_of rfl rfl rfl rfl) (pa_cons (pv 3) (pa_cons pe_int (pa_cons (pe_glob (v := .int 6) rfl Tx.g_MOST_DELAY ⟨_, rfl⟩) (pa_cons pe_str pa_nil)))) (by omega))))))), ?_⟩
  refine runX (ms := ?ms) h1 h2 h5 h6 (fun _ _ _ _ h => h) ?r ?u
  case r => exact (rs_seq (rs_drop (re_callX (ra_cons re_var (ra_cons re_int (ra_cons re_int (ra_cons re_str ra_nil))))))
      (rs_seq (rs_drop (re_callX (ra_cons re_var (ra_cons (re_cb rcb_max2 (ra_cons re_int (ra_cons re_var ra_nil))) (ra_cons re_int (ra_cons re_str ra_nil))))))
      (rs_seq (rs_drop (re_callX (ra_cons re_var (ra_cons re_int (ra_cons re_int (ra_cons re_str ra_nil))))))
      (rs_drop (re_callX (ra_cons re_var (ra_cons re_int (ra_cons re_int (ra_cons re_str ra_nil)))))))))
  case u =>
    clear h1 h2 h5 h6 hr
    obtain ⟨l, w, b, d, nl, nw, nb, nd, rfl, el, ew, eb, ed, h1, h2⟩ := hc
    (try simp only [mVar, mC, mOp, mUn, mNil, mCons, mTup, mLst, mCall, mCallX, mCallKX, mCB, mTest, mAnd, mOr, mNot, mYes, mAndV, mOrV, mNotV, mIf, mIsN, mNotN, mChain, mSeq, mNext, mBrk, mCnt, mRet, mRetN, mIfS, mDrop, mAsg, mOwn, mLstO, mListC, mLcO, oCatO, mShr, mApp, mPutI, mFrz, frz_w, mFor, mPar, mAug, mRaise, mTry, tryM, mKind, mLc, mList, mTupl, mListOwn, mRng1, mRng2, mEnum, mZip, mRev, mgName, mLenV, mIxV, mNoPart, mPart, mSl, wipeE, lcTurn, startE, oI_w, oB_w, oIC_w, oU_w, isB_w, oEq_w, oNe_w, exS_w, oIx_w, items_l, items_t, oLen_w, oAbs_w, oInt_i, oInt_b, oGcd_w, oMax_w, oMax3_w, oMin_w, oDivmod_w, oStr_w, oType_w, oIs1_w, oIs2_w, oIsTy_w, oCat_w, oIsN_w, oNotN_w, exD_w, exO_w, exD2_w, exO2_w, exL_w, exT_w, exI_w, ex1_w, ex1i_w, mSeqV_w, exX_w, seqOf_o, seqOf_d, mgCons_w, mgNil_w, mgTup_w, exPar_w, listC_w, putI_w, ixV_w, rng1_w, rng2_w, lcGo_n, lcGo_c, forGo_n, forGo_c, scEq_i, scEq_b, scEq_s, scEq_n, tyT, isNon, k_ii, k_ib, k_is, k_il, k_it, k_bi, k_bb, k_bs, k_bl, k_bt, k_ni, k_nb, k_ns, k_nl, k_nt, k_si, k_sb, k_ss, k_sl, k_st, k_li, k_lb, k_ls, k_ll, k_lt, k_ti, k_tb, k_ts, k_tl, k_tt, List.map_cons, List.map_nil, List.length_cons, List.length_nil, List.replicate, List.cons_append, List.nil_append, List.append_nil, List.getElem?_cons_zero, List.getElem?_cons_succ, List.set_cons_zero, List.set_cons_succ, Nat.sub_self, Nat.reduceAdd, Nat.reduceSub, List.replicate_zero, decide_eq_true_eq, Bool.true_eq_false, Bool.false_eq_true, if_true, if_false, reduceIte, Bool.not_eq_true', decide_eq_false_iff_not, Bool.not_true, Bool.not_false, exists_eq_left', true_and, and_true, Option.some.injEq, reduceCtorEq, decide_true, decide_false, not_true_eq_false, not_false_eq_true, Nat.reduceLT, Bool.or_false, Bool.or_true, Bool.false_or, Bool.true_or, Bool.and_true, Bool.true_and, Bool.and_false, Bool.false_and, true_implies, mFld, mFldS, mFldO, mProp, mMeth, mMethX, mInW, mCallXD, exOb_w, exOb2_w, exObD_w, exObD2_w, exObj_w, exObj0_w, exObjC_w, oIsNTy_w, mLcnt, eqD_ii, mJoin, oTupOf_w, oIsBl_w, cCalm])
    refine ⟨l, 0, 8, nl, .str "letters", rfl, el, fun hl => ?_, h1⟩
    obtain ⟨li, rfl, l0, l1⟩ := wholeT_true hl
    obtain ⟨g1, g2⟩ := h2 li rfl l0 l1
    (try simp only [mVar, mC, mOp, mUn, mNil, mCons, mTup, mLst, mCall, mCallX, mCallKX, mCB, mTest, mAnd, mOr, mNot, mYes, mAndV, mOrV, mNotV, mIf, mIsN, mNotN, mChain, mSeq, mNext, mBrk, mCnt, mRet, mRetN, mIfS, mDrop, mAsg, mOwn, mLstO, mListC, mLcO, oCatO, mShr, mApp, mPutI, mFrz, frz_w, mFor, mPar, mAug, mRaise, mTry, tryM, mKind, mLc, mList, mTupl, mListOwn, mRng1, mRng2, mEnum, mZip, mRev, mgName, mLenV, mIxV, mNoPart, mPart, mSl, wipeE, lcTurn, startE, oI_w, oB_w, oIC_w, oU_w, isB_w, oEq_w, oNe_w, exS_w, oIx_w, items_l, items_t, oLen_w, oAbs_w, oInt_i, oInt_b, oGcd_w, oMax_w, oMax3_w, oMin_w, oDivmod_w, oStr_w, oType_w, oIs1_w, oIs2_w, oIsTy_w, oCat_w, oIsN_w, oNotN_w, exD_w, exO_w, exD2_w, exO2_w, exL_w, exT_w, exI_w, ex1_w, ex1i_w, mSeqV_w, exX_w, seqOf_o, seqOf_d, mgCons_w, mgNil_w, mgTup_w, exPar_w, listC_w, putI_w, ixV_w, rng1_w, rng2_w, lcGo_n, lcGo_c, forGo_n, forGo_c, scEq_i, scEq_b, scEq_s, scEq_n, tyT, isNon, k_ii, k_ib, k_is, k_il, k_it, k_bi, k_bb, k_bs, k_bl, k_bt, k_ni, k_nb, k_ns, k_nl, k_nt, k_si, k_sb, k_ss, k_sl, k_st, k_li, k_lb, k_ls, k_ll, k_lt, k_ti, k_tb, k_ts, k_tl, k_tt, List.map_cons, List.map_nil, List.length_cons, List.length_nil, List.replicate, List.cons_append, List.nil_append, List.append_nil, List.getElem?_cons_zero, List.getElem?_cons_succ, List.set_cons_zero, List.set_cons_succ, Nat.sub_self, Nat.reduceAdd, Nat.reduceSub, List.replicate_zero, decide_eq_true_eq, Bool.true_eq_false, Bool.false_eq_true, if_true, if_false, reduceIte, Bool.not_eq_true', decide_eq_false_iff_not, Bool.not_true, Bool.not_false, exists_eq_left', true_and, and_true, Option.some.injEq, reduceCtorEq, decide_true, decide_false, not_true_eq_false, not_false_eq_true, Nat.reduceLT, Bool.or_false, Bool.or_true, Bool.false_or, Bool.true_or, Bool.and_true, Bool.true_and, Bool.and_false, Bool.false_and, true_implies, mFld, mFldS, mFldO, mProp, mMeth, mMethX, mInW, mCallXD, exOb_w, exOb2_w, exObD_w, exObD2_w, exObj_w, exObj0_w, exObjC_w, oIsNTy_w, mLcnt, eqD_ii, mJoin, oTupOf_w, oIsBl_w, cCalm])
    refine ⟨w, max 1 li, 8, nw, .str "signs", rfl, ew, fun hw => ?_, g1⟩
    obtain ⟨g3, g4⟩ := g2 hw
    refine ⟨b, 0, 8, nb, .str "burst", rfl, eb, fun hb => ?_, g3⟩
    obtain ⟨g5, g6⟩ := g4 hb
    exact ⟨d, 1, 6, nd, .str "delay", rfl, ed, fun hd => g6 hd, g5⟩
end
end Mt
namespace Mt
open PySem PySem.Spec PyProof.Rows L2 L2H
section
variable {P : Program} {w : World} {K : PySem.W.Frag} {mg : Str → Option Value} {base : Heap} {f : Addr} {fd : FuncData} {A : Ad} {tk : Nat → Tok} {aBurstRule : Addr}
theorem ok_can_make (F : Fun K "can_make" "can_make" s_can_make f fd) (Tx : Txt K mg A tk aBurstRule) (C_check_setting : CalX P w K mg base "check_setting" 4 ["letters", "signs", "burst", "delay"] (SpU A 4 c_check_setting)) :
    FnOk P w K mg base (CN P w) 5 f fd ["letters", "signs", "burst", "delay"] (SpU A 4 c_can_make) := by
  refine okN F sc_can_make (fun vs H Q E h => h.len) (fun cdv Ar outer s H vs Q E hr h => ?_)
  obtain ⟨st, P0, ds, k, XA, h1, h2, h3, hc, h5, h6⟩ := h
  refine ⟨_, (pss_cons (ps_expr (p_callX C_check_setting hr (L2N.takes_of rfl rfl rfl rfl) (pa_cons (pv 0) (pa_cons (pv 1) (pa_cons (pv 2) (pa_cons (pv 3) pa_nil)))) (by omega)))
      (pss_one (ps_ret (pe_or (pe_cmpR op_eq (pv 0) pe_int (nomark _)) (pe_one (pe_and (pe_cmpR op_le (pv 2) (pv 3) (nomark _)) (pe_one (pe_cmpR op_le (pe_op op_mul (pv 0) (pe_op op_add (pv 3) (pv 2))) (pe_op op_mul (pv 1) (pv 3)) (nomark _))))))))), ?_⟩
  refine runX (ms := ?ms) h1 h2 h5 h6 (fun _ _ _ _ h => h) ?r ?u
  case r => exact (rs_seq (rs_drop (re_callX (ra_cons re_var (ra_cons re_var (ra_cons re_var (ra_cons re_var ra_nil))))))
      (rs_ret (re_orV (re_op ro_eq re_var re_int) (re_andV (re_op ro_bool re_var re_var) (re_op ro_bool (re_op ro_intC re_var (re_op ro_int re_var re_var)) (re_op ro_intC re_var re_var))))))
  case u =>
    clear h1 h2 h5 h6 hr
    obtain ⟨l, w, b, d, rfl, ok, hk⟩ := hc
    have l0 := ok.l0
    have l1 := ok.l1
    have w0 := ok.w0
    have w1 := ok.w1
    unfold fitB at hk
    (try simp only [mVar, mC, mOp, mUn, mNil, mCons, mTup, mLst, mCall, mCallX, mCallKX, mCB, mTest, mAnd, mOr, mNot, mYes, mAndV, mOrV, mNotV, mIf, mIsN, mNotN, mChain, mSeq, mNext, mBrk, mCnt, mRet, mRetN, mIfS, mDrop, mAsg, mOwn, mLstO, mListC, mLcO, oCatO, mShr, mApp, mPutI, mFrz, frz_w, mFor, mPar, mAug, mRaise, mTry, tryM, mKind, mLc, mList, mTupl, mListOwn, mRng1, mRng2, mEnum, mZip, mRev, mgName, mLenV, mIxV, mNoPart, mPart, mSl, wipeE, lcTurn, startE, oI_w, oB_w, oIC_w, oU_w, isB_w, oEq_w, oNe_w, exS_w, oIx_w, items_l, items_t, oLen_w, oAbs_w, oInt_i, oInt_b, oGcd_w, oMax_w, oMax3_w, oMin_w, oDivmod_w, oStr_w, oType_w, oIs1_w, oIs2_w, oIsTy_w, oCat_w, oIsN_w, oNotN_w, exD_w, exO_w, exD2_w, exO2_w, exL_w, exT_w, exI_w, ex1_w, ex1i_w, mSeqV_w, exX_w, seqOf_o, seqOf_d, mgCons_w, mgNil_w, mgTup_w, exPar_w, listC_w, putI_w, ixV_w, rng1_w, rng2_w, lcGo_n, lcGo_c, forGo_n, forGo_c, scEq_i, scEq_b, scEq_s, scEq_n, tyT, isNon, k_ii, k_ib, k_is, k_il, k_it, k_bi, k_bb, k_bs, k_bl, k_bt, k_ni, k_nb, k_ns, k_nl, k_nt, k_si, k_sb, k_ss, k_sl, k_st, k_li, k_lb, k_ls, k_ll, k_lt, k_ti, k_tb, k_ts, k_tl, k_tt, List.map_cons, List.map_nil, List.length_cons, List.length_nil, List.replicate, List.cons_append, List.nil_append, List.append_nil, List.getElem?_cons_zero, List.getElem?_cons_succ, List.set_cons_zero, List.set_cons_succ, Nat.sub_self, Nat.reduceAdd, Nat.reduceSub, List.replicate_zero, decide_eq_true_eq, Bool.true_eq_false, Bool.false_eq_true, if_true, if_false, reduceIte, Bool.not_eq_true', decide_eq_false_iff_not, Bool.not_true, Bool.not_false, exists_eq_left', true_and, and_true, Option.some.injEq, reduceCtorEq, decide_true, decide_false, not_true_eq_false, not_false_eq_true, Nat.reduceLT, Bool.or_false, Bool.or_true, Bool.false_or, Bool.true_or, Bool.and_true, Bool.true_and, Bool.and_false, Bool.false_and, true_implies, mFld, mFldS, mFldO, mProp, mMeth, mMethX, mInW, mCallXD, exOb_w, exOb2_w, exObD_w, exObD2_w, exObj_w, exObj0_w, exObjC_w, oIsNTy_w, mLcnt, eqD_ii, mJoin, oTupOf_w, oIsBl_w, cCalm])
    refine set_ok ok ?_
    refine ite2 (fun z => ?_) (fun z => ?_)
    · rw [decide_eq_true z, Bool.true_or] at hk
      exact hk
    · rw [decide_eq_false z, Bool.false_or] at hk
      refine ite2 (fun y => ?_) (fun y => ?_)
      · rw [decide_eq_true y, Bool.true_and] at hk
        exact ⟨Or.inl ⟨by omega, by omega⟩, Or.inl ⟨by omega, by omega⟩, hk⟩
      · rw [decide_eq_false y, Bool.false_and] at hk
        exact hk
end
end Mt
namespace Mt
open PySem PySem.Spec PyProof.Rows L2 L2H
section
variable {P : Program} {w : World} {K : PySem.W.Frag} {mg : Str → Option Value} {base : Heap} {f : Addr} {fd : FuncData} {A : Ad} {tk : Nat → Tok} {aBurstRule : Addr}
theorem ok_is_list (F : Fun K "is_list" "is_list" s_is_list f fd) (Tx : Txt K mg A tk aBurstRule)  :
    FnOk P w K mg base CX0 1 f fd ["value", "least", "most"] (SpU A 3 c_is_list) := by
  refine F.ok sc_is_list (fun vs H Q E h => h.len) (fun cdv Ar outer s H vs Q E hr h => ?_)
  obtain ⟨st, P0, ds, k, XA, h1, h2, h3, hc, h5, h6⟩ := h
  refine ⟨_, (pss_one (ps_ret (pe_and (pe_cmpR op_isTyH (pe_typeOf (by rfl) Tx.m_type (pv 0)) (pe_bltn (v := .ty "list") (u := .type "list") (by rfl) Tx.m_list (by decide +kernel) rel_ty) (nomark _)) (pe_one (pe_chain op_le op_le (pv 1) (pe_callB call_lenH (by rfl) Tx.m_len (by decide +kernel) (pa_cons (pv 0) pa_nil)) (pv 2)))))), ?_⟩
  refine run0 (A := A) (ms := ?ms) (XA := XA) h1 h2 h5 ?r ?u
  case r => exact (rs_ret (re_andV (re_op ro_isTy (re_cb rcb_type (ra_cons re_var ra_nil)) re_ty) (re_chain ro_bool ro_bool re_var (re_cb rcb_len (ra_cons re_var ra_nil)) re_var)))
  case u =>
    clear h1 h2 h5 h6 hr
    obtain ⟨v, n, a, b, rfl, hv, hk⟩ := hc
    (try simp only [mVar, mC, mOp, mUn, mNil, mCons, mTup, mLst, mCall, mCallX, mCallKX, mCB, mTest, mAnd, mOr, mNot, mYes, mAndV, mOrV, mNotV, mIf, mIsN, mNotN, mChain, mSeq, mNext, mBrk, mCnt, mRet, mRetN, mIfS, mDrop, mAsg, mOwn, mLstO, mListC, mLcO, oCatO, mShr, mApp, mPutI, mFrz, frz_w, mFor, mPar, mAug, mRaise, mTry, tryM, mKind, mLc, mList, mTupl, mListOwn, mRng1, mRng2, mEnum, mZip, mRev, mgName, mLenV, mIxV, mNoPart, mPart, mSl, wipeE, lcTurn, startE, oI_w, oB_w, oIC_w, oU_w, isB_w, oEq_w, oNe_w, exS_w, oIx_w, items_l, items_t, oLen_w, oAbs_w, oInt_i, oInt_b, oGcd_w, oMax_w, oMax3_w, oMin_w, oDivmod_w, oStr_w, oType_w, oIs1_w, oIs2_w, oIsTy_w, oCat_w, oIsN_w, oNotN_w, exD_w, exO_w, exD2_w, exO2_w, exL_w, exT_w, exI_w, ex1_w, ex1i_w, mSeqV_w, exX_w, seqOf_o, seqOf_d, mgCons_w, mgNil_w, mgTup_w, exPar_w, listC_w, putI_w, ixV_w, rng1_w, rng2_w, lcGo_n, lcGo_c, forGo_n, forGo_c, scEq_i, scEq_b, scEq_s, scEq_n, tyT, isNon, k_ii, k_ib, k_is, k_il, k_it, k_bi, k_bb, k_bs, k_bl, k_bt, k_ni, k_nb, k_ns, k_nl, k_nt, k_si, k_sb, k_ss, k_sl, k_st, k_li, k_lb, k_ls, k_ll, k_lt, k_ti, k_tb, k_ts, k_tl, k_tt, List.map_cons, List.map_nil, List.length_cons, List.length_nil, List.replicate, List.cons_append, List.nil_append, List.append_nil, List.getElem?_cons_zero, List.getElem?_cons_succ, List.set_cons_zero, List.set_cons_succ, Nat.sub_self, Nat.reduceAdd, Nat.reduceSub, List.replicate_zero, decide_eq_true_eq, Bool.true_eq_false, Bool.false_eq_true, if_true, if_false, reduceIte, Bool.not_eq_true', decide_eq_false_iff_not, Bool.not_true, Bool.not_false, exists_eq_left', true_and, and_true, Option.some.injEq, reduceCtorEq, decide_true, decide_false, not_true_eq_false, not_false_eq_true, Nat.reduceLT, Bool.or_false, Bool.or_true, Bool.false_or, Bool.true_or, Bool.and_true, Bool.true_and, Bool.and_false, Bool.false_and, true_implies, mFld, mFldS, mFldO, mProp, mMeth, mMethX, mInW, mCallXD, exOb_w, exOb2_w, exObD_w, exObD2_w, exObj_w, exObj0_w, exObjC_w, oIsNTy_w, mLcnt, eqD_ii, mJoin, oTupOf_w, oIsBl_w, cCalm, hv])
    cases v with
    | lst es =>
      cases hv
      simp only [listB] at hk
      (try (try simp only [mVar, mC, mOp, mUn, mNil, mCons, mTup, mLst, mCall, mCallX, mCallKX, mCB, mTest, mAnd, mOr, mNot, mYes, mAndV, mOrV, mNotV, mIf, mIsN, mNotN, mChain, mSeq, mNext, mBrk, mCnt, mRet, mRetN, mIfS, mDrop, mAsg, mOwn, mLstO, mListC, mLcO, oCatO, mShr, mApp, mPutI, mFrz, frz_w, mFor, mPar, mAug, mRaise, mTry, tryM, mKind, mLc, mList, mTupl, mListOwn, mRng1, mRng2, mEnum, mZip, mRev, mgName, mLenV, mIxV, mNoPart, mPart, mSl, wipeE, lcTurn, startE, oI_w, oB_w, oIC_w, oU_w, isB_w, oEq_w, oNe_w, exS_w, oIx_w, items_l, items_t, oLen_w, oAbs_w, oInt_i, oInt_b, oGcd_w, oMax_w, oMax3_w, oMin_w, oDivmod_w, oStr_w, oType_w, oIs1_w, oIs2_w, oIsTy_w, oCat_w, oIsN_w, oNotN_w, exD_w, exO_w, exD2_w, exO2_w, exL_w, exT_w, exI_w, ex1_w, ex1i_w, mSeqV_w, exX_w, seqOf_o, seqOf_d, mgCons_w, mgNil_w, mgTup_w, exPar_w, listC_w, putI_w, ixV_w, rng1_w, rng2_w, lcGo_n, lcGo_c, forGo_n, forGo_c, scEq_i, scEq_b, scEq_s, scEq_n, tyT, isNon, k_ii, k_ib, k_is, k_il, k_it, k_bi, k_bb, k_bs, k_bl, k_bt, k_ni, k_nb, k_ns, k_nl, k_nt, k_si, k_sb, k_ss, k_sl, k_st, k_li, k_lb, k_ls, k_ll, k_lt, k_ti, k_tb, k_ts, k_tl, k_tt, List.map_cons, List.map_nil, List.length_cons, List.length_nil, List.replicate, List.cons_append, List.nil_append, List.append_nil, List.getElem?_cons_zero, List.getElem?_cons_succ, List.set_cons_zero, List.set_cons_succ, Nat.sub_self, Nat.reduceAdd, Nat.reduceSub, List.replicate_zero, decide_eq_true_eq, Bool.true_eq_false, Bool.false_eq_true, if_true, if_false, reduceIte, Bool.not_eq_true', decide_eq_false_iff_not, Bool.not_true, Bool.not_false, exists_eq_left', true_and, and_true, Option.some.injEq, reduceCtorEq, decide_true, decide_false, not_true_eq_false, not_false_eq_true, Nat.reduceLT, Bool.or_false, Bool.or_true, Bool.false_or, Bool.true_or, Bool.and_true, Bool.true_and, Bool.and_false, Bool.false_and, true_implies, mFld, mFldS, mFldO, mProp, mMeth, mMethX, mInW, mCallXD, exOb_w, exOb2_w, exObD_w, exObD2_w, exObj_w, exObj0_w, exObjC_w, oIsNTy_w, mLcnt, eqD_ii, mJoin, oTupOf_w, oIsBl_w, cCalm]))
      intro _
      refine ite2 (fun y => ?_) (fun y => ?_)
      · rw [decide_eq_true y, Bool.true_and] at hk
        exact hk
      · rw [decide_eq_false y, Bool.false_and] at hk
        exact hk
    | ty _ => cases hv
    | obj _ _ _ => cases hv
    | sto => cases hv
    | _ =>
      cases hv
      (try (try simp only [mVar, mC, mOp, mUn, mNil, mCons, mTup, mLst, mCall, mCallX, mCallKX, mCB, mTest, mAnd, mOr, mNot, mYes, mAndV, mOrV, mNotV, mIf, mIsN, mNotN, mChain, mSeq, mNext, mBrk, mCnt, mRet, mRetN, mIfS, mDrop, mAsg, mOwn, mLstO, mListC, mLcO, oCatO, mShr, mApp, mPutI, mFrz, frz_w, mFor, mPar, mAug, mRaise, mTry, tryM, mKind, mLc, mList, mTupl, mListOwn, mRng1, mRng2, mEnum, mZip, mRev, mgName, mLenV, mIxV, mNoPart, mPart, mSl, wipeE, lcTurn, startE, oI_w, oB_w, oIC_w, oU_w, isB_w, oEq_w, oNe_w, exS_w, oIx_w, items_l, items_t, oLen_w, oAbs_w, oInt_i, oInt_b, oGcd_w, oMax_w, oMax3_w, oMin_w, oDivmod_w, oStr_w, oType_w, oIs1_w, oIs2_w, oIsTy_w, oCat_w, oIsN_w, oNotN_w, exD_w, exO_w, exD2_w, exO2_w, exL_w, exT_w, exI_w, ex1_w, ex1i_w, mSeqV_w, exX_w, seqOf_o, seqOf_d, mgCons_w, mgNil_w, mgTup_w, exPar_w, listC_w, putI_w, ixV_w, rng1_w, rng2_w, lcGo_n, lcGo_c, forGo_n, forGo_c, scEq_i, scEq_b, scEq_s, scEq_n, tyT, isNon, k_ii, k_ib, k_is, k_il, k_it, k_bi, k_bb, k_bs, k_bl, k_bt, k_ni, k_nb, k_ns, k_nl, k_nt, k_si, k_sb, k_ss, k_sl, k_st, k_li, k_lb, k_ls, k_ll, k_lt, k_ti, k_tb, k_ts, k_tl, k_tt, List.map_cons, List.map_nil, List.length_cons, List.length_nil, List.replicate, List.cons_append, List.nil_append, List.append_nil, List.getElem?_cons_zero, List.getElem?_cons_succ, List.set_cons_zero, List.set_cons_succ, Nat.sub_self, Nat.reduceAdd, Nat.reduceSub, List.replicate_zero, decide_eq_true_eq, Bool.true_eq_false, Bool.false_eq_true, if_true, if_false, reduceIte, Bool.not_eq_true', decide_eq_false_iff_not, Bool.not_true, Bool.not_false, exists_eq_left', true_and, and_true, Option.some.injEq, reduceCtorEq, decide_true, decide_false, not_true_eq_false, not_false_eq_true, Nat.reduceLT, Bool.or_false, Bool.or_true, Bool.false_or, Bool.true_or, Bool.and_true, Bool.true_and, Bool.and_false, Bool.false_and, true_implies, mFld, mFldS, mFldO, mProp, mMeth, mMethX, mInW, mCallXD, exOb_w, exOb2_w, exObD_w, exObD2_w, exObj_w, exObj0_w, exObjC_w, oIsNTy_w, mLcnt, eqD_ii, mJoin, oTupOf_w, oIsBl_w, cCalm]))
      exact hk
end
end Mt
namespace Mt
open PySem PySem.Spec PyProof.Rows L2 L2H
section
variable {P : Program} {w : World} {K : PySem.W.Frag} {mg : Str → Option Value} {base : Heap} {f : Addr} {fd : FuncData} {A : Ad} {tk : Nat → Tok} {aBurstRule : Addr}
theorem ok_is_tuple (F : Fun K "is_tuple" "is_tuple" s_is_tuple f fd) (Tx : Txt K mg A tk aBurstRule)  :
    FnOk P w K mg base CX0 1 f fd ["value", "many"] (SpU A 2 c_is_tuple) := by
  refine F.ok sc_is_tuple (fun vs H Q E h => h.len) (fun cdv Ar outer s H vs Q E hr h => ?_)
  obtain ⟨st, P0, ds, k, XA, h1, h2, h3, hc, h5, h6⟩ := h
  refine ⟨_, (pss_one (ps_ret (pe_and (pe_cmpR op_isTyH (pe_typeOf (by rfl) Tx.m_type (pv 0)) (pe_bltn (v := .ty "tuple") (u := .type "tuple") (by rfl) Tx.m_tuple (by decide +kernel) rel_ty) (nomark _)) (pe_one (pe_cmpR op_eq (pe_callB call_lenH (by rfl) Tx.m_len (by decide +kernel) (pa_cons (pv 0) pa_nil)) (pv 1) (nomark _)))))), ?_⟩
  refine run0 (A := A) (ms := ?ms) (XA := XA) h1 h2 h5 ?r ?u
  case r => exact (rs_ret (re_andV (re_op ro_isTy (re_cb rcb_type (ra_cons re_var ra_nil)) re_ty) (re_op ro_eq (re_cb rcb_len (ra_cons re_var ra_nil)) re_var)))
  case u =>
    clear h1 h2 h5 h6 hr
    obtain ⟨v, n, a, rfl, hv, hk⟩ := hc
    (try simp only [mVar, mC, mOp, mUn, mNil, mCons, mTup, mLst, mCall, mCallX, mCallKX, mCB, mTest, mAnd, mOr, mNot, mYes, mAndV, mOrV, mNotV, mIf, mIsN, mNotN, mChain, mSeq, mNext, mBrk, mCnt, mRet, mRetN, mIfS, mDrop, mAsg, mOwn, mLstO, mListC, mLcO, oCatO, mShr, mApp, mPutI, mFrz, frz_w, mFor, mPar, mAug, mRaise, mTry, tryM, mKind, mLc, mList, mTupl, mListOwn, mRng1, mRng2, mEnum, mZip, mRev, mgName, mLenV, mIxV, mNoPart, mPart, mSl, wipeE, lcTurn, startE, oI_w, oB_w, oIC_w, oU_w, isB_w, oEq_w, oNe_w, exS_w, oIx_w, items_l, items_t, oLen_w, oAbs_w, oInt_i, oInt_b, oGcd_w, oMax_w, oMax3_w, oMin_w, oDivmod_w, oStr_w, oType_w, oIs1_w, oIs2_w, oIsTy_w, oCat_w, oIsN_w, oNotN_w, exD_w, exO_w, exD2_w, exO2_w, exL_w, exT_w, exI_w, ex1_w, ex1i_w, mSeqV_w, exX_w, seqOf_o, seqOf_d, mgCons_w, mgNil_w, mgTup_w, exPar_w, listC_w, putI_w, ixV_w, rng1_w, rng2_w, lcGo_n, lcGo_c, forGo_n, forGo_c, scEq_i, scEq_b, scEq_s, scEq_n, tyT, isNon, k_ii, k_ib, k_is, k_il, k_it, k_bi, k_bb, k_bs, k_bl, k_bt, k_ni, k_nb, k_ns, k_nl, k_nt, k_si, k_sb, k_ss, k_sl, k_st, k_li, k_lb, k_ls, k_ll, k_lt, k_ti, k_tb, k_ts, k_tl, k_tt, List.map_cons, List.map_nil, List.length_cons, List.length_nil, List.replicate, List.cons_append, List.nil_append, List.append_nil, List.getElem?_cons_zero, List.getElem?_cons_succ, List.set_cons_zero, List.set_cons_succ, Nat.sub_self, Nat.reduceAdd, Nat.reduceSub, List.replicate_zero, decide_eq_true_eq, Bool.true_eq_false, Bool.false_eq_true, if_true, if_false, reduceIte, Bool.not_eq_true', decide_eq_false_iff_not, Bool.not_true, Bool.not_false, exists_eq_left', true_and, and_true, Option.some.injEq, reduceCtorEq, decide_true, decide_false, not_true_eq_false, not_false_eq_true, Nat.reduceLT, Bool.or_false, Bool.or_true, Bool.false_or, Bool.true_or, Bool.and_true, Bool.true_and, Bool.and_false, Bool.false_and, true_implies, mFld, mFldS, mFldO, mProp, mMeth, mMethX, mInW, mCallXD, exOb_w, exOb2_w, exObD_w, exObD2_w, exObj_w, exObj0_w, exObjC_w, oIsNTy_w, mLcnt, eqD_ii, mJoin, oTupOf_w, oIsBl_w, cCalm, hv])
    cases v with
    | tup es =>
      cases hv
      simp only [tupB] at hk
      (try (try simp only [mVar, mC, mOp, mUn, mNil, mCons, mTup, mLst, mCall, mCallX, mCallKX, mCB, mTest, mAnd, mOr, mNot, mYes, mAndV, mOrV, mNotV, mIf, mIsN, mNotN, mChain, mSeq, mNext, mBrk, mCnt, mRet, mRetN, mIfS, mDrop, mAsg, mOwn, mLstO, mListC, mLcO, oCatO, mShr, mApp, mPutI, mFrz, frz_w, mFor, mPar, mAug, mRaise, mTry, tryM, mKind, mLc, mList, mTupl, mListOwn, mRng1, mRng2, mEnum, mZip, mRev, mgName, mLenV, mIxV, mNoPart, mPart, mSl, wipeE, lcTurn, startE, oI_w, oB_w, oIC_w, oU_w, isB_w, oEq_w, oNe_w, exS_w, oIx_w, items_l, items_t, oLen_w, oAbs_w, oInt_i, oInt_b, oGcd_w, oMax_w, oMax3_w, oMin_w, oDivmod_w, oStr_w, oType_w, oIs1_w, oIs2_w, oIsTy_w, oCat_w, oIsN_w, oNotN_w, exD_w, exO_w, exD2_w, exO2_w, exL_w, exT_w, exI_w, ex1_w, ex1i_w, mSeqV_w, exX_w, seqOf_o, seqOf_d, mgCons_w, mgNil_w, mgTup_w, exPar_w, listC_w, putI_w, ixV_w, rng1_w, rng2_w, lcGo_n, lcGo_c, forGo_n, forGo_c, scEq_i, scEq_b, scEq_s, scEq_n, tyT, isNon, k_ii, k_ib, k_is, k_il, k_it, k_bi, k_bb, k_bs, k_bl, k_bt, k_ni, k_nb, k_ns, k_nl, k_nt, k_si, k_sb, k_ss, k_sl, k_st, k_li, k_lb, k_ls, k_ll, k_lt, k_ti, k_tb, k_ts, k_tl, k_tt, List.map_cons, List.map_nil, List.length_cons, List.length_nil, List.replicate, List.cons_append, List.nil_append, List.append_nil, List.getElem?_cons_zero, List.getElem?_cons_succ, List.set_cons_zero, List.set_cons_succ, Nat.sub_self, Nat.reduceAdd, Nat.reduceSub, List.replicate_zero, decide_eq_true_eq, Bool.true_eq_false, Bool.false_eq_true, if_true, if_false, reduceIte, Bool.not_eq_true', decide_eq_false_iff_not, Bool.not_true, Bool.not_false, exists_eq_left', true_and, and_true, Option.some.injEq, reduceCtorEq, decide_true, decide_false, not_true_eq_false, not_false_eq_true, Nat.reduceLT, Bool.or_false, Bool.or_true, Bool.false_or, Bool.true_or, Bool.and_true, Bool.true_and, Bool.and_false, Bool.false_and, true_implies, mFld, mFldS, mFldO, mProp, mMeth, mMethX, mInW, mCallXD, exOb_w, exOb2_w, exObD_w, exObD2_w, exObj_w, exObj0_w, exObjC_w, oIsNTy_w, mLcnt, eqD_ii, mJoin, oTupOf_w, oIsBl_w, cCalm]))
      exact fun _ => hk
    | ty _ => cases hv
    | obj _ _ _ => cases hv
    | sto => cases hv
    | _ =>
      cases hv
      (try (try simp only [mVar, mC, mOp, mUn, mNil, mCons, mTup, mLst, mCall, mCallX, mCallKX, mCB, mTest, mAnd, mOr, mNot, mYes, mAndV, mOrV, mNotV, mIf, mIsN, mNotN, mChain, mSeq, mNext, mBrk, mCnt, mRet, mRetN, mIfS, mDrop, mAsg, mOwn, mLstO, mListC, mLcO, oCatO, mShr, mApp, mPutI, mFrz, frz_w, mFor, mPar, mAug, mRaise, mTry, tryM, mKind, mLc, mList, mTupl, mListOwn, mRng1, mRng2, mEnum, mZip, mRev, mgName, mLenV, mIxV, mNoPart, mPart, mSl, wipeE, lcTurn, startE, oI_w, oB_w, oIC_w, oU_w, isB_w, oEq_w, oNe_w, exS_w, oIx_w, items_l, items_t, oLen_w, oAbs_w, oInt_i, oInt_b, oGcd_w, oMax_w, oMax3_w, oMin_w, oDivmod_w, oStr_w, oType_w, oIs1_w, oIs2_w, oIsTy_w, oCat_w, oIsN_w, oNotN_w, exD_w, exO_w, exD2_w, exO2_w, exL_w, exT_w, exI_w, ex1_w, ex1i_w, mSeqV_w, exX_w, seqOf_o, seqOf_d, mgCons_w, mgNil_w, mgTup_w, exPar_w, listC_w, putI_w, ixV_w, rng1_w, rng2_w, lcGo_n, lcGo_c, forGo_n, forGo_c, scEq_i, scEq_b, scEq_s, scEq_n, tyT, isNon, k_ii, k_ib, k_is, k_il, k_it, k_bi, k_bb, k_bs, k_bl, k_bt, k_ni, k_nb, k_ns, k_nl, k_nt, k_si, k_sb, k_ss, k_sl, k_st, k_li, k_lb, k_ls, k_ll, k_lt, k_ti, k_tb, k_ts, k_tl, k_tt, List.map_cons, List.map_nil, List.length_cons, List.length_nil, List.replicate, List.cons_append, List.nil_append, List.append_nil, List.getElem?_cons_zero, List.getElem?_cons_succ, List.set_cons_zero, List.set_cons_succ, Nat.sub_self, Nat.reduceAdd, Nat.reduceSub, List.replicate_zero, decide_eq_true_eq, Bool.true_eq_false, Bool.false_eq_true, if_true, if_false, reduceIte, Bool.not_eq_true', decide_eq_false_iff_not, Bool.not_true, Bool.not_false, exists_eq_left', true_and, and_true, Option.some.injEq, reduceCtorEq, decide_true, decide_false, not_true_eq_false, not_false_eq_true, Nat.reduceLT, Bool.or_false, Bool.or_true, Bool.false_or, Bool.true_or, Bool.and_true, Bool.true_and, Bool.and_false, Bool.false_and, true_implies, mFld, mFldS, mFldO, mProp, mMeth, mMethX, mInW, mCallXD, exOb_w, exOb2_w, exObD_w, exObD2_w, exObj_w, exObj0_w, exObjC_w, oIsNTy_w, mLcnt, eqD_ii, mJoin, oTupOf_w, oIsBl_w, cCalm]))
      exact hk
end
end Mt
namespace Mt
open PySem PySem.Spec PyProof.Rows L2 L2H
section
variable {P : Program} {w : World} {K : PySem.W.Frag} {mg : Str → Option Value} {base : Heap} {f : Addr} {fd : FuncData} {A : Ad} {tk : Nat → Tok} {aBurstRule : Addr}
theorem ok_is_pattern (F : Fun K "is_pattern" "is_pattern" s_is_pattern f fd) (Tx : Txt K mg A tk aBurstRule) (C_is_list : Cal P w K mg base "is_list" 1 ["value", "least", "most"] (SpU A 3 c_is_list)) (C_is_row : Cal P w K mg base "is_row" 2 ["value", "size", "length"] (SpU A 3 c_is_row)) :
    FnOk P w K mg base CX0 3 f fd ["value", "least", "most"] (SpU A 3 c_is_pattern) := by
  refine F.ok sc_is_pattern (fun vs H Q E h => h.len) (fun cdv Ar outer s H vs Q E hr h => ?_)
  obtain ⟨st, P0, ds, k, XA, h1, h2, h3, hc, h5, h6⟩ := h
  refine ⟨_, (pss_one (ps_ret (pe_and (p_call C_is_list hr (pa_cons (pv 0) (pa_cons (pv 1) (pa_cons (pv 2) pa_nil))) (by omega)) (pe_one (p_call C_is_row hr (pa_cons (pv 0) (pa_cons pe_int (pa_cons (pe_callB call_lenH (by rfl) Tx.m_len (by decide +kernel) (pa_cons (pv 0) pa_nil)) pa_nil))) (by omega)))))), ?_⟩
  refine run0 (A := A) (ms := ?ms) (XA := XA) h1 h2 h5 ?r ?u
  case r => exact (rs_ret (re_andV (re_call (ra_cons re_var (ra_cons re_var (ra_cons re_var ra_nil)))) (re_call (ra_cons re_var (ra_cons re_int (ra_cons (re_cb rcb_len (ra_cons re_var ra_nil)) ra_nil))))))
  case u =>
    clear h1 h2 h5 h6 hr
    obtain ⟨v, n, a, b, rfl, hv, ht, hk⟩ := hc
    (try simp only [mVar, mC, mOp, mUn, mNil, mCons, mTup, mLst, mCall, mCallX, mCallKX, mCB, mTest, mAnd, mOr, mNot, mYes, mAndV, mOrV, mNotV, mIf, mIsN, mNotN, mChain, mSeq, mNext, mBrk, mCnt, mRet, mRetN, mIfS, mDrop, mAsg, mOwn, mLstO, mListC, mLcO, oCatO, mShr, mApp, mPutI, mFrz, frz_w, mFor, mPar, mAug, mRaise, mTry, tryM, mKind, mLc, mList, mTupl, mListOwn, mRng1, mRng2, mEnum, mZip, mRev, mgName, mLenV, mIxV, mNoPart, mPart, mSl, wipeE, lcTurn, startE, oI_w, oB_w, oIC_w, oU_w, isB_w, oEq_w, oNe_w, exS_w, oIx_w, items_l, items_t, oLen_w, oAbs_w, oInt_i, oInt_b, oGcd_w, oMax_w, oMax3_w, oMin_w, oDivmod_w, oStr_w, oType_w, oIs1_w, oIs2_w, oIsTy_w, oCat_w, oIsN_w, oNotN_w, exD_w, exO_w, exD2_w, exO2_w, exL_w, exT_w, exI_w, ex1_w, ex1i_w, mSeqV_w, exX_w, seqOf_o, seqOf_d, mgCons_w, mgNil_w, mgTup_w, exPar_w, listC_w, putI_w, ixV_w, rng1_w, rng2_w, lcGo_n, lcGo_c, forGo_n, forGo_c, scEq_i, scEq_b, scEq_s, scEq_n, tyT, isNon, k_ii, k_ib, k_is, k_il, k_it, k_bi, k_bb, k_bs, k_bl, k_bt, k_ni, k_nb, k_ns, k_nl, k_nt, k_si, k_sb, k_ss, k_sl, k_st, k_li, k_lb, k_ls, k_ll, k_lt, k_ti, k_tb, k_ts, k_tl, k_tt, List.map_cons, List.map_nil, List.length_cons, List.length_nil, List.replicate, List.cons_append, List.nil_append, List.append_nil, List.getElem?_cons_zero, List.getElem?_cons_succ, List.set_cons_zero, List.set_cons_succ, Nat.sub_self, Nat.reduceAdd, Nat.reduceSub, List.replicate_zero, decide_eq_true_eq, Bool.true_eq_false, Bool.false_eq_true, if_true, if_false, reduceIte, Bool.not_eq_true', decide_eq_false_iff_not, Bool.not_true, Bool.not_false, exists_eq_left', true_and, and_true, Option.some.injEq, reduceCtorEq, decide_true, decide_false, not_true_eq_false, not_false_eq_true, Nat.reduceLT, Bool.or_false, Bool.or_true, Bool.false_or, Bool.true_or, Bool.and_true, Bool.true_and, Bool.and_false, Bool.false_and, true_implies, mFld, mFldS, mFldO, mProp, mMeth, mMethX, mInW, mCallXD, exOb_w, exOb2_w, exObD_w, exObD2_w, exObj_w, exObj0_w, exObjC_w, oIsNTy_w, mLcnt, eqD_ii, mJoin, oTupOf_w, oIsBl_w, cCalm])
    refine ⟨v, n, a, b, rfl, hv, ?_⟩
    (try simp only [mVar, mC, mOp, mUn, mNil, mCons, mTup, mLst, mCall, mCallX, mCallKX, mCB, mTest, mAnd, mOr, mNot, mYes, mAndV, mOrV, mNotV, mIf, mIsN, mNotN, mChain, mSeq, mNext, mBrk, mCnt, mRet, mRetN, mIfS, mDrop, mAsg, mOwn, mLstO, mListC, mLcO, oCatO, mShr, mApp, mPutI, mFrz, frz_w, mFor, mPar, mAug, mRaise, mTry, tryM, mKind, mLc, mList, mTupl, mListOwn, mRng1, mRng2, mEnum, mZip, mRev, mgName, mLenV, mIxV, mNoPart, mPart, mSl, wipeE, lcTurn, startE, oI_w, oB_w, oIC_w, oU_w, isB_w, oEq_w, oNe_w, exS_w, oIx_w, items_l, items_t, oLen_w, oAbs_w, oInt_i, oInt_b, oGcd_w, oMax_w, oMax3_w, oMin_w, oDivmod_w, oStr_w, oType_w, oIs1_w, oIs2_w, oIsTy_w, oCat_w, oIsN_w, oNotN_w, exD_w, exO_w, exD2_w, exO2_w, exL_w, exT_w, exI_w, ex1_w, ex1i_w, mSeqV_w, exX_w, seqOf_o, seqOf_d, mgCons_w, mgNil_w, mgTup_w, exPar_w, listC_w, putI_w, ixV_w, rng1_w, rng2_w, lcGo_n, lcGo_c, forGo_n, forGo_c, scEq_i, scEq_b, scEq_s, scEq_n, tyT, isNon, k_ii, k_ib, k_is, k_il, k_it, k_bi, k_bb, k_bs, k_bl, k_bt, k_ni, k_nb, k_ns, k_nl, k_nt, k_si, k_sb, k_ss, k_sl, k_st, k_li, k_lb, k_ls, k_ll, k_lt, k_ti, k_tb, k_ts, k_tl, k_tt, List.map_cons, List.map_nil, List.length_cons, List.length_nil, List.replicate, List.cons_append, List.nil_append, List.append_nil, List.getElem?_cons_zero, List.getElem?_cons_succ, List.set_cons_zero, List.set_cons_succ, Nat.sub_self, Nat.reduceAdd, Nat.reduceSub, List.replicate_zero, decide_eq_true_eq, Bool.true_eq_false, Bool.false_eq_true, if_true, if_false, reduceIte, Bool.not_eq_true', decide_eq_false_iff_not, Bool.not_true, Bool.not_false, exists_eq_left', true_and, and_true, Option.some.injEq, reduceCtorEq, decide_true, decide_false, not_true_eq_false, not_false_eq_true, Nat.reduceLT, Bool.or_false, Bool.or_true, Bool.false_or, Bool.true_or, Bool.and_true, Bool.true_and, Bool.and_false, Bool.false_and, true_implies, mFld, mFldS, mFldO, mProp, mMeth, mMethX, mInW, mCallXD, exOb_w, exOb2_w, exObD_w, exObD2_w, exObj_w, exObj0_w, exObjC_w, oIsNTy_w, mLcnt, eqD_ii, mJoin, oTupOf_w, oIsBl_w, cCalm])
    cases v with
    | lst es =>
      simp only [listB, patB] at hk ⊢
      refine ite2 (fun y => ?_) (fun y => ?_)
      · rw [y, Bool.true_and] at hk
        refine ⟨es, rfl, fun _ => ⟨.lst es, n, 2, _, rfl, hv, ht, ?_⟩⟩
        simp only [rowB, decide_true, Bool.true_and]
        exact hk
      · have y := Bool.eq_false_iff.mpr y
        rw [y, Bool.false_and] at hk
        exact hk
    | _ =>
      simp only [listB, patB] at hk ⊢
      exact hk
end
end Mt
namespace Mt
open PySem PySem.Spec PyProof.Rows L2 L2H
section
variable {P : Program} {w : World} {K : PySem.W.Frag} {mg : Str → Option Value} {base : Heap} {f : Addr} {fd : FuncData} {A : Ad} {tk : Nat → Tok} {aBurstRule : Addr}
theorem ok_letters_due (F : Fun K "letters_due" "letters_due" s_letters_due f fd) (Tx : Txt K mg A tk aBurstRule)  :
    FnOk P w K mg base CX0 1 f fd ["letters", "delay", "beats"] (SpU A 3 c_letters_due) := by
  refine F.ok sc_letters_due (fun vs H Q E h => h.len) (fun cdv Ar outer s H vs Q E hr h => ?_)
  obtain ⟨st, P0, ds, k, XA, h1, h2, h3, hc, h5, h6⟩ := h
  refine ⟨_, (pss_one (ps_ret (pe_op op_mul (pv 0) (pe_callB (call_max2H rfl) (by rfl) Tx.m_max (by decide +kernel) (pa_cons pe_int (pa_cons (pe_op op_sub (pv 2) (pv 1)) pa_nil)))))), ?_⟩
  refine run0 (A := A) (ms := ?ms) (XA := XA) h1 h2 h5 ?r ?u
  case r => exact (rs_ret (re_op ro_intC re_var (re_cb rcb_max2 (ra_cons re_int (ra_cons (re_op ro_int re_var re_var) ra_nil)))))
  case u =>
    clear h1 h2 h5 h6 hr
    obtain ⟨l, d, n, rfl, h0, h1, hk⟩ := hc
    (try simp only [mVar, mC, mOp, mUn, mNil, mCons, mTup, mLst, mCall, mCallX, mCallKX, mCB, mTest, mAnd, mOr, mNot, mYes, mAndV, mOrV, mNotV, mIf, mIsN, mNotN, mChain, mSeq, mNext, mBrk, mCnt, mRet, mRetN, mIfS, mDrop, mAsg, mOwn, mLstO, mListC, mLcO, oCatO, mShr, mApp, mPutI, mFrz, frz_w, mFor, mPar, mAug, mRaise, mTry, tryM, mKind, mLc, mList, mTupl, mListOwn, mRng1, mRng2, mEnum, mZip, mRev, mgName, mLenV, mIxV, mNoPart, mPart, mSl, wipeE, lcTurn, startE, oI_w, oB_w, oIC_w, oU_w, isB_w, oEq_w, oNe_w, exS_w, oIx_w, items_l, items_t, oLen_w, oAbs_w, oInt_i, oInt_b, oGcd_w, oMax_w, oMax3_w, oMin_w, oDivmod_w, oStr_w, oType_w, oIs1_w, oIs2_w, oIsTy_w, oCat_w, oIsN_w, oNotN_w, exD_w, exO_w, exD2_w, exO2_w, exL_w, exT_w, exI_w, ex1_w, ex1i_w, mSeqV_w, exX_w, seqOf_o, seqOf_d, mgCons_w, mgNil_w, mgTup_w, exPar_w, listC_w, putI_w, ixV_w, rng1_w, rng2_w, lcGo_n, lcGo_c, forGo_n, forGo_c, scEq_i, scEq_b, scEq_s, scEq_n, tyT, isNon, k_ii, k_ib, k_is, k_il, k_it, k_bi, k_bb, k_bs, k_bl, k_bt, k_ni, k_nb, k_ns, k_nl, k_nt, k_si, k_sb, k_ss, k_sl, k_st, k_li, k_lb, k_ls, k_ll, k_lt, k_ti, k_tb, k_ts, k_tl, k_tt, List.map_cons, List.map_nil, List.length_cons, List.length_nil, List.replicate, List.cons_append, List.nil_append, List.append_nil, List.getElem?_cons_zero, List.getElem?_cons_succ, List.set_cons_zero, List.set_cons_succ, Nat.sub_self, Nat.reduceAdd, Nat.reduceSub, List.replicate_zero, decide_eq_true_eq, Bool.true_eq_false, Bool.false_eq_true, if_true, if_false, reduceIte, Bool.not_eq_true', decide_eq_false_iff_not, Bool.not_true, Bool.not_false, exists_eq_left', true_and, and_true, Option.some.injEq, reduceCtorEq, decide_true, decide_false, not_true_eq_false, not_false_eq_true, Nat.reduceLT, Bool.or_false, Bool.or_true, Bool.false_or, Bool.true_or, Bool.and_true, Bool.true_and, Bool.and_false, Bool.false_and, true_implies, mFld, mFldS, mFldO, mProp, mMeth, mMethX, mInW, mCallXD, exOb_w, exOb2_w, exObD_w, exObD2_w, exObj_w, exObj0_w, exObjC_w, oIsNTy_w, mLcnt, eqD_ii, mJoin, oTupOf_w, oIsBl_w, cCalm])
    exact ⟨Or.inl ⟨by omega, by omega⟩, hk⟩
end
end Mt
namespace Mt
open PySem PySem.Spec PyProof.Rows L2 L2H
section
variable {P : Program} {w : World} {K : PySem.W.Frag} {mg : Str → Option Value} {base : Heap} {f : Addr} {fd : FuncData} {A : Ad} {tk : Nat → Tok} {aBurstRule : Addr}
theorem ok_BurstRule___init__ (F : Fun K "__init__" "BurstRule.__init__" s_BurstRule___init__ f fd) (Tx : Txt K mg A tk aBurstRule) (C_check_number : CalX P w K mg base "check_number" 3 ["value", "low", "high", "argument"] (SpU A 4 c_check_number)) :
    FnOk P w K mg base (CN P w) 4 f fd ["self", "burst", "gap"] (SpI A aBurstRule 2 (c_BurstRule___init__ aBurstRule)) := by
  refine okN F sc_BurstRule___init__ (fun vs H Q E h => h.len) (fun cdv Ar outer s H vs Q E hr h => ?_)
  refine ⟨_, (pss_cons (ps_fld (pv 0) (p_callX C_check_number hr (L2N.takes_of rfl rfl rfl rfl) (pa_cons (pv 1) (pa_cons pe_int (pa_cons (pe_glob (v := .int 8) rfl Tx.g_MOST_BURST_rules ⟨_, rfl⟩) (pa_cons pe_str pa_nil)))) (by omega)) rfl)
      (pss_one (ps_fld (pv 0) (p_callX C_check_number hr (L2N.takes_of rfl rfl rfl rfl) (pa_cons (pv 2) (pa_cons pe_int (pa_cons (pe_glob (v := .int 8) rfl Tx.g_MOST_GAP ⟨_, rfl⟩) (pa_cons pe_str pa_nil)))) (by omega)) rfl))), ?_⟩
  refine runI (ms := ?ms) h (by decide) (fun _ _ _ _ h => h) ?r ?u
  case r => exact (rs_seq (rs_fld Tx.cl_BurstRule Tx.na_BurstRule__burst (re_callX (ra_cons re_var (ra_cons re_int (ra_cons re_int (ra_cons re_str ra_nil))))))
      (rs_fld Tx.cl_BurstRule Tx.na_BurstRule__gap (re_callX (ra_cons re_var (ra_cons re_int (ra_cons re_int (ra_cons re_str ra_nil)))))))
  case u =>
    clear h hr
    intro x ds k XA hc hn
    obtain ⟨b, g, nb, ng, rfl, eb, eg, h1, h2⟩ := hc
    (try simp only [mVar, mC, mOp, mUn, mNil, mCons, mTup, mLst, mCall, mCallX, mCallKX, mCB, mTest, mAnd, mOr, mNot, mYes, mAndV, mOrV, mNotV, mIf, mIsN, mNotN, mChain, mSeq, mNext, mBrk, mCnt, mRet, mRetN, mIfS, mDrop, mAsg, mOwn, mLstO, mListC, mLcO, oCatO, mShr, mApp, mPutI, mFrz, frz_w, mFor, mPar, mAug, mRaise, mTry, tryM, mKind, mLc, mList, mTupl, mListOwn, mRng1, mRng2, mEnum, mZip, mRev, mgName, mLenV, mIxV, mNoPart, mPart, mSl, wipeE, lcTurn, startE, oI_w, oB_w, oIC_w, oU_w, isB_w, oEq_w, oNe_w, exS_w, oIx_w, items_l, items_t, oLen_w, oAbs_w, oInt_i, oInt_b, oGcd_w, oMax_w, oMax3_w, oMin_w, oDivmod_w, oStr_w, oType_w, oIs1_w, oIs2_w, oIsTy_w, oCat_w, oIsN_w, oNotN_w, exD_w, exO_w, exD2_w, exO2_w, exL_w, exT_w, exI_w, ex1_w, ex1i_w, mSeqV_w, exX_w, seqOf_o, seqOf_d, mgCons_w, mgNil_w, mgTup_w, exPar_w, listC_w, putI_w, ixV_w, rng1_w, rng2_w, lcGo_n, lcGo_c, forGo_n, forGo_c, scEq_i, scEq_b, scEq_s, scEq_n, tyT, isNon, k_ii, k_ib, k_is, k_il, k_it, k_bi, k_bb, k_bs, k_bl, k_bt, k_ni, k_nb, k_ns, k_nl, k_nt, k_si, k_sb, k_ss, k_sl, k_st, k_li, k_lb, k_ls, k_ll, k_lt, k_ti, k_tb, k_ts, k_tl, k_tt, List.map_cons, List.map_nil, List.length_cons, List.length_nil, List.replicate, List.cons_append, List.nil_append, List.append_nil, List.getElem?_cons_zero, List.getElem?_cons_succ, List.set_cons_zero, List.set_cons_succ, Nat.sub_self, Nat.reduceAdd, Nat.reduceSub, List.replicate_zero, decide_eq_true_eq, Bool.true_eq_false, Bool.false_eq_true, if_true, if_false, reduceIte, Bool.not_eq_true', decide_eq_false_iff_not, Bool.not_true, Bool.not_false, exists_eq_left', true_and, and_true, Option.some.injEq, reduceCtorEq, decide_true, decide_false, not_true_eq_false, not_false_eq_true, Nat.reduceLT, Bool.or_false, Bool.or_true, Bool.false_or, Bool.true_or, Bool.and_true, Bool.true_and, Bool.and_false, Bool.false_and, true_implies, mFld, mFldS, mFldO, mProp, mMeth, mMethX, mInW, mCallXD, exOb_w, exOb2_w, exObD_w, exObD2_w, exObj_w, exObj0_w, exObjC_w, oIsNTy_w, mLcnt, eqD_ii, mJoin, oTupOf_w, oIsBl_w, cCalm])
    refine ⟨b, 0, 8, nb, _, rfl, eb, fun hb => ?_, h1⟩
    obtain ⟨bi, rfl, b0, b1⟩ := wholeT_true hb
    obtain ⟨h3, h4⟩ := h2 bi rfl b0 b1
    refine ⟨by decide, g, 1, 8, ng, _, rfl, eg, fun hg => ?_, h3⟩
    obtain ⟨gi, rfl, g0, g1⟩ := wholeT_true hg
    exact ⟨by decide, h4 gi rfl g0 g1⟩
end
end Mt
namespace Mt
open PySem PySem.Spec PyProof.Rows L2 L2H
section
variable {P : Program} {w : World} {K : PySem.W.Frag} {mg : Str → Option Value} {base : Heap} {f : Addr} {fd : FuncData} {A : Ad} {tk : Nat → Tok} {aBurstRule : Addr}
theorem ok_BurstRule_after (F : Fun K "after" "BurstRule.after" s_BurstRule_after f fd) (Tx : Txt K mg A tk aBurstRule) (C_check_number : CalX P w K mg base "check_number" 3 ["value", "low", "high", "argument"] (SpU A 4 c_check_number)) :
    FnOk P w K mg base (CN P w) 4 f fd ["self", "state", "lost"] (SpU A 3 (c_BurstRule_after aBurstRule)) := by
  refine okN F sc_BurstRule_after (fun vs H Q E h => h.len) (fun cdv Ar outer s H vs Q E hr h => ?_)
  obtain ⟨st, P0, ds, k, XA, h1, h2, h3, hc, h5, h6⟩ := h
  refine ⟨_, (pss_cons (ps_expr (p_callX C_check_number hr (L2N.takes_of rfl rfl rfl rfl) (pa_cons (pv 2) (pa_cons pe_int (pa_cons pe_int (pa_cons pe_str pa_nil)))) (by omega)))
      (pss_cons (ps_if (pt_cmpR op_eq (pv 2) pe_int (nomark _)) (pss_one (ps_ret (pe_ifExp (pt_cmpR op_lt (pv 1) (pe_fld (pv 0) rfl) (nomark _)) (pe_op op_add (pv 1) pe_int) pe_non))) pss_nil)
      (pss_cons (ps_if (pt_cmpR op_eq (pv 1) pe_int (nomark _)) (pss_one (ps_ret pe_int)) pss_nil)
      (pss_cons (ps_set (i := 3) sc_BurstRule_after.nd rfl (.inl rfl) (pe_op op_add (pe_callB (call_max2H rfl) (by rfl) Tx.m_max (by decide +kernel) (pa_cons (pe_op op_sub (pv 1) (pe_fld (pv 0) rfl)) (pa_cons pe_int pa_nil))) pe_int))
      (pss_one (ps_ret (pe_ifExp (pt_cmpR op_lt (pv 3) (pe_fld (pv 0) rfl) (nomark _)) (pe_op op_add (pe_fld (pv 0) rfl) (pv 3)) pe_int))))))), ?_⟩
  refine runX (ms := ?ms) h1 h2 h5 h6 (fun _ _ _ _ h => h) ?r ?u
  case r => exact (rs_seq (rs_drop (re_callX (ra_cons re_var (ra_cons re_int (ra_cons re_int (ra_cons re_str ra_nil))))))
      (rs_seq (rs_if (rt_test (re_op ro_eq re_var re_int)) (rs_ret (re_if (rt_test (re_op ro_bool re_var (re_fld Tx.cl_BurstRule Tx.na_BurstRule__burst re_var))) (re_op ro_int re_var re_int) re_non)) rs_next)
      (rs_seq (rs_if (rt_test (re_op ro_eq re_var re_int)) (rs_ret re_int) rs_next)
      (rs_seq (rs_asg (re_op ro_int (re_cb rcb_max2 (ra_cons (re_op ro_int re_var (re_fld Tx.cl_BurstRule Tx.na_BurstRule__burst re_var)) (ra_cons re_int ra_nil))) re_int) rg_name)
      (rs_ret (re_if (rt_test (re_op ro_bool re_var (re_fld Tx.cl_BurstRule Tx.na_BurstRule__gap re_var))) (re_op ro_int (re_fld Tx.cl_BurstRule Tx.na_BurstRule__burst re_var) re_var) re_int))))))
  case u =>
    clear h1 h2 h5 h6 hr
    obtain ⟨b, g, s, v, n, rfl, hv, hx, hk⟩ := hc
    (try simp only [mVar, mC, mOp, mUn, mNil, mCons, mTup, mLst, mCall, mCallX, mCallKX, mCB, mTest, mAnd, mOr, mNot, mYes, mAndV, mOrV, mNotV, mIf, mIsN, mNotN, mChain, mSeq, mNext, mBrk, mCnt, mRet, mRetN, mIfS, mDrop, mAsg, mOwn, mLstO, mListC, mLcO, oCatO, mShr, mApp, mPutI, mFrz, frz_w, mFor, mPar, mAug, mRaise, mTry, tryM, mKind, mLc, mList, mTupl, mListOwn, mRng1, mRng2, mEnum, mZip, mRev, mgName, mLenV, mIxV, mNoPart, mPart, mSl, wipeE, lcTurn, startE, oI_w, oB_w, oIC_w, oU_w, isB_w, oEq_w, oNe_w, exS_w, oIx_w, items_l, items_t, oLen_w, oAbs_w, oInt_i, oInt_b, oGcd_w, oMax_w, oMax3_w, oMin_w, oDivmod_w, oStr_w, oType_w, oIs1_w, oIs2_w, oIsTy_w, oCat_w, oIsN_w, oNotN_w, exD_w, exO_w, exD2_w, exO2_w, exL_w, exT_w, exI_w, ex1_w, ex1i_w, mSeqV_w, exX_w, seqOf_o, seqOf_d, mgCons_w, mgNil_w, mgTup_w, exPar_w, listC_w, putI_w, ixV_w, rng1_w, rng2_w, lcGo_n, lcGo_c, forGo_n, forGo_c, scEq_i, scEq_b, scEq_s, scEq_n, tyT, isNon, k_ii, k_ib, k_is, k_il, k_it, k_bi, k_bb, k_bs, k_bl, k_bt, k_ni, k_nb, k_ns, k_nl, k_nt, k_si, k_sb, k_ss, k_sl, k_st, k_li, k_lb, k_ls, k_ll, k_lt, k_ti, k_tb, k_ts, k_tl, k_tt, List.map_cons, List.map_nil, List.length_cons, List.length_nil, List.replicate, List.cons_append, List.nil_append, List.append_nil, List.getElem?_cons_zero, List.getElem?_cons_succ, List.set_cons_zero, List.set_cons_succ, Nat.sub_self, Nat.reduceAdd, Nat.reduceSub, List.replicate_zero, decide_eq_true_eq, Bool.true_eq_false, Bool.false_eq_true, if_true, if_false, reduceIte, Bool.not_eq_true', decide_eq_false_iff_not, Bool.not_true, Bool.not_false, exists_eq_left', true_and, and_true, Option.some.injEq, reduceCtorEq, decide_true, decide_false, not_true_eq_false, not_false_eq_true, Nat.reduceLT, Bool.or_false, Bool.or_true, Bool.false_or, Bool.true_or, Bool.and_true, Bool.true_and, Bool.and_false, Bool.false_and, true_implies, mFld, mFldS, mFldO, mProp, mMeth, mMethX, mInW, mCallXD, exOb_w, exOb2_w, exObD_w, exObD2_w, exObj_w, exObj0_w, exObjC_w, oIsNTy_w, mLcnt, eqD_ii, mJoin, oTupOf_w, oIsBl_w, cCalm, ruleT])
    refine ⟨v, 0, 1, n, _, rfl, hv, fun hf => ?_, hx⟩
    obtain ⟨f, rfl⟩ := flag_of hf
    have hk := hk f rfl
    unfold brAfter at hk
    cases f with
    | true =>
      rw [if_pos rfl] at hk
      refine ⟨true, rfl, ?_⟩
      rw [if_pos rfl]
      (try simp only [mVar, mC, mOp, mUn, mNil, mCons, mTup, mLst, mCall, mCallX, mCallKX, mCB, mTest, mAnd, mOr, mNot, mYes, mAndV, mOrV, mNotV, mIf, mIsN, mNotN, mChain, mSeq, mNext, mBrk, mCnt, mRet, mRetN, mIfS, mDrop, mAsg, mOwn, mLstO, mListC, mLcO, oCatO, mShr, mApp, mPutI, mFrz, frz_w, mFor, mPar, mAug, mRaise, mTry, tryM, mKind, mLc, mList, mTupl, mListOwn, mRng1, mRng2, mEnum, mZip, mRev, mgName, mLenV, mIxV, mNoPart, mPart, mSl, wipeE, lcTurn, startE, oI_w, oB_w, oIC_w, oU_w, isB_w, oEq_w, oNe_w, exS_w, oIx_w, items_l, items_t, oLen_w, oAbs_w, oInt_i, oInt_b, oGcd_w, oMax_w, oMax3_w, oMin_w, oDivmod_w, oStr_w, oType_w, oIs1_w, oIs2_w, oIsTy_w, oCat_w, oIsN_w, oNotN_w, exD_w, exO_w, exD2_w, exO2_w, exL_w, exT_w, exI_w, ex1_w, ex1i_w, mSeqV_w, exX_w, seqOf_o, seqOf_d, mgCons_w, mgNil_w, mgTup_w, exPar_w, listC_w, putI_w, ixV_w, rng1_w, rng2_w, lcGo_n, lcGo_c, forGo_n, forGo_c, scEq_i, scEq_b, scEq_s, scEq_n, tyT, isNon, k_ii, k_ib, k_is, k_il, k_it, k_bi, k_bb, k_bs, k_bl, k_bt, k_ni, k_nb, k_ns, k_nl, k_nt, k_si, k_sb, k_ss, k_sl, k_st, k_li, k_lb, k_ls, k_ll, k_lt, k_ti, k_tb, k_ts, k_tl, k_tt, List.map_cons, List.map_nil, List.length_cons, List.length_nil, List.replicate, List.cons_append, List.nil_append, List.append_nil, List.getElem?_cons_zero, List.getElem?_cons_succ, List.set_cons_zero, List.set_cons_succ, Nat.sub_self, Nat.reduceAdd, Nat.reduceSub, List.replicate_zero, decide_eq_true_eq, Bool.true_eq_false, Bool.false_eq_true, if_true, if_false, reduceIte, Bool.not_eq_true', decide_eq_false_iff_not, Bool.not_true, Bool.not_false, exists_eq_left', true_and, and_true, Option.some.injEq, reduceCtorEq, decide_true, decide_false, not_true_eq_false, not_false_eq_true, Nat.reduceLT, Bool.or_false, Bool.or_true, Bool.false_or, Bool.true_or, Bool.and_true, Bool.true_and, Bool.and_false, Bool.false_and, true_implies, mFld, mFldS, mFldO, mProp, mMeth, mMethX, mInW, mCallXD, exOb_w, exOb2_w, exObD_w, exObD2_w, exObj_w, exObj0_w, exObjC_w, oIsNTy_w, mLcnt, eqD_ii, mJoin, oTupOf_w, oIsBl_w, cCalm, lkB_burst, lkB_gap])
      refine ite2 (fun z => ?_) (fun z => ?_)
      · rw [if_pos z] at hk
        exact hk
      · rw [if_neg z] at hk
        exact hk
    | false =>
      rw [if_neg (by decide)] at hk
      refine ⟨false, rfl, ?_⟩
      rw [if_neg (by decide)]
      refine ite2 (fun z => ?_) (fun z => ?_)
      · rw [if_pos z] at hk
        exact hk
      · rw [if_neg z] at hk
        (try simp only [mVar, mC, mOp, mUn, mNil, mCons, mTup, mLst, mCall, mCallX, mCallKX, mCB, mTest, mAnd, mOr, mNot, mYes, mAndV, mOrV, mNotV, mIf, mIsN, mNotN, mChain, mSeq, mNext, mBrk, mCnt, mRet, mRetN, mIfS, mDrop, mAsg, mOwn, mLstO, mListC, mLcO, oCatO, mShr, mApp, mPutI, mFrz, frz_w, mFor, mPar, mAug, mRaise, mTry, tryM, mKind, mLc, mList, mTupl, mListOwn, mRng1, mRng2, mEnum, mZip, mRev, mgName, mLenV, mIxV, mNoPart, mPart, mSl, wipeE, lcTurn, startE, oI_w, oB_w, oIC_w, oU_w, isB_w, oEq_w, oNe_w, exS_w, oIx_w, items_l, items_t, oLen_w, oAbs_w, oInt_i, oInt_b, oGcd_w, oMax_w, oMax3_w, oMin_w, oDivmod_w, oStr_w, oType_w, oIs1_w, oIs2_w, oIsTy_w, oCat_w, oIsN_w, oNotN_w, exD_w, exO_w, exD2_w, exO2_w, exL_w, exT_w, exI_w, ex1_w, ex1i_w, mSeqV_w, exX_w, seqOf_o, seqOf_d, mgCons_w, mgNil_w, mgTup_w, exPar_w, listC_w, putI_w, ixV_w, rng1_w, rng2_w, lcGo_n, lcGo_c, forGo_n, forGo_c, scEq_i, scEq_b, scEq_s, scEq_n, tyT, isNon, k_ii, k_ib, k_is, k_il, k_it, k_bi, k_bb, k_bs, k_bl, k_bt, k_ni, k_nb, k_ns, k_nl, k_nt, k_si, k_sb, k_ss, k_sl, k_st, k_li, k_lb, k_ls, k_ll, k_lt, k_ti, k_tb, k_ts, k_tl, k_tt, List.map_cons, List.map_nil, List.length_cons, List.length_nil, List.replicate, List.cons_append, List.nil_append, List.append_nil, List.getElem?_cons_zero, List.getElem?_cons_succ, List.set_cons_zero, List.set_cons_succ, Nat.sub_self, Nat.reduceAdd, Nat.reduceSub, List.replicate_zero, decide_eq_true_eq, Bool.true_eq_false, Bool.false_eq_true, if_true, if_false, reduceIte, Bool.not_eq_true', decide_eq_false_iff_not, Bool.not_true, Bool.not_false, exists_eq_left', true_and, and_true, Option.some.injEq, reduceCtorEq, decide_true, decide_false, not_true_eq_false, not_false_eq_true, Nat.reduceLT, Bool.or_false, Bool.or_true, Bool.false_or, Bool.true_or, Bool.and_true, Bool.true_and, Bool.and_false, Bool.false_and, true_implies, mFld, mFldS, mFldO, mProp, mMeth, mMethX, mInW, mCallXD, exOb_w, exOb2_w, exObD_w, exObD2_w, exObj_w, exObj0_w, exObjC_w, oIsNTy_w, mLcnt, eqD_ii, mJoin, oTupOf_w, oIsBl_w, cCalm, lkB_burst, lkB_gap])
        refine ite2 (fun y => ?_) (fun y => ?_)
        · rw [if_pos y] at hk
          exact hk
        · rw [if_neg y] at hk
          exact hk
end
end Mt
namespace Mt
open PySem PySem.Spec PyProof.Rows L2 L2H
section
variable {P : Program} {w : World} {K : PySem.W.Frag} {mg : Str → Option Value} {base : Heap} {f : Addr} {fd : FuncData} {A : Ad} {tk : Nat → Tok} {aBurstRule : Addr}
theorem ok_BurstRule_first_state (F : Fun K "first_state" "BurstRule.first_state" s_BurstRule_first_state f fd) (Tx : Txt K mg A tk aBurstRule)  :
    FnOk P w K mg base (CN P w) 1 f fd ["self"] (SpU A 1 (c_BurstRule_first_state aBurstRule)) := by
  refine okN F sc_BurstRule_first_state (fun vs H Q E h => h.len) (fun cdv Ar outer s H vs Q E hr h => ?_)
  obtain ⟨st, P0, ds, k, XA, h1, h2, h3, hc, h5, h6⟩ := h
  refine ⟨_, (pss_one (ps_ret pe_int)), ?_⟩
  refine runX (ms := ?ms) h1 h2 h5 h6 (fun _ _ _ _ h => h) ?r ?u
  case r => exact (rs_ret re_int)
  case u =>
    clear h1 h2 h5 h6 hr
    obtain ⟨b, g, rfl, hk⟩ := hc
    (try simp only [mVar, mC, mOp, mUn, mNil, mCons, mTup, mLst, mCall, mCallX, mCallKX, mCB, mTest, mAnd, mOr, mNot, mYes, mAndV, mOrV, mNotV, mIf, mIsN, mNotN, mChain, mSeq, mNext, mBrk, mCnt, mRet, mRetN, mIfS, mDrop, mAsg, mOwn, mLstO, mListC, mLcO, oCatO, mShr, mApp, mPutI, mFrz, frz_w, mFor, mPar, mAug, mRaise, mTry, tryM, mKind, mLc, mList, mTupl, mListOwn, mRng1, mRng2, mEnum, mZip, mRev, mgName, mLenV, mIxV, mNoPart, mPart, mSl, wipeE, lcTurn, startE, oI_w, oB_w, oIC_w, oU_w, isB_w, oEq_w, oNe_w, exS_w, oIx_w, items_l, items_t, oLen_w, oAbs_w, oInt_i, oInt_b, oGcd_w, oMax_w, oMax3_w, oMin_w, oDivmod_w, oStr_w, oType_w, oIs1_w, oIs2_w, oIsTy_w, oCat_w, oIsN_w, oNotN_w, exD_w, exO_w, exD2_w, exO2_w, exL_w, exT_w, exI_w, ex1_w, ex1i_w, mSeqV_w, exX_w, seqOf_o, seqOf_d, mgCons_w, mgNil_w, mgTup_w, exPar_w, listC_w, putI_w, ixV_w, rng1_w, rng2_w, lcGo_n, lcGo_c, forGo_n, forGo_c, scEq_i, scEq_b, scEq_s, scEq_n, tyT, isNon, k_ii, k_ib, k_is, k_il, k_it, k_bi, k_bb, k_bs, k_bl, k_bt, k_ni, k_nb, k_ns, k_nl, k_nt, k_si, k_sb, k_ss, k_sl, k_st, k_li, k_lb, k_ls, k_ll, k_lt, k_ti, k_tb, k_ts, k_tl, k_tt, List.map_cons, List.map_nil, List.length_cons, List.length_nil, List.replicate, List.cons_append, List.nil_append, List.append_nil, List.getElem?_cons_zero, List.getElem?_cons_succ, List.set_cons_zero, List.set_cons_succ, Nat.sub_self, Nat.reduceAdd, Nat.reduceSub, List.replicate_zero, decide_eq_true_eq, Bool.true_eq_false, Bool.false_eq_true, if_true, if_false, reduceIte, Bool.not_eq_true', decide_eq_false_iff_not, Bool.not_true, Bool.not_false, exists_eq_left', true_and, and_true, Option.some.injEq, reduceCtorEq, decide_true, decide_false, not_true_eq_false, not_false_eq_true, Nat.reduceLT, Bool.or_false, Bool.or_true, Bool.false_or, Bool.true_or, Bool.and_true, Bool.true_and, Bool.and_false, Bool.false_and, true_implies, mFld, mFldS, mFldO, mProp, mMeth, mMethX, mInW, mCallXD, exOb_w, exOb2_w, exObD_w, exObD2_w, exObj_w, exObj0_w, exObjC_w, oIsNTy_w, mLcnt, eqD_ii, mJoin, oTupOf_w, oIsBl_w, cCalm])
    exact hk
end
end Mt
namespace Mt
open PySem PySem.Spec PyProof.Rows L2 L2H
section
variable {P : Program} {w : World} {K : PySem.W.Frag} {mg : Str → Option Value} {base : Heap} {f : Addr} {fd : FuncData} {A : Ad} {tk : Nat → Tok} {aBurstRule : Addr}
theorem ok_BurstRule_first_break (F : Fun K "first_break" "BurstRule.first_break" s_BurstRule_first_break f fd) (Tx : Txt K mg A tk aBurstRule) (C_BurstRule_after : CalO P w K mg base aBurstRule "after" 4 ["self", "state", "lost"] (SpU A 3 (c_BurstRule_after aBurstRule))) (C_BurstRule_first_state : CalO P w K mg base aBurstRule "first_state" 1 ["self"] (SpU A 1 (c_BurstRule_first_state aBurstRule))) (CD_check_pattern : CalXD P w K mg base "check_pattern" 5 ["pattern", "most", "argument", "exact"] (SpU A 4 c_check_pattern) [.bl false]) :
    FnOk P w K mg base (CN P w) 6 f fd ["self", "pattern"] (SpU A 2 (c_BurstRule_first_break aBurstRule)) := by
  refine okN F sc_BurstRule_first_break (fun vs H Q E h => h.len) (fun cdv Ar outer s H vs Q E hr h => ?_)
  obtain ⟨st, P0, ds, k, XA, h1, h2, h3, hc, h5, h6⟩ := h
  refine ⟨_, (pss_cons (ps_set (i := 2) sc_BurstRule_first_break.nd rfl (.inl rfl) (p_meth0 C_BurstRule_first_state hr (pv 0) (by omega)))
      (pss_cons (ps_for (passes_of rfl) rfl (pi_enum (by rfl) Tx.m_enumerate (pa_cons (p_callXD CD_check_pattern hr (L2N.takes_of rfl rfl rfl rfl) (pa_cons (pv 1) (pa_cons (pe_glob (v := .int 800) rfl Tx.g_MOST_BEATS_rules ⟨_, rfl⟩) (pa_cons pe_str pa_nil))) (by omega)) pa_nil)) (pg_tup rfl (pgs_cons (pg_name (i := 3) sc_BurstRule_first_break.nd rfl (.inl rfl)) (pgs_cons (pg_name (i := 4) sc_BurstRule_first_break.nd rfl (.inl rfl)) pgs_nil))) (pss_cons (ps_set (i := 2) sc_BurstRule_first_break.nd rfl (.inl rfl) (p_methX C_BurstRule_after hr (L2N.takes_of rfl rfl rfl rfl) (pv 0) (pa_cons (pv 2) (pa_cons (pv 4) pa_nil)) (by omega)))
      (pss_one (ps_if (pt_cmpR op_isNH (pv 2) pe_non (nomark _)) (pss_one (ps_ret (pv 3))) pss_nil))))
      (pss_one (ps_ret pe_non)))), ?_⟩
  refine runX (ms := ?ms) h1 h2 h5 h6 (fun _ _ _ _ h => h) ?r ?u
  case r => exact (rs_seq (rs_asg (re_meth re_var ra_nil) rg_name)
      (rs_seq (rs_for (ri_enum (ra_cons (re_callXD rd_false (ra_cons re_var (ra_cons re_int (ra_cons re_str ra_nil)))) ra_nil)) (rg_tup (n := 2) (rgs_cons rg_name (rgs_cons rg_name rgs_nil))) (rs_seq (rs_asg (re_methX re_var (ra_cons re_var (ra_cons re_var ra_nil))) rg_name)
      (rs_if (rt_test (re_op ro_isN re_var re_non)) (rs_ret re_var) rs_next)))
      (rs_ret re_non)))
  case u =>
    clear h1 h2 h5 h6 hr
    obtain ⟨b, g, v, n, rfl, hv, ht, h1, h2⟩ := hc
    (try simp only [mVar, mC, mOp, mUn, mNil, mCons, mTup, mLst, mCall, mCallX, mCallKX, mCB, mTest, mAnd, mOr, mNot, mYes, mAndV, mOrV, mNotV, mIf, mIsN, mNotN, mChain, mSeq, mNext, mBrk, mCnt, mRet, mRetN, mIfS, mDrop, mAsg, mOwn, mLstO, mListC, mLcO, oCatO, mShr, mApp, mPutI, mFrz, frz_w, mFor, mPar, mAug, mRaise, mTry, tryM, mKind, mLc, mList, mTupl, mListOwn, mRng1, mRng2, mEnum, mZip, mRev, mgName, mLenV, mIxV, mNoPart, mPart, mSl, wipeE, lcTurn, startE, oI_w, oB_w, oIC_w, oU_w, isB_w, oEq_w, oNe_w, exS_w, oIx_w, items_l, items_t, oLen_w, oAbs_w, oInt_i, oInt_b, oGcd_w, oMax_w, oMax3_w, oMin_w, oDivmod_w, oStr_w, oType_w, oIs1_w, oIs2_w, oIsTy_w, oCat_w, oIsN_w, oNotN_w, exD_w, exO_w, exD2_w, exO2_w, exL_w, exT_w, exI_w, ex1_w, ex1i_w, mSeqV_w, exX_w, seqOf_o, seqOf_d, mgCons_w, mgNil_w, mgTup_w, exPar_w, listC_w, putI_w, ixV_w, rng1_w, rng2_w, lcGo_n, lcGo_c, forGo_n, forGo_c, scEq_i, scEq_b, scEq_s, scEq_n, tyT, isNon, k_ii, k_ib, k_is, k_il, k_it, k_bi, k_bb, k_bs, k_bl, k_bt, k_ni, k_nb, k_ns, k_nl, k_nt, k_si, k_sb, k_ss, k_sl, k_st, k_li, k_lb, k_ls, k_ll, k_lt, k_ti, k_tb, k_ts, k_tl, k_tt, List.map_cons, List.map_nil, List.length_cons, List.length_nil, List.replicate, List.cons_append, List.nil_append, List.append_nil, List.getElem?_cons_zero, List.getElem?_cons_succ, List.set_cons_zero, List.set_cons_succ, Nat.sub_self, Nat.reduceAdd, Nat.reduceSub, List.replicate_zero, decide_eq_true_eq, Bool.true_eq_false, Bool.false_eq_true, if_true, if_false, reduceIte, Bool.not_eq_true', decide_eq_false_iff_not, Bool.not_true, Bool.not_false, exists_eq_left', true_and, and_true, Option.some.injEq, reduceCtorEq, decide_true, decide_false, not_true_eq_false, not_false_eq_true, Nat.reduceLT, Bool.or_false, Bool.or_true, Bool.false_or, Bool.true_or, Bool.and_true, Bool.true_and, Bool.and_false, Bool.false_and, true_implies, mFld, mFldS, mFldO, mProp, mMeth, mMethX, mInW, mCallXD, exOb_w, exOb2_w, exObD_w, exObD2_w, exObj_w, exObj0_w, exObjC_w, oIsNTy_w, mLcnt, eqD_ii, mJoin, oTupOf_w, oIsBl_w, cCalm])
    refine ⟨⟨_, _, rfl, by decide⟩, b, g, rfl, v, n, 800, .str "pattern", false, rfl, hv, ht, h1, fun hs es e => ⟨(h2 hs es e).1, fun ha => ?_⟩⟩
    obtain ⟨fs, rfl⟩ := flags_of ha
    have hk := (h2 hs _ e).2 fs rfl
    subst e
    refine ⟨_, rfl, fun i env => ∃ s z1 z2, env = [some (Sl.d (ruleT aBurstRule b g)), some (Sl.d (.lst (fs.map flagT))), some (Sl.d (.int s)), z1, z2] ∧ brGo b g 0 0 fs = brGo b g s i (fs.drop i), ⟨0, none, none, rfl, by rw [List.drop_zero]⟩, ?_, ?_⟩
    · rintro i x env hx ⟨s, z1, z2, rfl, hb⟩
      obtain ⟨d, hd, rfl⟩ := enumT_at hx
      rw [List.getElem?_map] at hd
      cases hf : fs[i]? with
      | none => rw [hf] at hd; cases hd
      | some f =>
        rw [hf] at hd
        cases hd
        have hdr : fs.drop i = f :: fs.drop (i + 1) := List.drop_eq_getElem?_toList_append.trans (by rw [hf]; rfl)
        rw [hdr] at hb
        (try simp only [mVar, mC, mOp, mUn, mNil, mCons, mTup, mLst, mCall, mCallX, mCallKX, mCB, mTest, mAnd, mOr, mNot, mYes, mAndV, mOrV, mNotV, mIf, mIsN, mNotN, mChain, mSeq, mNext, mBrk, mCnt, mRet, mRetN, mIfS, mDrop, mAsg, mOwn, mLstO, mListC, mLcO, oCatO, mShr, mApp, mPutI, mFrz, frz_w, mFor, mPar, mAug, mRaise, mTry, tryM, mKind, mLc, mList, mTupl, mListOwn, mRng1, mRng2, mEnum, mZip, mRev, mgName, mLenV, mIxV, mNoPart, mPart, mSl, wipeE, lcTurn, startE, oI_w, oB_w, oIC_w, oU_w, isB_w, oEq_w, oNe_w, exS_w, oIx_w, items_l, items_t, oLen_w, oAbs_w, oInt_i, oInt_b, oGcd_w, oMax_w, oMax3_w, oMin_w, oDivmod_w, oStr_w, oType_w, oIs1_w, oIs2_w, oIsTy_w, oCat_w, oIsN_w, oNotN_w, exD_w, exO_w, exD2_w, exO2_w, exL_w, exT_w, exI_w, ex1_w, ex1i_w, mSeqV_w, exX_w, seqOf_o, seqOf_d, mgCons_w, mgNil_w, mgTup_w, exPar_w, listC_w, putI_w, ixV_w, rng1_w, rng2_w, lcGo_n, lcGo_c, forGo_n, forGo_c, scEq_i, scEq_b, scEq_s, scEq_n, tyT, isNon, k_ii, k_ib, k_is, k_il, k_it, k_bi, k_bb, k_bs, k_bl, k_bt, k_ni, k_nb, k_ns, k_nl, k_nt, k_si, k_sb, k_ss, k_sl, k_st, k_li, k_lb, k_ls, k_ll, k_lt, k_ti, k_tb, k_ts, k_tl, k_tt, List.map_cons, List.map_nil, List.length_cons, List.length_nil, List.replicate, List.cons_append, List.nil_append, List.append_nil, List.getElem?_cons_zero, List.getElem?_cons_succ, List.set_cons_zero, List.set_cons_succ, Nat.sub_self, Nat.reduceAdd, Nat.reduceSub, List.replicate_zero, decide_eq_true_eq, Bool.true_eq_false, Bool.false_eq_true, if_true, if_false, reduceIte, Bool.not_eq_true', decide_eq_false_iff_not, Bool.not_true, Bool.not_false, exists_eq_left', true_and, and_true, Option.some.injEq, reduceCtorEq, decide_true, decide_false, not_true_eq_false, not_false_eq_true, Nat.reduceLT, Bool.or_false, Bool.or_true, Bool.false_or, Bool.true_or, Bool.and_true, Bool.true_and, Bool.and_false, Bool.false_and, true_implies, mFld, mFldS, mFldO, mProp, mMeth, mMethX, mInW, mCallXD, exOb_w, exOb2_w, exObD_w, exObD2_w, exObj_w, exObj0_w, exObjC_w, oIsNTy_w, mLcnt, eqD_ii, mJoin, oTupOf_w, oIsBl_w, cCalm])
        refine ⟨⟨_, _, rfl, by decide⟩, b, g, s, flagT f, "int", rfl, flag_ty, fun z => ?_, fun f' e => ?_⟩
        · cases f <;> cases z
        · have ef : f = f' := by
            cases f <;> cases f' <;> first | rfl | (exfalso; revert e; unfold flagT; simp)
          subst ef
          have hs : brGo b g s i (f :: fs.drop (i + 1)) = match brAfter b g s f with
            | none => some i
            | some s' => brGo b g s' (i + 1) (fs.drop (i + 1)) := rfl
          rw [hs] at hb
          cases hq : brAfter b g s f with
          | none =>
            rw [hq] at hb
            (try simp only [mVar, mC, mOp, mUn, mNil, mCons, mTup, mLst, mCall, mCallX, mCallKX, mCB, mTest, mAnd, mOr, mNot, mYes, mAndV, mOrV, mNotV, mIf, mIsN, mNotN, mChain, mSeq, mNext, mBrk, mCnt, mRet, mRetN, mIfS, mDrop, mAsg, mOwn, mLstO, mListC, mLcO, oCatO, mShr, mApp, mPutI, mFrz, frz_w, mFor, mPar, mAug, mRaise, mTry, tryM, mKind, mLc, mList, mTupl, mListOwn, mRng1, mRng2, mEnum, mZip, mRev, mgName, mLenV, mIxV, mNoPart, mPart, mSl, wipeE, lcTurn, startE, oI_w, oB_w, oIC_w, oU_w, isB_w, oEq_w, oNe_w, exS_w, oIx_w, items_l, items_t, oLen_w, oAbs_w, oInt_i, oInt_b, oGcd_w, oMax_w, oMax3_w, oMin_w, oDivmod_w, oStr_w, oType_w, oIs1_w, oIs2_w, oIsTy_w, oCat_w, oIsN_w, oNotN_w, exD_w, exO_w, exD2_w, exO2_w, exL_w, exT_w, exI_w, ex1_w, ex1i_w, mSeqV_w, exX_w, seqOf_o, seqOf_d, mgCons_w, mgNil_w, mgTup_w, exPar_w, listC_w, putI_w, ixV_w, rng1_w, rng2_w, lcGo_n, lcGo_c, forGo_n, forGo_c, scEq_i, scEq_b, scEq_s, scEq_n, tyT, isNon, k_ii, k_ib, k_is, k_il, k_it, k_bi, k_bb, k_bs, k_bl, k_bt, k_ni, k_nb, k_ns, k_nl, k_nt, k_si, k_sb, k_ss, k_sl, k_st, k_li, k_lb, k_ls, k_ll, k_lt, k_ti, k_tb, k_ts, k_tl, k_tt, List.map_cons, List.map_nil, List.length_cons, List.length_nil, List.replicate, List.cons_append, List.nil_append, List.append_nil, List.getElem?_cons_zero, List.getElem?_cons_succ, List.set_cons_zero, List.set_cons_succ, Nat.sub_self, Nat.reduceAdd, Nat.reduceSub, List.replicate_zero, decide_eq_true_eq, Bool.true_eq_false, Bool.false_eq_true, if_true, if_false, reduceIte, Bool.not_eq_true', decide_eq_false_iff_not, Bool.not_true, Bool.not_false, exists_eq_left', true_and, and_true, Option.some.injEq, reduceCtorEq, decide_true, decide_false, not_true_eq_false, not_false_eq_true, Nat.reduceLT, Bool.or_false, Bool.or_true, Bool.false_or, Bool.true_or, Bool.and_true, Bool.true_and, Bool.and_false, Bool.false_and, true_implies, mFld, mFldS, mFldO, mProp, mMeth, mMethX, mInW, mCallXD, exOb_w, exOb2_w, exObD_w, exObD2_w, exObj_w, exObj0_w, exObjC_w, oIsNTy_w, mLcnt, eqD_ii, mJoin, oTupOf_w, oIsBl_w, cCalm, optI, oIsN])
            rw [hb] at hk
            exact hk
          | some s' =>
            rw [hq] at hb
            (try simp only [mVar, mC, mOp, mUn, mNil, mCons, mTup, mLst, mCall, mCallX, mCallKX, mCB, mTest, mAnd, mOr, mNot, mYes, mAndV, mOrV, mNotV, mIf, mIsN, mNotN, mChain, mSeq, mNext, mBrk, mCnt, mRet, mRetN, mIfS, mDrop, mAsg, mOwn, mLstO, mListC, mLcO, oCatO, mShr, mApp, mPutI, mFrz, frz_w, mFor, mPar, mAug, mRaise, mTry, tryM, mKind, mLc, mList, mTupl, mListOwn, mRng1, mRng2, mEnum, mZip, mRev, mgName, mLenV, mIxV, mNoPart, mPart, mSl, wipeE, lcTurn, startE, oI_w, oB_w, oIC_w, oU_w, isB_w, oEq_w, oNe_w, exS_w, oIx_w, items_l, items_t, oLen_w, oAbs_w, oInt_i, oInt_b, oGcd_w, oMax_w, oMax3_w, oMin_w, oDivmod_w, oStr_w, oType_w, oIs1_w, oIs2_w, oIsTy_w, oCat_w, oIsN_w, oNotN_w, exD_w, exO_w, exD2_w, exO2_w, exL_w, exT_w, exI_w, ex1_w, ex1i_w, mSeqV_w, exX_w, seqOf_o, seqOf_d, mgCons_w, mgNil_w, mgTup_w, exPar_w, listC_w, putI_w, ixV_w, rng1_w, rng2_w, lcGo_n, lcGo_c, forGo_n, forGo_c, scEq_i, scEq_b, scEq_s, scEq_n, tyT, isNon, k_ii, k_ib, k_is, k_il, k_it, k_bi, k_bb, k_bs, k_bl, k_bt, k_ni, k_nb, k_ns, k_nl, k_nt, k_si, k_sb, k_ss, k_sl, k_st, k_li, k_lb, k_ls, k_ll, k_lt, k_ti, k_tb, k_ts, k_tl, k_tt, List.map_cons, List.map_nil, List.length_cons, List.length_nil, List.replicate, List.cons_append, List.nil_append, List.append_nil, List.getElem?_cons_zero, List.getElem?_cons_succ, List.set_cons_zero, List.set_cons_succ, Nat.sub_self, Nat.reduceAdd, Nat.reduceSub, List.replicate_zero, decide_eq_true_eq, Bool.true_eq_false, Bool.false_eq_true, if_true, if_false, reduceIte, Bool.not_eq_true', decide_eq_false_iff_not, Bool.not_true, Bool.not_false, exists_eq_left', true_and, and_true, Option.some.injEq, reduceCtorEq, decide_true, decide_false, not_true_eq_false, not_false_eq_true, Nat.reduceLT, Bool.or_false, Bool.or_true, Bool.false_or, Bool.true_or, Bool.and_true, Bool.true_and, Bool.and_false, Bool.false_and, true_implies, mFld, mFldS, mFldO, mProp, mMeth, mMethX, mInW, mCallXD, exOb_w, exOb2_w, exObD_w, exObD2_w, exObj_w, exObj0_w, exObjC_w, oIsNTy_w, mLcnt, eqD_ii, mJoin, oTupOf_w, oIsBl_w, cCalm, optI, oIsN])
            exact ⟨s', _, _, rfl, hb⟩
    · rintro env ⟨s, z1, z2, rfl, hb⟩
      have el : (enumT (fs.map flagT)).length = fs.length := by
        unfold enumT
        rw [List.length_mapIdx, List.length_map]
      rw [el, List.drop_length] at hb
      rw [hb] at hk
      exact hk
end
end Mt
namespace Mt
open PySem PySem.Spec PyProof.Rows L2 L2H
section
variable {P : Program} {w : World} {K : PySem.W.Frag} {mg : Str → Option Value} {base : Heap} {f : Addr} {fd : FuncData} {A : Ad} {tk : Nat → Tok} {aBurstRule : Addr}
theorem ok_BurstRule___contains__ (F : Fun K "__contains__" "BurstRule.__contains__" s_BurstRule___contains__ f fd) (Tx : Txt K mg A tk aBurstRule) (C_BurstRule_first_break : CalO P w K mg base aBurstRule "first_break" 6 ["self", "pattern"] (SpU A 2 (c_BurstRule_first_break aBurstRule))) :
    FnOk P w K mg base (CN P w) 7 f fd ["self", "x"] (SpU A 2 (c_BurstRule___contains__ aBurstRule)) := by
  refine okN F sc_BurstRule___contains__ (fun vs H Q E h => h.len) (fun cdv Ar outer s H vs Q E hr h => ?_)
  obtain ⟨st, P0, ds, k, XA, h1, h2, h3, hc, h5, h6⟩ := h
  refine ⟨_, (pss_one (ps_ret (pe_cmpR op_isNH (p_methX C_BurstRule_first_break hr (L2N.takes_of rfl rfl rfl rfl) (pv 0) (pa_cons (pv 1) pa_nil) (by omega)) pe_non (nomark _)))), ?_⟩
  refine runX (ms := ?ms) h1 h2 h5 h6 (fun _ _ _ _ h => h) ?r ?u
  case r => exact (rs_ret (re_op ro_isN (re_methX re_var (ra_cons re_var ra_nil)) re_non))
  case u =>
    clear h1 h2 h5 h6 hr
    obtain ⟨b, g, v, n, rfl, hv, ht, h1, h2⟩ := hc
    (try simp only [mVar, mC, mOp, mUn, mNil, mCons, mTup, mLst, mCall, mCallX, mCallKX, mCB, mTest, mAnd, mOr, mNot, mYes, mAndV, mOrV, mNotV, mIf, mIsN, mNotN, mChain, mSeq, mNext, mBrk, mCnt, mRet, mRetN, mIfS, mDrop, mAsg, mOwn, mLstO, mListC, mLcO, oCatO, mShr, mApp, mPutI, mFrz, frz_w, mFor, mPar, mAug, mRaise, mTry, tryM, mKind, mLc, mList, mTupl, mListOwn, mRng1, mRng2, mEnum, mZip, mRev, mgName, mLenV, mIxV, mNoPart, mPart, mSl, wipeE, lcTurn, startE, oI_w, oB_w, oIC_w, oU_w, isB_w, oEq_w, oNe_w, exS_w, oIx_w, items_l, items_t, oLen_w, oAbs_w, oInt_i, oInt_b, oGcd_w, oMax_w, oMax3_w, oMin_w, oDivmod_w, oStr_w, oType_w, oIs1_w, oIs2_w, oIsTy_w, oCat_w, oIsN_w, oNotN_w, exD_w, exO_w, exD2_w, exO2_w, exL_w, exT_w, exI_w, ex1_w, ex1i_w, mSeqV_w, exX_w, seqOf_o, seqOf_d, mgCons_w, mgNil_w, mgTup_w, exPar_w, listC_w, putI_w, ixV_w, rng1_w, rng2_w, lcGo_n, lcGo_c, forGo_n, forGo_c, scEq_i, scEq_b, scEq_s, scEq_n, tyT, isNon, k_ii, k_ib, k_is, k_il, k_it, k_bi, k_bb, k_bs, k_bl, k_bt, k_ni, k_nb, k_ns, k_nl, k_nt, k_si, k_sb, k_ss, k_sl, k_st, k_li, k_lb, k_ls, k_ll, k_lt, k_ti, k_tb, k_ts, k_tl, k_tt, List.map_cons, List.map_nil, List.length_cons, List.length_nil, List.replicate, List.cons_append, List.nil_append, List.append_nil, List.getElem?_cons_zero, List.getElem?_cons_succ, List.set_cons_zero, List.set_cons_succ, Nat.sub_self, Nat.reduceAdd, Nat.reduceSub, List.replicate_zero, decide_eq_true_eq, Bool.true_eq_false, Bool.false_eq_true, if_true, if_false, reduceIte, Bool.not_eq_true', decide_eq_false_iff_not, Bool.not_true, Bool.not_false, exists_eq_left', true_and, and_true, Option.some.injEq, reduceCtorEq, decide_true, decide_false, not_true_eq_false, not_false_eq_true, Nat.reduceLT, Bool.or_false, Bool.or_true, Bool.false_or, Bool.true_or, Bool.and_true, Bool.true_and, Bool.and_false, Bool.false_and, true_implies, mFld, mFldS, mFldO, mProp, mMeth, mMethX, mInW, mCallXD, exOb_w, exOb2_w, exObD_w, exObD2_w, exObj_w, exObj0_w, exObjC_w, oIsNTy_w, mLcnt, eqD_ii, mJoin, oTupOf_w, oIsBl_w, cCalm])
    refine ⟨⟨_, _, rfl, by decide⟩, b, g, v, n, rfl, hv, ht, h1, fun hs es e => ⟨(h2 hs es e).1, fun fs ef => ?_⟩⟩
    have hk := (h2 hs es e).2 fs ef
    cases hq : brGo b g 0 0 fs with
    | none =>
      rw [hq] at hk
      exact hk
    | some i =>
      rw [hq] at hk
      exact hk
end
end Mt
namespace Mt
open PySem PySem.Spec PyProof.Rows L2 L2H
section
variable {P : Program} {w : World} {K : PySem.W.Frag} {mg : Str → Option Value} {base : Heap} {f : Addr} {fd : FuncData} {A : Ad} {tk : Nat → Tok} {aBurstRule : Addr}
theorem ok_is_counted (F : Fun K "is_counted" "is_counted" s_is_counted f fd) (Tx : Txt K mg A tk aBurstRule) (C_BurstRule___contains__ : CalO P w K mg base aBurstRule "__contains__" 7 ["self", "x"] (SpU A 2 (c_BurstRule___contains__ aBurstRule))) (C_is_pattern : Cal P w K mg base "is_pattern" 3 ["value", "least", "most"] (SpU A 3 c_is_pattern)) (C_is_tuple : Cal P w K mg base "is_tuple" 1 ["value", "many"] (SpU A 2 c_is_tuple)) (C_letters_due : Cal P w K mg base "letters_due" 1 ["letters", "delay", "beats"] (SpU A 3 c_letters_due)) :
    FnOk P w K mg base (CN P w) 8 f fd ["letters", "signs", "rule", "delay", "paper"] (SpU A 5 (c_is_counted aBurstRule)) := by
  refine okN F sc_is_counted (fun vs H Q E h => h.len) (fun cdv Ar outer s H vs Q E hr h => ?_)
  obtain ⟨st, P0, ds, k, XA, h1, h2, h3, hc, h5, h6⟩ := h
  refine ⟨_, (pss_cons (ps_if (pt_not (pt_val (p_call C_is_tuple hr (pa_cons (pv 4) (pa_cons pe_int pa_nil)) (by omega)))) (pss_one (ps_ret pe_bl)) pss_nil)
      (pss_cons (ps_asg (pv 4) (pg_tup rfl (pgs_cons (pg_name (i := 6) sc_is_counted.nd rfl (.inl rfl)) (pgs_cons (pg_name (i := 7) sc_is_counted.nd rfl (.inl rfl)) (pgs_cons (pg_name (i := 8) sc_is_counted.nd rfl (.inl rfl)) pgs_nil)))))
      (pss_cons (ps_if (PW.pt (pw_or (pt_not (pt_val (p_call C_is_pattern hr (pa_cons (pv 6) (pa_cons pe_int (pa_cons (pe_glob (v := .int 800) rfl Tx.g_MOST_BEATS_bar ⟨_, rfl⟩) pa_nil))) (by omega)))) (pw_or1 (pt_cmp (pc_notInX C_BurstRule___contains__ hr (L2N.takes_of rfl rfl rfl rfl) (pv 6) (pv 2) (by omega)) rfl)))) (pss_one (ps_ret pe_bl)) pss_nil)
      (pss_cons (ps_if (PW.pt (pw_or (pt_cmpR op_isNTyH (pe_typeOf (by rfl) Tx.m_type (pv 7)) (pe_bltn (v := .ty "int") (u := .type "int") (by rfl) Tx.m_int (by decide +kernel) rel_ty) (nomark _)) (pw_or1 (pt_cmpR op_isNTyH (pe_typeOf (by rfl) Tx.m_type (pv 8)) (pe_bltn (v := .ty "int") (u := .type "int") (by rfl) Tx.m_int (by decide +kernel) rel_ty) (nomark _))))) (pss_one (ps_ret pe_bl)) pss_nil)
      (pss_cons (ps_set (i := 5) sc_is_counted.nd rfl (.inl rfl) (pe_tup (pa_cons (p_call C_letters_due hr (pa_cons (pv 0) (pa_cons (pv 3) (pa_cons (pe_callB call_lenH (by rfl) Tx.m_len (by decide +kernel) (pa_cons (pv 6) pa_nil)) pa_nil))) (by omega)) (pa_cons (pe_op op_mul (pv 1) (pe_bm PySem.F.plainAttrs_list PySem.F.slot_list_count PySem.F.type_list_count mt_lcount (pv 6) (pa_cons pe_int pa_nil))) pa_nil))))
      (pss_one (ps_ret (pe_and (pe_cmpR (op_eqD hr.units) (pe_tup (pa_cons (pv 7) (pa_cons (pv 8) pa_nil))) (pv 5) (nomark _)) (pe_one (pe_cmpR op_gt (pv 7) (pv 8) (nomark _))))))))))), ?_⟩
  refine runX (ms := ?ms) h1 h2 h5 h6 (fun _ _ _ _ h => h) ?r ?u
  case r => exact (rs_seq (rs_if (rt_not (rt_B (re_call (ra_cons re_var (ra_cons re_int ra_nil))))) (rs_ret re_bl) rs_next)
      (rs_seq (rs_asg re_var (rg_tup (n := 3) (rgs_cons rg_name (rgs_cons rg_name (rgs_cons rg_name rgs_nil)))))
      (rs_seq (rs_if (rt_or (rt_not (rt_B (re_call (ra_cons re_var (ra_cons re_int (ra_cons re_int ra_nil)))))) (rt_B (re_inX re_var re_var))) (rs_ret re_bl) rs_next)
      (rs_seq (rs_if (rt_or (rt_test (re_op ro_isNTy (re_cb rcb_type (ra_cons re_var ra_nil)) re_ty)) (rt_test (re_op ro_isNTy (re_cb rcb_type (ra_cons re_var ra_nil)) re_ty))) (rs_ret re_bl) rs_next)
      (rs_seq (rs_asg (re_tup (ra_cons (re_call (ra_cons re_var (ra_cons re_var (ra_cons (re_cb rcb_len (ra_cons re_var ra_nil)) ra_nil)))) (ra_cons (re_op ro_intC re_var (re_lcnt re_var re_int)) ra_nil))) rg_name)
      (rs_ret (re_andV (re_op ro_eqD (re_tup (ra_cons re_var (ra_cons re_var ra_nil))) re_var) (re_op ro_bool re_var re_var))))))))
  case u =>
    clear h1 h2 h5 h6 hr
    obtain ⟨l, w, b, g, d, v, n, rfl, l0, l1, w0, w1, d0, d1, hv, ht, hk⟩ := hc
    have nope : ¬ isCtd (fun fs => (brGo b g 0 0 fs).isNone) l w d v → k (.bl false) := fun h => hk false ⟨fun z => (nomatch z), fun z => absurd z h⟩
    (try simp only [mVar, mC, mOp, mUn, mNil, mCons, mTup, mLst, mCall, mCallX, mCallKX, mCB, mTest, mAnd, mOr, mNot, mYes, mAndV, mOrV, mNotV, mIf, mIsN, mNotN, mChain, mSeq, mNext, mBrk, mCnt, mRet, mRetN, mIfS, mDrop, mAsg, mOwn, mLstO, mListC, mLcO, oCatO, mShr, mApp, mPutI, mFrz, frz_w, mFor, mPar, mAug, mRaise, mTry, tryM, mKind, mLc, mList, mTupl, mListOwn, mRng1, mRng2, mEnum, mZip, mRev, mgName, mLenV, mIxV, mNoPart, mPart, mSl, wipeE, lcTurn, startE, oI_w, oB_w, oIC_w, oU_w, isB_w, oEq_w, oNe_w, exS_w, oIx_w, items_l, items_t, oLen_w, oAbs_w, oInt_i, oInt_b, oGcd_w, oMax_w, oMax3_w, oMin_w, oDivmod_w, oStr_w, oType_w, oIs1_w, oIs2_w, oIsTy_w, oCat_w, oIsN_w, oNotN_w, exD_w, exO_w, exD2_w, exO2_w, exL_w, exT_w, exI_w, ex1_w, ex1i_w, mSeqV_w, exX_w, seqOf_o, seqOf_d, mgCons_w, mgNil_w, mgTup_w, exPar_w, listC_w, putI_w, ixV_w, rng1_w, rng2_w, lcGo_n, lcGo_c, forGo_n, forGo_c, scEq_i, scEq_b, scEq_s, scEq_n, tyT, isNon, k_ii, k_ib, k_is, k_il, k_it, k_bi, k_bb, k_bs, k_bl, k_bt, k_ni, k_nb, k_ns, k_nl, k_nt, k_si, k_sb, k_ss, k_sl, k_st, k_li, k_lb, k_ls, k_ll, k_lt, k_ti, k_tb, k_ts, k_tl, k_tt, List.map_cons, List.map_nil, List.length_cons, List.length_nil, List.replicate, List.cons_append, List.nil_append, List.append_nil, List.getElem?_cons_zero, List.getElem?_cons_succ, List.set_cons_zero, List.set_cons_succ, Nat.sub_self, Nat.reduceAdd, Nat.reduceSub, List.replicate_zero, decide_eq_true_eq, Bool.true_eq_false, Bool.false_eq_true, if_true, if_false, reduceIte, Bool.not_eq_true', decide_eq_false_iff_not, Bool.not_true, Bool.not_false, exists_eq_left', true_and, and_true, Option.some.injEq, reduceCtorEq, decide_true, decide_false, not_true_eq_false, not_false_eq_true, Nat.reduceLT, Bool.or_false, Bool.or_true, Bool.false_or, Bool.true_or, Bool.and_true, Bool.true_and, Bool.and_false, Bool.false_and, true_implies, mFld, mFldS, mFldO, mProp, mMeth, mMethX, mInW, mCallXD, exOb_w, exOb2_w, exObD_w, exObD2_w, exObj_w, exObj0_w, exObjC_w, oIsNTy_w, mLcnt, eqD_ii, mJoin, oTupOf_w, oIsBl_w, cCalm])
    refine ⟨v, n, 3, rfl, ht, ?_⟩
    (try simp only [mVar, mC, mOp, mUn, mNil, mCons, mTup, mLst, mCall, mCallX, mCallKX, mCB, mTest, mAnd, mOr, mNot, mYes, mAndV, mOrV, mNotV, mIf, mIsN, mNotN, mChain, mSeq, mNext, mBrk, mCnt, mRet, mRetN, mIfS, mDrop, mAsg, mOwn, mLstO, mListC, mLcO, oCatO, mShr, mApp, mPutI, mFrz, frz_w, mFor, mPar, mAug, mRaise, mTry, tryM, mKind, mLc, mList, mTupl, mListOwn, mRng1, mRng2, mEnum, mZip, mRev, mgName, mLenV, mIxV, mNoPart, mPart, mSl, wipeE, lcTurn, startE, oI_w, oB_w, oIC_w, oU_w, isB_w, oEq_w, oNe_w, exS_w, oIx_w, items_l, items_t, oLen_w, oAbs_w, oInt_i, oInt_b, oGcd_w, oMax_w, oMax3_w, oMin_w, oDivmod_w, oStr_w, oType_w, oIs1_w, oIs2_w, oIsTy_w, oCat_w, oIsN_w, oNotN_w, exD_w, exO_w, exD2_w, exO2_w, exL_w, exT_w, exI_w, ex1_w, ex1i_w, mSeqV_w, exX_w, seqOf_o, seqOf_d, mgCons_w, mgNil_w, mgTup_w, exPar_w, listC_w, putI_w, ixV_w, rng1_w, rng2_w, lcGo_n, lcGo_c, forGo_n, forGo_c, scEq_i, scEq_b, scEq_s, scEq_n, tyT, isNon, k_ii, k_ib, k_is, k_il, k_it, k_bi, k_bb, k_bs, k_bl, k_bt, k_ni, k_nb, k_ns, k_nl, k_nt, k_si, k_sb, k_ss, k_sl, k_st, k_li, k_lb, k_ls, k_ll, k_lt, k_ti, k_tb, k_ts, k_tl, k_tt, List.map_cons, List.map_nil, List.length_cons, List.length_nil, List.replicate, List.cons_append, List.nil_append, List.append_nil, List.getElem?_cons_zero, List.getElem?_cons_succ, List.set_cons_zero, List.set_cons_succ, Nat.sub_self, Nat.reduceAdd, Nat.reduceSub, List.replicate_zero, decide_eq_true_eq, Bool.true_eq_false, Bool.false_eq_true, if_true, if_false, reduceIte, Bool.not_eq_true', decide_eq_false_iff_not, Bool.not_true, Bool.not_false, exists_eq_left', true_and, and_true, Option.some.injEq, reduceCtorEq, decide_true, decide_false, not_true_eq_false, not_false_eq_true, Nat.reduceLT, Bool.or_false, Bool.or_true, Bool.false_or, Bool.true_or, Bool.and_true, Bool.true_and, Bool.and_false, Bool.false_and, true_implies, mFld, mFldS, mFldO, mProp, mMeth, mMethX, mInW, mCallXD, exOb_w, exOb2_w, exObD_w, exObD2_w, exObj_w, exObj0_w, exObjC_w, oIsNTy_w, mLcnt, eqD_ii, mJoin, oTupOf_w, oIsBl_w, cCalm])
    cases htb : tupB v 3 with
    | false =>
      refine nope fun ⟨fs, e, _⟩ => ?_
      rw [e] at htb
      cases htb
    | true =>
      obtain ⟨p, du, he, rfl⟩ := tup3_of htb
      simp only [okT, okTs, Bool.and_eq_true] at hv
      obtain ⟨np, hp⟩ := okT_ty hv.1
      obtain ⟨nd, hd⟩ := okT_ty hv.2.1
      obtain ⟨nh, hh⟩ := okT_ty hv.2.2.1
      (try simp only [mVar, mC, mOp, mUn, mNil, mCons, mTup, mLst, mCall, mCallX, mCallKX, mCB, mTest, mAnd, mOr, mNot, mYes, mAndV, mOrV, mNotV, mIf, mIsN, mNotN, mChain, mSeq, mNext, mBrk, mCnt, mRet, mRetN, mIfS, mDrop, mAsg, mOwn, mLstO, mListC, mLcO, oCatO, mShr, mApp, mPutI, mFrz, frz_w, mFor, mPar, mAug, mRaise, mTry, tryM, mKind, mLc, mList, mTupl, mListOwn, mRng1, mRng2, mEnum, mZip, mRev, mgName, mLenV, mIxV, mNoPart, mPart, mSl, wipeE, lcTurn, startE, oI_w, oB_w, oIC_w, oU_w, isB_w, oEq_w, oNe_w, exS_w, oIx_w, items_l, items_t, oLen_w, oAbs_w, oInt_i, oInt_b, oGcd_w, oMax_w, oMax3_w, oMin_w, oDivmod_w, oStr_w, oType_w, oIs1_w, oIs2_w, oIsTy_w, oCat_w, oIsN_w, oNotN_w, exD_w, exO_w, exD2_w, exO2_w, exL_w, exT_w, exI_w, ex1_w, ex1i_w, mSeqV_w, exX_w, seqOf_o, seqOf_d, mgCons_w, mgNil_w, mgTup_w, exPar_w, listC_w, putI_w, ixV_w, rng1_w, rng2_w, lcGo_n, lcGo_c, forGo_n, forGo_c, scEq_i, scEq_b, scEq_s, scEq_n, tyT, isNon, k_ii, k_ib, k_is, k_il, k_it, k_bi, k_bb, k_bs, k_bl, k_bt, k_ni, k_nb, k_ns, k_nl, k_nt, k_si, k_sb, k_ss, k_sl, k_st, k_li, k_lb, k_ls, k_ll, k_lt, k_ti, k_tb, k_ts, k_tl, k_tt, List.map_cons, List.map_nil, List.length_cons, List.length_nil, List.replicate, List.cons_append, List.nil_append, List.append_nil, List.getElem?_cons_zero, List.getElem?_cons_succ, List.set_cons_zero, List.set_cons_succ, Nat.sub_self, Nat.reduceAdd, Nat.reduceSub, List.replicate_zero, decide_eq_true_eq, Bool.true_eq_false, Bool.false_eq_true, if_true, if_false, reduceIte, Bool.not_eq_true', decide_eq_false_iff_not, Bool.not_true, Bool.not_false, exists_eq_left', true_and, and_true, Option.some.injEq, reduceCtorEq, decide_true, decide_false, not_true_eq_false, not_false_eq_true, Nat.reduceLT, Bool.or_false, Bool.or_true, Bool.false_or, Bool.true_or, Bool.and_true, Bool.true_and, Bool.and_false, Bool.false_and, true_implies, mFld, mFldS, mFldO, mProp, mMeth, mMethX, mInW, mCallXD, exOb_w, exOb2_w, exObD_w, exObD2_w, exObj_w, exObj0_w, exObjC_w, oIsNTy_w, mLcnt, eqD_ii, mJoin, oTupOf_w, oIsBl_w, cCalm])
      refine ⟨p, np, 0, 800, rfl, hp, ok_items hv.1, ?_⟩
      (try simp only [mVar, mC, mOp, mUn, mNil, mCons, mTup, mLst, mCall, mCallX, mCallKX, mCB, mTest, mAnd, mOr, mNot, mYes, mAndV, mOrV, mNotV, mIf, mIsN, mNotN, mChain, mSeq, mNext, mBrk, mCnt, mRet, mRetN, mIfS, mDrop, mAsg, mOwn, mLstO, mListC, mLcO, oCatO, mShr, mApp, mPutI, mFrz, frz_w, mFor, mPar, mAug, mRaise, mTry, tryM, mKind, mLc, mList, mTupl, mListOwn, mRng1, mRng2, mEnum, mZip, mRev, mgName, mLenV, mIxV, mNoPart, mPart, mSl, wipeE, lcTurn, startE, oI_w, oB_w, oIC_w, oU_w, isB_w, oEq_w, oNe_w, exS_w, oIx_w, items_l, items_t, oLen_w, oAbs_w, oInt_i, oInt_b, oGcd_w, oMax_w, oMax3_w, oMin_w, oDivmod_w, oStr_w, oType_w, oIs1_w, oIs2_w, oIsTy_w, oCat_w, oIsN_w, oNotN_w, exD_w, exO_w, exD2_w, exO2_w, exL_w, exT_w, exI_w, ex1_w, ex1i_w, mSeqV_w, exX_w, seqOf_o, seqOf_d, mgCons_w, mgNil_w, mgTup_w, exPar_w, listC_w, putI_w, ixV_w, rng1_w, rng2_w, lcGo_n, lcGo_c, forGo_n, forGo_c, scEq_i, scEq_b, scEq_s, scEq_n, tyT, isNon, k_ii, k_ib, k_is, k_il, k_it, k_bi, k_bb, k_bs, k_bl, k_bt, k_ni, k_nb, k_ns, k_nl, k_nt, k_si, k_sb, k_ss, k_sl, k_st, k_li, k_lb, k_ls, k_ll, k_lt, k_ti, k_tb, k_ts, k_tl, k_tt, List.map_cons, List.map_nil, List.length_cons, List.length_nil, List.replicate, List.cons_append, List.nil_append, List.append_nil, List.getElem?_cons_zero, List.getElem?_cons_succ, List.set_cons_zero, List.set_cons_succ, Nat.sub_self, Nat.reduceAdd, Nat.reduceSub, List.replicate_zero, decide_eq_true_eq, Bool.true_eq_false, Bool.false_eq_true, if_true, if_false, reduceIte, Bool.not_eq_true', decide_eq_false_iff_not, Bool.not_true, Bool.not_false, exists_eq_left', true_and, and_true, Option.some.injEq, reduceCtorEq, decide_true, decide_false, not_true_eq_false, not_false_eq_true, Nat.reduceLT, Bool.or_false, Bool.or_true, Bool.false_or, Bool.true_or, Bool.and_true, Bool.true_and, Bool.and_false, Bool.false_and, true_implies, mFld, mFldS, mFldO, mProp, mMeth, mMethX, mInW, mCallXD, exOb_w, exOb2_w, exObD_w, exObD2_w, exObj_w, exObj0_w, exObjC_w, oIsNTy_w, mLcnt, eqD_ii, mJoin, oTupOf_w, oIsBl_w, cCalm])
      cases hpat : patB p 0 800 with
      | false =>
        refine nope fun ⟨fs, e, el, _⟩ => ?_
        cases e
        have hpat : ((decide ((0 : Int) ≤ ((fs.map flagT).length : Int)) && decide (((fs.map flagT).length : Int) ≤ 800)) && (fs.map flagT).all (fun e => wholeT e 0 1)) = false := hpat
        rw [flags_all, List.length_map, decide_eq_true (by omega), decide_eq_true (by omega)] at hpat
        cases hpat
      | true =>
        obtain ⟨fs, rfl, _, el⟩ := pat_of hpat
        (try simp only [mVar, mC, mOp, mUn, mNil, mCons, mTup, mLst, mCall, mCallX, mCallKX, mCB, mTest, mAnd, mOr, mNot, mYes, mAndV, mOrV, mNotV, mIf, mIsN, mNotN, mChain, mSeq, mNext, mBrk, mCnt, mRet, mRetN, mIfS, mDrop, mAsg, mOwn, mLstO, mListC, mLcO, oCatO, mShr, mApp, mPutI, mFrz, frz_w, mFor, mPar, mAug, mRaise, mTry, tryM, mKind, mLc, mList, mTupl, mListOwn, mRng1, mRng2, mEnum, mZip, mRev, mgName, mLenV, mIxV, mNoPart, mPart, mSl, wipeE, lcTurn, startE, oI_w, oB_w, oIC_w, oU_w, isB_w, oEq_w, oNe_w, exS_w, oIx_w, items_l, items_t, oLen_w, oAbs_w, oInt_i, oInt_b, oGcd_w, oMax_w, oMax3_w, oMin_w, oDivmod_w, oStr_w, oType_w, oIs1_w, oIs2_w, oIsTy_w, oCat_w, oIsN_w, oNotN_w, exD_w, exO_w, exD2_w, exO2_w, exL_w, exT_w, exI_w, ex1_w, ex1i_w, mSeqV_w, exX_w, seqOf_o, seqOf_d, mgCons_w, mgNil_w, mgTup_w, exPar_w, listC_w, putI_w, ixV_w, rng1_w, rng2_w, lcGo_n, lcGo_c, forGo_n, forGo_c, scEq_i, scEq_b, scEq_s, scEq_n, tyT, isNon, k_ii, k_ib, k_is, k_il, k_it, k_bi, k_bb, k_bs, k_bl, k_bt, k_ni, k_nb, k_ns, k_nl, k_nt, k_si, k_sb, k_ss, k_sl, k_st, k_li, k_lb, k_ls, k_ll, k_lt, k_ti, k_tb, k_ts, k_tl, k_tt, List.map_cons, List.map_nil, List.length_cons, List.length_nil, List.replicate, List.cons_append, List.nil_append, List.append_nil, List.getElem?_cons_zero, List.getElem?_cons_succ, List.set_cons_zero, List.set_cons_succ, Nat.sub_self, Nat.reduceAdd, Nat.reduceSub, List.replicate_zero, decide_eq_true_eq, Bool.true_eq_false, Bool.false_eq_true, if_true, if_false, reduceIte, Bool.not_eq_true', decide_eq_false_iff_not, Bool.not_true, Bool.not_false, exists_eq_left', true_and, and_true, Option.some.injEq, reduceCtorEq, decide_true, decide_false, not_true_eq_false, not_false_eq_true, Nat.reduceLT, Bool.or_false, Bool.or_true, Bool.false_or, Bool.true_or, Bool.and_true, Bool.true_and, Bool.and_false, Bool.false_and, true_implies, mFld, mFldS, mFldO, mProp, mMeth, mMethX, mInW, mCallXD, exOb_w, exOb2_w, exObD_w, exObD2_w, exObj_w, exObj0_w, exObjC_w, oIsNTy_w, mLcnt, eqD_ii, mJoin, oTupOf_w, oIsBl_w, cCalm])
        refine ⟨⟨_, _, rfl⟩, b, g, .lst (fs.map flagT), "list", rfl, rfl, ok_items hv.1, fun z => ?_, fun _ es e => ?_⟩
        · have z : (!decide ((800 : Int) < ((fs.map flagT).length : Int)) && !(false && !decide (((fs.map flagT).length : Int) = 800))) = false := z
          rw [List.length_map, decide_eq_false (by omega)] at z
          cases z
        · cases e
          refine ⟨fun z => ?_, fun fs' e => ?_⟩
          · rw [flags_all] at z
            cases z
          · have e := flags_inj e
            subst e
            refine ⟨_, rfl, ?_⟩
            cases hbr : (brGo b g 0 0 fs).isNone with
            | false =>
              refine nope fun ⟨fs2, e, _, (eb : (brGo b g 0 0 fs2).isNone = true), _⟩ => ?_
              have e2 : fs.map flagT = fs2.map flagT := by
                injection e with e
                injection e with e _
                injection e
              rw [← flags_inj e2, hbr] at eb
              cases eb
            | true =>
              rw [if_neg (by decide)]
              refine ⟨nd, hd, ite2 (fun y => nope fun ⟨fs2, e, _⟩ => y ?_) (fun y => ?_)⟩
              · injection e with e
                injection e with _ e
                injection e with e _
                rw [e] at hd
                cases hd
                rfl
              refine ⟨nh, hh, ite2 (fun y2 => nope fun ⟨fs2, e, _⟩ => y2 ?_) (fun y2 => ?_)⟩
              · injection e with e
                injection e with _ e
                injection e with _ e
                injection e with e _
                rw [e] at hh
                cases hh
                rfl
              obtain ⟨i, rfl⟩ := int_of (Decidable.of_not_not y ▸ hd)
              obtain ⟨j, rfl⟩ := int_of (Decidable.of_not_not y2 ▸ hh)
              intro _
              rw [List.length_map]
              refine ⟨l, d, fs.length, rfl, by omega, by omega, _, congrArg T.lst (flags_ints fs), Or.inl ⟨by omega, by omega⟩, ?_⟩
              rw [count_heard, eqD_ii]
              refine ⟨_, rfl, ?_⟩
              cases hc1 : (decide (i = l * max 0 ((fs.length : Int) - d)) && decide (j = w * (heardF fs : Int))) with
              | false =>
                rw [if_neg (by decide)]
                refine nope fun ⟨fs2, e, _⟩ => ?_
                injection e with e
                injection e with e e2
                injection e2 with e2 e3
                injection e3 with e3 _
                injection e with e
                have ef := flags_inj e
                subst ef
                injection e2 with e2
                injection e3 with e3
                rw [decide_eq_true e2, decide_eq_true e3] at hc1
                cases hc1
              | true =>
                rw [if_pos rfl]
                rw [Bool.and_eq_true, decide_eq_true_eq, decide_eq_true_eq] at hc1
                obtain ⟨e1, e2⟩ := hc1
                subst e1 e2
                (try simp only [mVar, mC, mOp, mUn, mNil, mCons, mTup, mLst, mCall, mCallX, mCallKX, mCB, mTest, mAnd, mOr, mNot, mYes, mAndV, mOrV, mNotV, mIf, mIsN, mNotN, mChain, mSeq, mNext, mBrk, mCnt, mRet, mRetN, mIfS, mDrop, mAsg, mOwn, mLstO, mListC, mLcO, oCatO, mShr, mApp, mPutI, mFrz, frz_w, mFor, mPar, mAug, mRaise, mTry, tryM, mKind, mLc, mList, mTupl, mListOwn, mRng1, mRng2, mEnum, mZip, mRev, mgName, mLenV, mIxV, mNoPart, mPart, mSl, wipeE, lcTurn, startE, oI_w, oB_w, oIC_w, oU_w, isB_w, oEq_w, oNe_w, exS_w, oIx_w, items_l, items_t, oLen_w, oAbs_w, oInt_i, oInt_b, oGcd_w, oMax_w, oMax3_w, oMin_w, oDivmod_w, oStr_w, oType_w, oIs1_w, oIs2_w, oIsTy_w, oCat_w, oIsN_w, oNotN_w, exD_w, exO_w, exD2_w, exO2_w, exL_w, exT_w, exI_w, ex1_w, ex1i_w, mSeqV_w, exX_w, seqOf_o, seqOf_d, mgCons_w, mgNil_w, mgTup_w, exPar_w, listC_w, putI_w, ixV_w, rng1_w, rng2_w, lcGo_n, lcGo_c, forGo_n, forGo_c, scEq_i, scEq_b, scEq_s, scEq_n, tyT, isNon, k_ii, k_ib, k_is, k_il, k_it, k_bi, k_bb, k_bs, k_bl, k_bt, k_ni, k_nb, k_ns, k_nl, k_nt, k_si, k_sb, k_ss, k_sl, k_st, k_li, k_lb, k_ls, k_ll, k_lt, k_ti, k_tb, k_ts, k_tl, k_tt, List.map_cons, List.map_nil, List.length_cons, List.length_nil, List.replicate, List.cons_append, List.nil_append, List.append_nil, List.getElem?_cons_zero, List.getElem?_cons_succ, List.set_cons_zero, List.set_cons_succ, Nat.sub_self, Nat.reduceAdd, Nat.reduceSub, List.replicate_zero, decide_eq_true_eq, Bool.true_eq_false, Bool.false_eq_true, if_true, if_false, reduceIte, Bool.not_eq_true', decide_eq_false_iff_not, Bool.not_true, Bool.not_false, exists_eq_left', true_and, and_true, Option.some.injEq, reduceCtorEq, decide_true, decide_false, not_true_eq_false, not_false_eq_true, Nat.reduceLT, Bool.or_false, Bool.or_true, Bool.false_or, Bool.true_or, Bool.and_true, Bool.true_and, Bool.and_false, Bool.false_and, true_implies, mFld, mFldS, mFldO, mProp, mMeth, mMethX, mInW, mCallXD, exOb_w, exOb2_w, exObD_w, exObD2_w, exObj_w, exObj0_w, exObjC_w, oIsNTy_w, mLcnt, eqD_ii, mJoin, oTupOf_w, oIsBl_w, cCalm])
                refine hk _ ⟨fun z => ⟨fs, rfl, by omega, hbr, of_decide_eq_true z⟩, fun ⟨fs2, e, _, _, h⟩ => ?_⟩
                injection e with e
                injection e with e _
                injection e with e
                have ef := flags_inj e
                subst ef
                exact decide_eq_true h
end
end Mt
namespace Mt
open PySem PySem.Spec PyProof.Rows L2 L2H
section
variable {P : Program} {w : World} {K : PySem.W.Frag} {mg : Str → Option Value} {base : Heap} {f : Addr} {fd : FuncData} {A : Ad} {tk : Nat → Tok} {aBurstRule : Addr}
theorem ok_is_bar_paper (F : Fun K "is_bar_paper" "is_bar_paper" s_is_bar_paper f fd) (Tx : Txt K mg A tk aBurstRule) (M_BurstRule : CalM P w K mg base "BurstRule" aBurstRule 4 ["self", "burst", "gap"] (SpI A aBurstRule 2 (c_BurstRule___init__ aBurstRule))) (C_check_setting : CalX P w K mg base "check_setting" 4 ["letters", "signs", "burst", "delay"] (SpU A 4 c_check_setting)) (C_is_counted : CalX P w K mg base "is_counted" 8 ["letters", "signs", "rule", "delay", "paper"] (SpU A 5 (c_is_counted aBurstRule))) :
    FnOk P w K mg base (CN P w) 9 f fd ["letters", "signs", "burst", "delay", "paper"] (SpU A 5 (c_is_bar_paper aBurstRule)) := by
  refine okN F sc_is_bar_paper (fun vs H Q E h => h.len) (fun cdv Ar outer s H vs Q E hr h => ?_)
  obtain ⟨st, P0, ds, k, XA, h1, h2, h3, hc, h5, h6⟩ := h
  refine ⟨_, (pss_cons (ps_expr (p_callX C_check_setting hr (L2N.takes_of rfl rfl rfl rfl) (pa_cons (pv 0) (pa_cons (pv 1) (pa_cons (pv 2) (pa_cons (pv 3) pa_nil)))) (by omega)))
      (pss_one (ps_ret (p_callX C_is_counted hr (L2N.takes_of rfl rfl rfl rfl) (pa_cons (pv 0) (pa_cons (pv 1) (pa_cons (p_makeX M_BurstRule hr (L2N.takes_of rfl rfl rfl rfl) (pa_cons (pv 2) (pa_cons (pv 3) pa_nil)) (by omega)) (pa_cons (pv 3) (pa_cons (pv 4) pa_nil))))) (by omega))))), ?_⟩
  refine runX (ms := ?ms) h1 h2 h5 h6 (fun _ _ _ _ h => h) ?r ?u
  case r => exact (rs_seq (rs_drop (re_callX (ra_cons re_var (ra_cons re_var (ra_cons re_var (ra_cons re_var ra_nil))))))
      (rs_ret (re_callX (ra_cons re_var (ra_cons re_var (ra_cons (re_makeX (ra_cons re_var (ra_cons re_var ra_nil))) (ra_cons re_var (ra_cons re_var ra_nil))))))))
  case u =>
    clear h1 h2 h5 h6 hr
    obtain ⟨l, w, b, d, v, n, rfl, ok, hv, ht, hk⟩ := hc
    have l0 := ok.l0
    have l1 := ok.l1
    have w0 := ok.w0
    have w1 := ok.w1
    have b0 := ok.b0
    have b1 := ok.b1
    have d0 := ok.d0
    have d1 := ok.d1
    (try simp only [mVar, mC, mOp, mUn, mNil, mCons, mTup, mLst, mCall, mCallX, mCallKX, mCB, mTest, mAnd, mOr, mNot, mYes, mAndV, mOrV, mNotV, mIf, mIsN, mNotN, mChain, mSeq, mNext, mBrk, mCnt, mRet, mRetN, mIfS, mDrop, mAsg, mOwn, mLstO, mListC, mLcO, oCatO, mShr, mApp, mPutI, mFrz, frz_w, mFor, mPar, mAug, mRaise, mTry, tryM, mKind, mLc, mList, mTupl, mListOwn, mRng1, mRng2, mEnum, mZip, mRev, mgName, mLenV, mIxV, mNoPart, mPart, mSl, wipeE, lcTurn, startE, oI_w, oB_w, oIC_w, oU_w, isB_w, oEq_w, oNe_w, exS_w, oIx_w, items_l, items_t, oLen_w, oAbs_w, oInt_i, oInt_b, oGcd_w, oMax_w, oMax3_w, oMin_w, oDivmod_w, oStr_w, oType_w, oIs1_w, oIs2_w, oIsTy_w, oCat_w, oIsN_w, oNotN_w, exD_w, exO_w, exD2_w, exO2_w, exL_w, exT_w, exI_w, ex1_w, ex1i_w, mSeqV_w, exX_w, seqOf_o, seqOf_d, mgCons_w, mgNil_w, mgTup_w, exPar_w, listC_w, putI_w, ixV_w, rng1_w, rng2_w, lcGo_n, lcGo_c, forGo_n, forGo_c, scEq_i, scEq_b, scEq_s, scEq_n, tyT, isNon, k_ii, k_ib, k_is, k_il, k_it, k_bi, k_bb, k_bs, k_bl, k_bt, k_ni, k_nb, k_ns, k_nl, k_nt, k_si, k_sb, k_ss, k_sl, k_st, k_li, k_lb, k_ls, k_ll, k_lt, k_ti, k_tb, k_ts, k_tl, k_tt, List.map_cons, List.map_nil, List.length_cons, List.length_nil, List.replicate, List.cons_append, List.nil_append, List.append_nil, List.getElem?_cons_zero, List.getElem?_cons_succ, List.set_cons_zero, List.set_cons_succ, Nat.sub_self, Nat.reduceAdd, Nat.reduceSub, List.replicate_zero, decide_eq_true_eq, Bool.true_eq_false, Bool.false_eq_true, if_true, if_false, reduceIte, Bool.not_eq_true', decide_eq_false_iff_not, Bool.not_true, Bool.not_false, exists_eq_left', true_and, and_true, Option.some.injEq, reduceCtorEq, decide_true, decide_false, not_true_eq_false, not_false_eq_true, Nat.reduceLT, Bool.or_false, Bool.or_true, Bool.false_or, Bool.true_or, Bool.and_true, Bool.true_and, Bool.and_false, Bool.false_and, true_implies, mFld, mFldS, mFldO, mProp, mMeth, mMethX, mInW, mCallXD, exOb_w, exOb2_w, exObD_w, exObD2_w, exObj_w, exObj0_w, exObjC_w, oIsNTy_w, mLcnt, eqD_ii, mJoin, oTupOf_w, oIsBl_w, cCalm])
    refine set_ok ok ⟨.int b, .int d, "int", "int", rfl, rfl, rfl, tf (wholeT_int b0 b1), fun bi e _ _ => ?_⟩
    cases e
    refine ⟨tf (wholeT_int d0 (by omega)), fun gi e _ _ => ?_⟩
    cases e
    exact ⟨l, w, b, d, d, v, n, rfl, l0, l1, by omega, w1, by omega, by omega, hv, ht, fun r hr => hk r hr⟩
end
end Mt
namespace Mt
open PySem PySem.Spec PyProof.Rows L2 L2H
section
variable {P : Program} {w : World} {K : PySem.W.Frag} {mg : Str → Option Value} {base : Heap} {f : Addr} {fd : FuncData} {A : Ad} {tk : Nat → Tok} {aBurstRule : Addr}
theorem ok_law_mixed (F : Fun K "_law_mixed" "_law_mixed" s_law_mixed f fd) (Tx : Txt K mg A tk aBurstRule)  : FnOk P w K mg base CX0 1 f fd ["number", "turn"] sp_mixed := by
  refine F.ok sc_law_mixed (fun vs H Q E h => ?_) (fun cdv A outer s H vs Q E hr h => ?_)
  · obtain ⟨a, b, rfl, _⟩ := h
    rfl
  · obtain ⟨a, b, rfl, q⟩ := h
    refine ⟨_, (pss_cons (ps_set (i := 2) sc_law_mixed.nd rfl (.inl rfl) (pe_op op_modN (pe_callTy call_intH (by rfl) Tx.m_int (by decide +kernel) (pa_cons (pe_op op_add (pe_op op_add (pe_op op_mul (pv 0) pe_int) (pe_op op_mul (pv 1) pe_int)) pe_int) pa_nil)) pe_int))
      (pss_cons (ps_set (i := 3) sc_law_mixed.nd rfl (.inl rfl) (pe_op op_modN (pe_callTy call_intH (by rfl) Tx.m_int (by decide +kernel) (pa_cons (pe_op op_add (pe_op op_add (pe_op op_mul (pv 2) (pv 2)) (pe_op op_fdivN (pv 2) pe_int)) (pv 1)) pa_nil)) pe_int))
      (pss_one (ps_ret (pe_op op_modN (pe_callTy call_intH (by rfl) Tx.m_int (by decide +kernel) (pa_cons (pe_op op_add (pe_op op_add (pe_op op_mul (pv 3) (pv 3)) (pe_op op_mul (pe_op op_fdivN (pv 3) pe_int) pe_int)) (pv 2)) pa_nil)) pe_int))))), ?_⟩
    simp only [w_seq, w_next, w_ret, w_asg, w_ifs, w_drop, w_brk, w_cont, w_name, w_var, w_c, w_op, w_un, w_I, w_I0, w_U, w_eq, w_scII, w_scBB, w_scSS, w_scNN, w_zi, w_zb, w_zn, w_zs, V.int.injEq, V.bl.injEq, V.str.injEq, V.ref.injEq, w_ne, w_test, w_B, w_and, w_or, w_not, w_andV, w_orV, w_notV, w_if, w_isN, w_nil, w_cons, w_cb, w_call, w_tup, w_lst, w_sub, w_intI, w_intB, w_isTyH, w_typ, w_isH, w_ixH, w_lenH, w_absH, w_listH, w_strH, w_bm, w_chain, w_exB, w_exV, w_start, k_ii, k_ib, k_is, k_il, k_it, k_bi, k_bb, k_bs, k_bl, k_bt, k_ni, k_nb, k_ns, k_nl, k_nt, k_si, k_sb, k_ss, k_sl, k_st, k_li, k_lb, k_ls, k_ll, k_lt, k_ti, k_tb, k_ts, k_tl, k_tt, w_st1, w_st2, w_st3, w_st5, atI_s0, atI_s1, atI_s2, atI_s3, atI_s4, atI_s5, List.map_cons, List.map_nil, List.length_cons, List.length_nil, List.replicate, List.cons_append, List.nil_append, List.append_nil, List.getElem?_cons_zero, List.getElem?_cons_succ, List.set_cons_zero, List.set_cons_succ, Nat.sub_self, Nat.reduceAdd, Nat.reduceSub, List.replicate_zero, decide_eq_true_eq, Bool.true_eq_false, Bool.false_eq_true, if_true, if_false, reduceIte, Bool.not_eq_true', decide_eq_false_iff_not, Bool.not_true, Bool.not_false, exists_eq_left', true_and, and_true, Option.some.injEq, reduceCtorEq, decide_true, decide_false, not_true_eq_false, not_false_eq_true, sizeLine_eq, Nat.reduceLeDiff, Bool.or_false, Bool.or_true, Bool.false_or, Bool.true_or, wp1, wp2, w_par, w_par2, w_tsl, w_nopart, w_part, w_exI]
    have h1 := fmod_pos (a := a * 2862933555777941757 + b * 3202034522624059733 + 1442695040888963407) (m := 2305843009213693951) (by decide)
    generalize (a * 2862933555777941757 + b * 3202034522624059733 + 1442695040888963407).fmod 2305843009213693951 = x at h1 ⊢
    refine ⟨cmul_r (by decide) (by decide), cmul_r (by decide) (by decide), by decide, cmul_l (by omega) (by omega), ⟨by decide, by decide⟩, by decide, ?_⟩
    have h2 := fmod_pos (a := x * x + x.fdiv 1000003 + b) (m := 1000000000000000003) (by decide)
    generalize (x * x + x.fdiv 1000003 + b).fmod 1000000000000000003 = y at h2 ⊢
    exact ⟨cmul_l (by omega) (by omega), ⟨by decide, by decide⟩, cmul_r (by decide) (by decide), by decide, q _ (fmod_pos (by decide)).1⟩
end
end Mt
namespace Mt
open PySem PySem.Spec PyProof.Rows L2 L2H
section
variable {P : Program} {w : World} {K : PySem.W.Frag} {mg : Str → Option Value} {base : Heap} {f : Addr} {fd : FuncData} {A : Ad} {tk : Nat → Tok} {aBurstRule : Addr}
theorem ok_law_store (F : Fun K "_law_store" "_law_store" s_law_store f fd) (Tx : Txt K mg A tk aBurstRule)  : FnOk P w K mg base CX0 1 f fd ["script"] (sp_store K) := by
  refine F.ok sc_law_store (fun vs H Q E h => ?_) (fun cdv A outer s H vs Q E hr h => ?_)
  · obtain ⟨a, ns, rfl, _⟩ := h
    rfl
  · obtain ⟨a, ns, rfl, hL, hn, q⟩ := h
    refine ⟨_, (pss_cons (ps_set (i := 1) sc_law_store.nd rfl (.inl rfl) (pe_op op_add (pe_callB call_len_seq (by rfl) Tx.m_len (by decide +kernel) (pa_cons (pv 0) pa_nil)) pe_int))
      (pss_cons (ps_for PassesOwn.never rfl (pi_list (pv 0)) (pg_name (i := 2) sc_law_store.nd rfl (.inl rfl)) (pss_one (ps_set (i := 1) sc_law_store.nd rfl (.inl rfl) (pe_op op_modN (pe_callTy call_intH (by rfl) Tx.m_int (by decide +kernel) (pa_cons (pe_op op_add (pe_op op_mul (pv 1) pe_int) (pv 2)) pa_nil)) pe_int))))
      (pss_one (ps_ret (pe_lst (pa_cons (pe_callTy call_list_of (by rfl) Tx.m_list (by decide +kernel) (pa_cons (pv 0) pa_nil)) (pa_cons pe_int (pa_cons pe_int (pa_cons pe_int (pa_cons (pv 1) (pa_cons pe_int pa_nil))))))))))), ?_⟩
    simp only [w_seq, w_next, w_ret, w_asg, w_ifs, w_drop, w_brk, w_cont, w_name, w_var, w_c, w_op, w_un, w_I, w_I0, w_U, w_eq, w_scII, w_scBB, w_scSS, w_scNN, w_zi, w_zb, w_zn, w_zs, V.int.injEq, V.bl.injEq, V.str.injEq, V.ref.injEq, w_ne, w_test, w_B, w_and, w_or, w_not, w_andV, w_orV, w_notV, w_if, w_isN, w_nil, w_cons, w_cb, w_call, w_tup, w_lst, w_sub, w_intI, w_intB, w_isTyH, w_typ, w_isH, w_ixH, w_lenH, w_absH, w_listH, w_strH, w_bm, w_chain, w_exB, w_exV, w_start, k_ii, k_ib, k_is, k_il, k_it, k_bi, k_bb, k_bs, k_bl, k_bt, k_ni, k_nb, k_ns, k_nl, k_nt, k_si, k_sb, k_ss, k_sl, k_st, k_li, k_lb, k_ls, k_ll, k_lt, k_ti, k_tb, k_ts, k_tl, k_tt, w_st1, w_st2, w_st3, w_st5, atI_s0, atI_s1, atI_s2, atI_s3, atI_s4, atI_s5, List.map_cons, List.map_nil, List.length_cons, List.length_nil, List.replicate, List.cons_append, List.nil_append, List.append_nil, List.getElem?_cons_zero, List.getElem?_cons_succ, List.set_cons_zero, List.set_cons_succ, Nat.sub_self, Nat.reduceAdd, Nat.reduceSub, List.replicate_zero, decide_eq_true_eq, Bool.true_eq_false, Bool.false_eq_true, if_true, if_false, reduceIte, Bool.not_eq_true', decide_eq_false_iff_not, Bool.not_true, Bool.not_false, exists_eq_left', true_and, and_true, Option.some.injEq, reduceCtorEq, decide_true, decide_false, not_true_eq_false, not_false_eq_true, sizeLine_eq, Nat.reduceLeDiff, Bool.or_false, Bool.or_true, Bool.false_or, Bool.true_or, wp1, wp2, w_par, w_par2, w_tsl, w_nopart, w_part, w_exI]
    refine ⟨a, _, rfl, Or.inl hL, ?_⟩
    refine ⟨_, rfl, a, rfl, ⟨_, hL⟩, for_list (K := K) (a := a) (xs := ns.map V.int) (fun i σ H' => ∃ (x : Int) (y : Option V), σ = [some (.ref a), some (.int x), y] ∧ H' = H) ⟨_, _, rfl, rfl⟩ (fun i σ H' _ ⟨_, _, _, e⟩ => by rw [e]; exact hL) ?_ ?_⟩
    · rintro i y σ H' hi ⟨x, y', rfl, rfl⟩
      obtain ⟨z, _, rfl⟩ := ints_at hi
      simp only [w_seq, w_next, w_ret, w_asg, w_ifs, w_drop, w_brk, w_cont, w_name, w_var, w_c, w_op, w_un, w_I, w_I0, w_U, w_eq, w_scII, w_scBB, w_scSS, w_scNN, w_zi, w_zb, w_zn, w_zs, V.int.injEq, V.bl.injEq, V.str.injEq, V.ref.injEq, w_ne, w_test, w_B, w_and, w_or, w_not, w_andV, w_orV, w_notV, w_if, w_isN, w_nil, w_cons, w_cb, w_call, w_tup, w_lst, w_sub, w_intI, w_intB, w_isTyH, w_typ, w_isH, w_ixH, w_lenH, w_absH, w_listH, w_strH, w_bm, w_chain, w_exB, w_exV, w_start, k_ii, k_ib, k_is, k_il, k_it, k_bi, k_bb, k_bs, k_bl, k_bt, k_ni, k_nb, k_ns, k_nl, k_nt, k_si, k_sb, k_ss, k_sl, k_st, k_li, k_lb, k_ls, k_ll, k_lt, k_ti, k_tb, k_ts, k_tl, k_tt, w_st1, w_st2, w_st3, w_st5, atI_s0, atI_s1, atI_s2, atI_s3, atI_s4, atI_s5, List.map_cons, List.map_nil, List.length_cons, List.length_nil, List.replicate, List.cons_append, List.nil_append, List.append_nil, List.getElem?_cons_zero, List.getElem?_cons_succ, List.set_cons_zero, List.set_cons_succ, Nat.sub_self, Nat.reduceAdd, Nat.reduceSub, List.replicate_zero, decide_eq_true_eq, Bool.true_eq_false, Bool.false_eq_true, if_true, if_false, reduceIte, Bool.not_eq_true', decide_eq_false_iff_not, Bool.not_true, Bool.not_false, exists_eq_left', true_and, and_true, Option.some.injEq, reduceCtorEq, decide_true, decide_false, not_true_eq_false, not_false_eq_true, sizeLine_eq, Nat.reduceLeDiff, Bool.or_false, Bool.or_true, Bool.false_or, Bool.true_or, wp1, wp2, w_par, w_par2, w_tsl, w_nopart, w_part, w_exI]
      exact ⟨cmul_r (by decide) (by decide), by decide, _, _, rfl⟩
    · rintro σ H' ⟨x, y, rfl, rfl⟩
      simp only [w_seq, w_next, w_ret, w_asg, w_ifs, w_drop, w_brk, w_cont, w_name, w_var, w_c, w_op, w_un, w_I, w_I0, w_U, w_eq, w_scII, w_scBB, w_scSS, w_scNN, w_zi, w_zb, w_zn, w_zs, V.int.injEq, V.bl.injEq, V.str.injEq, V.ref.injEq, w_ne, w_test, w_B, w_and, w_or, w_not, w_andV, w_orV, w_notV, w_if, w_isN, w_nil, w_cons, w_cb, w_call, w_tup, w_lst, w_sub, w_intI, w_intB, w_isTyH, w_typ, w_isH, w_ixH, w_lenH, w_absH, w_listH, w_strH, w_bm, w_chain, w_exB, w_exV, w_start, k_ii, k_ib, k_is, k_il, k_it, k_bi, k_bb, k_bs, k_bl, k_bt, k_ni, k_nb, k_ns, k_nl, k_nt, k_si, k_sb, k_ss, k_sl, k_st, k_li, k_lb, k_ls, k_ll, k_lt, k_ti, k_tb, k_ts, k_tl, k_tt, w_st1, w_st2, w_st3, w_st5, atI_s0, atI_s1, atI_s2, atI_s3, atI_s4, atI_s5, List.map_cons, List.map_nil, List.length_cons, List.length_nil, List.replicate, List.cons_append, List.nil_append, List.append_nil, List.getElem?_cons_zero, List.getElem?_cons_succ, List.set_cons_zero, List.set_cons_succ, Nat.sub_self, Nat.reduceAdd, Nat.reduceSub, List.replicate_zero, decide_eq_true_eq, Bool.true_eq_false, Bool.false_eq_true, if_true, if_false, reduceIte, Bool.not_eq_true', decide_eq_false_iff_not, Bool.not_true, Bool.not_false, exists_eq_left', true_and, and_true, Option.some.injEq, reduceCtorEq, decide_true, decide_false, not_true_eq_false, not_false_eq_true, sizeLine_eq, Nat.reduceLeDiff, Bool.or_false, Bool.or_true, Bool.false_or, Bool.true_or, wp1, wp2, w_par, w_par2, w_tsl, w_nopart, w_part, w_exI]
      refine ⟨a, _, rfl, Or.inl hL, fun l hl p hp => ?_⟩
      have hlp : l ≠ p := fun e => by
        rw [e, upd_same] at hp
        cases hp
      have hp' : H' p = none := by
        rw [upd_ne (fun e => hlp e.symm)] at hp
        exact hp
      exact q (upd H' l (.lst (ns.map V.int))) p ⟨l, ns, 0, 0, 0, x, 0⟩ (same_new hl) hp' hp ⟨upd_same, Int.le_refl 0, Int.natCast_nonneg _, Int.le_refl 0, fun z => absurd z (Int.lt_irrefl 0)⟩
end
end Mt
namespace Mt
open PySem PySem.Spec PyProof.Rows L2 L2H
section
variable {P : Program} {w : World} {K : PySem.W.Frag} {mg : Str → Option Value} {base : Heap} {f : Addr} {fd : FuncData} {A : Ad} {tk : Nat → Tok} {aBurstRule : Addr}
theorem atI_ns {ns : List Int} {i : Int} (h0 : 0 ≤ i) (h1 : i < ns.length) : ∃ z, atI (ns.map V.int) i = some (.int z) := by
  have h2 : i.toNat < (ns.map V.int).length := by
    rw [List.length_map]
    omega
  obtain ⟨j, rfl⟩ : ∃ j : Nat, i = (j : Int) := ⟨i.toNat, by omega⟩
  refine ⟨ns[j]'(by omega), atI_nat ?_⟩
  rw [List.getElem?_map, List.getElem?_eq_getElem (by omega)]
  rfl
theorem w_mixed {a b : Int} {H : Hp} {Q : VK} {E : XK} : sp_mixed [.int a, .int b] H Q E = ∀ r : Int, 0 ≤ r → Q (.int r) H := by
  refine propext ⟨fun ⟨a', b', e, q⟩ => ?_, fun q => ⟨a, b, rfl, q⟩⟩
  cases e
  exact q
theorem ok_take0 (F : Fun K "_law_take" "_law_take" s_law_take f fd) (Tx : Txt K mg A tk aBurstRule) (C_law_mixed : Cal P w K mg base "_law_mixed" 1 ["number", "turn"] sp_mixed) : FnOk P w K mg base CX0 2 f fd ["store", "many"] sp_take := by
  refine F.ok sc_law_take (fun vs H Q E h => ?_) (fun cdv A outer s H vs Q E hr h => ?_)
  · obtain ⟨G, s, t, m, rfl, _⟩ := h
    rfl
  · obtain ⟨G, st, t, m, rfl, rfl, hs, ok, hm, q⟩ := h
    refine ⟨_, (pss_cons (ps_if (pt_cmpR op_lt (pv 1) pe_int (nomark _)) (pss_one (ps_ret pe_int)) pss_nil)
      (pss_cons (ps_if (pt_cmpR op_gt (pe_ix ix_H (pv 0) pe_int (fun _ _ => rfl)) pe_int (nomark _)) (pss_cons (ps_set (i := 2) sc_law_take.nd rfl (.inl rfl) (pe_ix ix_H (pv 0) pe_int (fun _ _ => rfl)))
      (pss_cons (ps_asg (pe_op op_fdivW (pv 2) (pv 1)) (pg_sub (pv 0) pe_int set_list))
      (pss_one (ps_ret (pe_op op_modN (pe_callTy call_intH (by rfl) Tx.m_int (by decide +kernel) (pa_cons (pv 2) pa_nil)) (pv 1)))))) pss_nil)
      (pss_cons (ps_if (PW.pt (pw_and (pt_cmpR op_eq (pe_ix ix_H (pv 0) pe_int (fun _ _ => rfl)) pe_int (nomark _)) (pw_and1 (pt_cmpR op_lt (pe_ix ix_H (pv 0) pe_int (fun _ _ => rfl)) (pe_callB call_lenH (by rfl) Tx.m_len (by decide +kernel) (pa_cons (pe_ix ix_H (pv 0) pe_int (fun _ _ => rfl)) pa_nil)) (nomark _))))) (pss_cons (ps_set (i := 2) sc_law_take.nd rfl (.inl rfl) (pe_callB call_absH (by rfl) Tx.m_abs (by decide +kernel) (pa_cons (pe_ix ix_H (pe_ix ix_H (pv 0) pe_int (fun _ _ => rfl)) (pe_ix ix_H (pv 0) pe_int (fun _ _ => rfl)) (fun _ _ => rfl)) pa_nil)))
      (pss_cons (ps_asg (pe_op op_add (pe_ix ix_H (pv 0) pe_int (fun _ _ => rfl)) pe_int) (pg_sub (pv 0) pe_int set_list))
      (pss_cons (ps_if (pt_cmpR op_ge (pv 2) (pe_op op_pow pe_int pe_int) (nomark _)) (pss_cons (ps_asg (pe_op op_fdivW (pv 2) (pv 1)) (pg_sub (pv 0) pe_int set_list))
      (pss_one (ps_ret (pe_op op_modN (pe_callTy call_intH (by rfl) Tx.m_int (by decide +kernel) (pa_cons (pv 2) pa_nil)) (pv 1))))) pss_nil)
      (pss_one (ps_asg pe_int (pg_sub (pv 0) pe_int set_list)))))) pss_nil)
      (pss_cons (ps_if (pt_cmpR op_gt (pe_ix ix_H (pv 0) pe_int (fun _ _ => rfl)) pe_int (nomark _)) (pss_cons (ps_asg (pe_op op_sub (pe_ix ix_H (pv 0) pe_int (fun _ _ => rfl)) pe_int) (pg_sub (pv 0) pe_int set_list))
      (pss_one (ps_ret (pe_op op_modN (pe_callTy call_intH (by rfl) Tx.m_int (by decide +kernel) (pa_cons (p_call C_law_mixed hr (pa_cons (pe_op op_add (pe_op op_mul (pe_ix ix_H (pe_ix ix_H (pv 0) pe_int (fun _ _ => rfl)) (pe_op op_sub (pe_ix ix_H (pv 0) pe_int (fun _ _ => rfl)) pe_int) (fun _ _ => rfl)) pe_int) (pe_ix ix_H (pv 0) pe_int (fun _ _ => rfl))) (pa_cons (pe_ix ix_H (pv 0) pe_int (fun _ _ => rfl)) pa_nil)) (by omega)) pa_nil)) (pv 1))))) pss_nil)
      (pss_cons (ps_asg (pe_op op_add (pe_ix ix_H (pv 0) pe_int (fun _ _ => rfl)) pe_int) (pg_sub (pv 0) pe_int set_list))
      (pss_one (ps_ret (pe_op op_modN (pe_callTy call_intH (by rfl) Tx.m_int (by decide +kernel) (pa_cons (p_call C_law_mixed hr (pa_cons (pe_ix ix_H (pv 0) pe_int (fun _ _ => rfl)) (pa_cons (pe_op op_add pe_int (pe_ix ix_H (pv 0) pe_int (fun _ _ => rfl))) pa_nil)) (by omega)) pa_nil)) (pv 1))))))))), ?_⟩
    have hS : ∀ t, seqAt (Wr G st t) st = some (stV t) := fun t => seqAt_l wr_s
    have hL : ∀ i c g e j : Int, seqAt (Wr G st ⟨t.l, t.ns, i, c, g, e, j⟩) t.l = some (t.ns.map V.int) := fun i c g e j => seqAt_l (by
      show upd G st _ t.l = _
      rw [upd_ne (ne_of_none ok.at_ hs)]
      exact ok.at_)
    have hL0 : seqAt (Wr G st t) t.l = some (t.ns.map V.int) := hL t.i t.c t.g t.seed t.j
    have hm0 : ∀ x : Int, ¬ m < 2 → 0 ≤ x.fmod m ∧ x.fmod m < m := fun x h => fmod_pos (by omega)
    have cd : ∀ x : Int, ¬ m < 2 → CDivW x m := fun x h => wide_div (b := 200) (by omega) hm (by decide) (by decide)
    have mk : ∀ i c g e j : Int, 0 ≤ i → i ≤ t.ns.length → 0 ≤ g → (0 < g → 1 ≤ i) → StOk G ⟨t.l, t.ns, i, c, g, e, j⟩ := fun i c g e j h1 h2 h3 h4 => ⟨ok.at_, h1, h2, h3, h4⟩
    have i0 := ok.i0
    have il := ok.il
    have g0 := ok.g0
    have gi := ok.gi
    have pw : (10 : Int) ^ Int.toNat 18 = 1000000000000000000 := by decide
    have cp : CPow 10 18 := ⟨by decide, by decide, by decide⟩
    simp only [w_seq, w_next, w_ret, w_asg, w_ifs, w_drop, w_brk, w_cont, w_name, w_var, w_c, w_op, w_un, w_I, w_I0, w_U, w_eq, w_scII, w_scBB, w_scSS, w_scNN, w_zi, w_zb, w_zn, w_zs, V.int.injEq, V.bl.injEq, V.str.injEq, V.ref.injEq, w_ne, w_test, w_B, w_and, w_or, w_not, w_andV, w_orV, w_notV, w_if, w_isN, w_nil, w_cons, w_cb, w_call, w_tup, w_lst, w_sub, w_intI, w_intB, w_isTyH, w_typ, w_isH, w_ixH, w_lenH, w_absH, w_listH, w_strH, w_bm, w_chain, w_exB, w_exV, w_start, k_ii, k_ib, k_is, k_il, k_it, k_bi, k_bb, k_bs, k_bl, k_bt, k_ni, k_nb, k_ns, k_nl, k_nt, k_si, k_sb, k_ss, k_sl, k_st, k_li, k_lb, k_ls, k_ll, k_lt, k_ti, k_tb, k_ts, k_tl, k_tt, w_st1, w_st2, w_st3, w_st5, atI_s0, atI_s1, atI_s2, atI_s3, atI_s4, atI_s5, List.map_cons, List.map_nil, List.length_cons, List.length_nil, List.replicate, List.cons_append, List.nil_append, List.append_nil, List.getElem?_cons_zero, List.getElem?_cons_succ, List.set_cons_zero, List.set_cons_succ, Nat.sub_self, Nat.reduceAdd, Nat.reduceSub, List.replicate_zero, decide_eq_true_eq, Bool.true_eq_false, Bool.false_eq_true, if_true, if_false, reduceIte, Bool.not_eq_true', decide_eq_false_iff_not, Bool.not_true, Bool.not_false, exists_eq_left', true_and, and_true, Option.some.injEq, reduceCtorEq, decide_true, decide_false, not_true_eq_false, not_false_eq_true, sizeLine_eq, Nat.reduceLeDiff, Bool.or_false, Bool.or_true, Bool.false_or, Bool.true_or, wp1, wp2, w_par, w_par2, w_tsl, w_nopart, w_part, w_exI, hS, hL, hL0, w_mixed, List.length_map, pw]
    refine ite2 (fun h => q 0 t ok rfl rfl (Int.le_refl 0) (Or.inr ⟨h, rfl⟩)) (fun hm2 => ?_)
    have m0 : m ≠ 0 := by omega
    -- a mixed number of the last cell
    have again : ∀ i g : Int, 1 ≤ i → i ≤ t.ns.length → 0 < g → ∃ v, atI (t.ns.map V.int) (i - 1) = some v ∧ rI CMul (fun i j => V.int (i * j)) v (V.int 1000) (Wr G st ⟨t.l, t.ns, i, t.c, g - 1, t.seed, t.j⟩) fun x H1 =>
        ∃ xs, seqAt H1 st = some xs ∧ ∃ v, atI xs 1 = some v ∧ rI0 (fun i j => V.int (i + j)) x v H1 fun x H1 => ∃ xs, seqAt H1 st = some xs ∧ ∃ v, atI xs 3 = some v ∧
          sp_mixed [x, v] H1 (fun x H1 => rInt1 [x] H1 fun x H1 => rI (fun x j => j ≠ 0) (fun i j => V.int (i.fmod j)) x (V.int m) H1 Q) E0 := fun i g h1 h2 h3 => by
      obtain ⟨z, hz⟩ := atI_ns (ns := t.ns) (i := i - 1) (by omega) (by omega)
      refine ⟨_, hz, ?_⟩
      simp only [w_seq, w_next, w_ret, w_asg, w_ifs, w_drop, w_brk, w_cont, w_name, w_var, w_c, w_op, w_un, w_I, w_I0, w_U, w_eq, w_scII, w_scBB, w_scSS, w_scNN, w_zi, w_zb, w_zn, w_zs, V.int.injEq, V.bl.injEq, V.str.injEq, V.ref.injEq, w_ne, w_test, w_B, w_and, w_or, w_not, w_andV, w_orV, w_notV, w_if, w_isN, w_nil, w_cons, w_cb, w_call, w_tup, w_lst, w_sub, w_intI, w_intB, w_isTyH, w_typ, w_isH, w_ixH, w_lenH, w_absH, w_listH, w_strH, w_bm, w_chain, w_exB, w_exV, w_start, k_ii, k_ib, k_is, k_il, k_it, k_bi, k_bb, k_bs, k_bl, k_bt, k_ni, k_nb, k_ns, k_nl, k_nt, k_si, k_sb, k_ss, k_sl, k_st, k_li, k_lb, k_ls, k_ll, k_lt, k_ti, k_tb, k_ts, k_tl, k_tt, w_st1, w_st2, w_st3, w_st5, atI_s0, atI_s1, atI_s2, atI_s3, atI_s4, atI_s5, List.map_cons, List.map_nil, List.length_cons, List.length_nil, List.replicate, List.cons_append, List.nil_append, List.append_nil, List.getElem?_cons_zero, List.getElem?_cons_succ, List.set_cons_zero, List.set_cons_succ, Nat.sub_self, Nat.reduceAdd, Nat.reduceSub, List.replicate_zero, decide_eq_true_eq, Bool.true_eq_false, Bool.false_eq_true, if_true, if_false, reduceIte, Bool.not_eq_true', decide_eq_false_iff_not, Bool.not_true, Bool.not_false, exists_eq_left', true_and, and_true, Option.some.injEq, reduceCtorEq, decide_true, decide_false, not_true_eq_false, not_false_eq_true, sizeLine_eq, Nat.reduceLeDiff, Bool.or_false, Bool.or_true, Bool.false_or, Bool.true_or, wp1, wp2, w_par, w_par2, w_tsl, w_nopart, w_part, w_exI, hS, w_mixed]
      exact ⟨cmul_r (by decide) (by decide), fun r _ => ⟨m0, q _ _ (mk _ _ _ _ _ (by omega) h2 (by omega) (fun _ => h1)) rfl rfl (hm0 r hm2).1 (Or.inl (hm0 r hm2).2)⟩⟩
    refine ite2 (fun h => ⟨cd _ hm2, m0, q _ _ (mk _ _ _ _ _ i0 il g0 gi) rfl rfl (hm0 t.c hm2).1 (Or.inl (hm0 t.c hm2).2)⟩) (fun _ => ?_)
    have last : ∀ r : Int, 0 ≤ r → m ≠ 0 ∧ Q (.int (r.fmod m)) (Wr G st ⟨t.l, t.ns, t.i, t.c, t.g, t.seed, t.j + 1⟩) := fun r _ => ⟨m0, q _ _ (mk _ _ _ _ _ i0 il g0 gi) rfl rfl (hm0 r hm2).1 (Or.inl (hm0 r hm2).2)⟩
    refine ite2 (fun hg => ?_) (fun hg => ite2 (fun h => again t.i t.g (gi h) il h) (fun _ => last))
    refine ite2 (fun hi => ?_) (fun _ => ite2 (fun h => again t.i t.g (gi h) il h) (fun _ => last))
    obtain ⟨z, hz⟩ := atI_ns (ns := t.ns) i0 hi
    refine ⟨_, hz, ?_⟩
    simp only [w_seq, w_next, w_ret, w_asg, w_ifs, w_drop, w_brk, w_cont, w_name, w_var, w_c, w_op, w_un, w_I, w_I0, w_U, w_eq, w_scII, w_scBB, w_scSS, w_scNN, w_zi, w_zb, w_zn, w_zs, V.int.injEq, V.bl.injEq, V.str.injEq, V.ref.injEq, w_ne, w_test, w_B, w_and, w_or, w_not, w_andV, w_orV, w_notV, w_if, w_isN, w_nil, w_cons, w_cb, w_call, w_tup, w_lst, w_sub, w_intI, w_intB, w_isTyH, w_typ, w_isH, w_ixH, w_lenH, w_absH, w_listH, w_strH, w_bm, w_chain, w_exB, w_exV, w_start, k_ii, k_ib, k_is, k_il, k_it, k_bi, k_bb, k_bs, k_bl, k_bt, k_ni, k_nb, k_ns, k_nl, k_nt, k_si, k_sb, k_ss, k_sl, k_st, k_li, k_lb, k_ls, k_ll, k_lt, k_ti, k_tb, k_ts, k_tl, k_tt, w_st1, w_st2, w_st3, w_st5, atI_s0, atI_s1, atI_s2, atI_s3, atI_s4, atI_s5, List.map_cons, List.map_nil, List.length_cons, List.length_nil, List.replicate, List.cons_append, List.nil_append, List.append_nil, List.getElem?_cons_zero, List.getElem?_cons_succ, List.set_cons_zero, List.set_cons_succ, Nat.sub_self, Nat.reduceAdd, Nat.reduceSub, List.replicate_zero, decide_eq_true_eq, Bool.true_eq_false, Bool.false_eq_true, if_true, if_false, reduceIte, Bool.not_eq_true', decide_eq_false_iff_not, Bool.not_true, Bool.not_false, exists_eq_left', true_and, and_true, Option.some.injEq, reduceCtorEq, decide_true, decide_false, not_true_eq_false, not_false_eq_true, sizeLine_eq, Nat.reduceLeDiff, Bool.or_false, Bool.or_true, Bool.false_or, Bool.true_or, wp1, wp2, w_par, w_par2, w_tsl, w_nopart, w_part, w_exI, hS, hL, w_mixed, pw]
    refine ⟨cp, ite2 (fun h => ⟨cd _ hm2, m0, q _ _ (mk _ _ _ _ _ (by omega) (by omega) g0 (fun _ => by omega)) rfl rfl (hm0 _ hm2).1 (Or.inl (hm0 _ hm2).2)⟩) (fun _ => ?_)⟩
    exact again (t.i + 1) 4 (by omega) (by omega) (by decide)
theorem ok_law_take (F : Fun K "_law_take" "_law_take" s_law_take f fd) (Tx : Txt K mg A tk aBurstRule) (C_law_mixed : Cal P w K mg base "_law_mixed" 1 ["number", "turn"] sp_mixed) : FnOk P w K mg base CX0 2 f fd ["store", "many"] (SpU A 2 c_law_take) := (ok_take0 F Tx C_law_mixed).imp fun vs H Q E h => take_spec h
end
end Mt
namespace Mt
open PySem PySem.Spec PyProof.Rows L2 L2H
section
variable {P : Program} {w : World} {K : PySem.W.Frag} {mg : Str → Option Value} {base : Heap} {f : Addr} {fd : FuncData} {A : Ad} {tk : Nat → Tok} {aBurstRule : Addr}
theorem ok_law_edge (F : Fun K "_law_edge" "_law_edge" s_law_edge f fd) (Tx : Txt K mg A tk aBurstRule) (C_law_take : Cal P w K mg base "_law_take" 2 ["store", "many"] (SpU A 2 c_law_take)) :
    FnOk P w K mg base CX0 3 f fd ["store", "low", "high"] (SpU A 3 c_law_edge) := by
  refine F.ok sc_law_edge (fun vs H Q E h => h.len) (fun cdv Ar outer s H vs Q E hr h => ?_)
  obtain ⟨st, P0, ds, k, XA, h1, h2, h3, hc, h5, h6⟩ := h
  refine ⟨_, (pss_cons (ps_if (pt_cmpR op_le (pv 2) (pv 1) (nomark _)) (pss_one (ps_ret (pv 1))) pss_nil)
      (pss_cons (ps_set (i := 3) sc_law_edge.nd rfl (.inl rfl) (p_call C_law_take hr (pa_cons (pv 0) (pa_cons pe_int pa_nil)) (by omega)))
      (pss_cons (ps_if (pt_cmpR op_eq (pv 3) pe_int (nomark _)) (pss_one (ps_ret (pv 1))) pss_nil)
      (pss_cons (ps_if (pt_cmpR op_eq (pv 3) pe_int (nomark _)) (pss_one (ps_ret (pv 2))) pss_nil)
      (pss_cons (ps_if (pt_cmpR op_eq (pv 3) pe_int (nomark _)) (pss_one (ps_ret (pe_ix ix_H (pe_lst (pa_cons (pe_op op_add (pv 1) pe_int) (pa_cons (pe_op op_sub (pv 2) pe_int) pa_nil))) (p_call C_law_take hr (pa_cons (pv 0) (pa_cons pe_int pa_nil)) (by omega)) (fun _ _ => rfl)))) pss_nil)
      (pss_one (ps_ret (pe_op op_add (pv 1) (p_call C_law_take hr (pa_cons (pv 0) (pa_cons (pe_op op_add (pe_op op_sub (pv 2) (pv 1)) pe_int) pa_nil)) (by omega)))))))))), ?_⟩
  refine run0 (A := A) (ms := ?ms) (XA := XA) h1 h2 h5 ?r ?u
  case r => exact (rs_seq (rs_if (rt_test (re_op ro_bool re_var re_var)) (rs_ret re_var) rs_next)
      (rs_seq (rs_asg (re_call (ra_cons re_var (ra_cons re_int ra_nil))) rg_name)
      (rs_seq (rs_if (rt_test (re_op ro_eq re_var re_int)) (rs_ret re_var) rs_next)
      (rs_seq (rs_if (rt_test (re_op ro_eq re_var re_int)) (rs_ret re_var) rs_next)
      (rs_seq (rs_if (rt_test (re_op ro_eq re_var re_int)) (rs_ret (re_op ro_ix (re_lst (ra_cons (re_op ro_int re_var re_int) (ra_cons (re_op ro_int re_var re_int) ra_nil))) (re_call (ra_cons re_var (ra_cons re_int ra_nil))))) rs_next)
      (rs_ret (re_op ro_int re_var (re_call (ra_cons re_var (ra_cons (re_op ro_int (re_op ro_int re_var re_var) re_int) ra_nil))))))))))
  case u =>
    clear h1 h2 h5 h6 hr
    obtain ⟨lo, hi, rfl, h0, h1, hk⟩ := hc
    (try simp only [mVar, mC, mOp, mUn, mNil, mCons, mTup, mLst, mCall, mCallX, mCallKX, mCB, mTest, mAnd, mOr, mNot, mYes, mAndV, mOrV, mNotV, mIf, mIsN, mNotN, mChain, mSeq, mNext, mBrk, mCnt, mRet, mRetN, mIfS, mDrop, mAsg, mOwn, mLstO, mListC, mLcO, oCatO, mShr, mApp, mPutI, mFrz, frz_w, mFor, mPar, mAug, mRaise, mTry, tryM, mKind, mLc, mList, mTupl, mListOwn, mRng1, mRng2, mEnum, mZip, mRev, mgName, mLenV, mIxV, mNoPart, mPart, mSl, wipeE, lcTurn, startE, oI_w, oB_w, oIC_w, oU_w, isB_w, oEq_w, oNe_w, exS_w, oIx_w, items_l, items_t, oLen_w, oAbs_w, oInt_i, oInt_b, oGcd_w, oMax_w, oMax3_w, oMin_w, oDivmod_w, oStr_w, oType_w, oIs1_w, oIs2_w, oIsTy_w, oCat_w, oIsN_w, oNotN_w, exD_w, exO_w, exD2_w, exO2_w, exL_w, exT_w, exI_w, ex1_w, ex1i_w, mSeqV_w, exX_w, seqOf_o, seqOf_d, mgCons_w, mgNil_w, mgTup_w, exPar_w, listC_w, putI_w, ixV_w, rng1_w, rng2_w, lcGo_n, lcGo_c, forGo_n, forGo_c, scEq_i, scEq_b, scEq_s, scEq_n, tyT, isNon, k_ii, k_ib, k_is, k_il, k_it, k_bi, k_bb, k_bs, k_bl, k_bt, k_ni, k_nb, k_ns, k_nl, k_nt, k_si, k_sb, k_ss, k_sl, k_st, k_li, k_lb, k_ls, k_ll, k_lt, k_ti, k_tb, k_ts, k_tl, k_tt, List.map_cons, List.map_nil, List.length_cons, List.length_nil, List.replicate, List.cons_append, List.nil_append, List.append_nil, List.getElem?_cons_zero, List.getElem?_cons_succ, List.set_cons_zero, List.set_cons_succ, Nat.sub_self, Nat.reduceAdd, Nat.reduceSub, List.replicate_zero, decide_eq_true_eq, Bool.true_eq_false, Bool.false_eq_true, if_true, if_false, reduceIte, Bool.not_eq_true', decide_eq_false_iff_not, Bool.not_true, Bool.not_false, exists_eq_left', true_and, and_true, Option.some.injEq, reduceCtorEq, decide_true, decide_false, not_true_eq_false, not_false_eq_true, Nat.reduceLT, Bool.or_false, Bool.or_true, Bool.false_or, Bool.true_or, Bool.and_true, Bool.true_and, Bool.and_false, Bool.false_and, true_implies, mFld, mFldS, mFldO, mProp, mMeth, mMethX, mInW, mCallXD, exOb_w, exOb2_w, exObD_w, exObD2_w, exObj_w, exObj0_w, exObjC_w, oIsNTy_w, mLcnt, eqD_ii, mJoin, oTupOf_w, oIsBl_w, cCalm])
    refine ite2 (fun _ => hk lo (by omega) h0) (fun z => ⟨9, rfl, by decide, fun w _ _ => ?_⟩)
    (try simp only [mVar, mC, mOp, mUn, mNil, mCons, mTup, mLst, mCall, mCallX, mCallKX, mCB, mTest, mAnd, mOr, mNot, mYes, mAndV, mOrV, mNotV, mIf, mIsN, mNotN, mChain, mSeq, mNext, mBrk, mCnt, mRet, mRetN, mIfS, mDrop, mAsg, mOwn, mLstO, mListC, mLcO, oCatO, mShr, mApp, mPutI, mFrz, frz_w, mFor, mPar, mAug, mRaise, mTry, tryM, mKind, mLc, mList, mTupl, mListOwn, mRng1, mRng2, mEnum, mZip, mRev, mgName, mLenV, mIxV, mNoPart, mPart, mSl, wipeE, lcTurn, startE, oI_w, oB_w, oIC_w, oU_w, isB_w, oEq_w, oNe_w, exS_w, oIx_w, items_l, items_t, oLen_w, oAbs_w, oInt_i, oInt_b, oGcd_w, oMax_w, oMax3_w, oMin_w, oDivmod_w, oStr_w, oType_w, oIs1_w, oIs2_w, oIsTy_w, oCat_w, oIsN_w, oNotN_w, exD_w, exO_w, exD2_w, exO2_w, exL_w, exT_w, exI_w, ex1_w, ex1i_w, mSeqV_w, exX_w, seqOf_o, seqOf_d, mgCons_w, mgNil_w, mgTup_w, exPar_w, listC_w, putI_w, ixV_w, rng1_w, rng2_w, lcGo_n, lcGo_c, forGo_n, forGo_c, scEq_i, scEq_b, scEq_s, scEq_n, tyT, isNon, k_ii, k_ib, k_is, k_il, k_it, k_bi, k_bb, k_bs, k_bl, k_bt, k_ni, k_nb, k_ns, k_nl, k_nt, k_si, k_sb, k_ss, k_sl, k_st, k_li, k_lb, k_ls, k_ll, k_lt, k_ti, k_tb, k_ts, k_tl, k_tt, List.map_cons, List.map_nil, List.length_cons, List.length_nil, List.replicate, List.cons_append, List.nil_append, List.append_nil, List.getElem?_cons_zero, List.getElem?_cons_succ, List.set_cons_zero, List.set_cons_succ, Nat.sub_self, Nat.reduceAdd, Nat.reduceSub, List.replicate_zero, decide_eq_true_eq, Bool.true_eq_false, Bool.false_eq_true, if_true, if_false, reduceIte, Bool.not_eq_true', decide_eq_false_iff_not, Bool.not_true, Bool.not_false, exists_eq_left', true_and, and_true, Option.some.injEq, reduceCtorEq, decide_true, decide_false, not_true_eq_false, not_false_eq_true, Nat.reduceLT, Bool.or_false, Bool.or_true, Bool.false_or, Bool.true_or, Bool.and_true, Bool.true_and, Bool.and_false, Bool.false_and, true_implies, mFld, mFldS, mFldO, mProp, mMeth, mMethX, mInW, mCallXD, exOb_w, exOb2_w, exObD_w, exObD2_w, exObj_w, exObj0_w, exObjC_w, oIsNTy_w, mLcnt, eqD_ii, mJoin, oTupOf_w, oIsBl_w, cCalm])
    refine ite2 (fun _ => hk lo (by omega) h0) (fun _ => ite2 (fun _ => hk hi h0 (by omega)) (fun _ => ite2 (fun _ => ⟨2, rfl, by decide, fun r r0 r1 => ?_⟩) (fun _ => ⟨hi - lo + 1, rfl, by omega, fun r r0 r1 => ?_⟩)))
    · have two : r = 0 ∨ r = 1 := by omega
      rcases two with rfl | rfl
      · (try simp only [mVar, mC, mOp, mUn, mNil, mCons, mTup, mLst, mCall, mCallX, mCallKX, mCB, mTest, mAnd, mOr, mNot, mYes, mAndV, mOrV, mNotV, mIf, mIsN, mNotN, mChain, mSeq, mNext, mBrk, mCnt, mRet, mRetN, mIfS, mDrop, mAsg, mOwn, mLstO, mListC, mLcO, oCatO, mShr, mApp, mPutI, mFrz, frz_w, mFor, mPar, mAug, mRaise, mTry, tryM, mKind, mLc, mList, mTupl, mListOwn, mRng1, mRng2, mEnum, mZip, mRev, mgName, mLenV, mIxV, mNoPart, mPart, mSl, wipeE, lcTurn, startE, oI_w, oB_w, oIC_w, oU_w, isB_w, oEq_w, oNe_w, exS_w, oIx_w, items_l, items_t, oLen_w, oAbs_w, oInt_i, oInt_b, oGcd_w, oMax_w, oMax3_w, oMin_w, oDivmod_w, oStr_w, oType_w, oIs1_w, oIs2_w, oIsTy_w, oCat_w, oIsN_w, oNotN_w, exD_w, exO_w, exD2_w, exO2_w, exL_w, exT_w, exI_w, ex1_w, ex1i_w, mSeqV_w, exX_w, seqOf_o, seqOf_d, mgCons_w, mgNil_w, mgTup_w, exPar_w, listC_w, putI_w, ixV_w, rng1_w, rng2_w, lcGo_n, lcGo_c, forGo_n, forGo_c, scEq_i, scEq_b, scEq_s, scEq_n, tyT, isNon, k_ii, k_ib, k_is, k_il, k_it, k_bi, k_bb, k_bs, k_bl, k_bt, k_ni, k_nb, k_ns, k_nl, k_nt, k_si, k_sb, k_ss, k_sl, k_st, k_li, k_lb, k_ls, k_ll, k_lt, k_ti, k_tb, k_ts, k_tl, k_tt, List.map_cons, List.map_nil, List.length_cons, List.length_nil, List.replicate, List.cons_append, List.nil_append, List.append_nil, List.getElem?_cons_zero, List.getElem?_cons_succ, List.set_cons_zero, List.set_cons_succ, Nat.sub_self, Nat.reduceAdd, Nat.reduceSub, List.replicate_zero, decide_eq_true_eq, Bool.true_eq_false, Bool.false_eq_true, if_true, if_false, reduceIte, Bool.not_eq_true', decide_eq_false_iff_not, Bool.not_true, Bool.not_false, exists_eq_left', true_and, and_true, Option.some.injEq, reduceCtorEq, decide_true, decide_false, not_true_eq_false, not_false_eq_true, Nat.reduceLT, Bool.or_false, Bool.or_true, Bool.false_or, Bool.true_or, Bool.and_true, Bool.true_and, Bool.and_false, Bool.false_and, true_implies, mFld, mFldS, mFldO, mProp, mMeth, mMethX, mInW, mCallXD, exOb_w, exOb2_w, exObD_w, exObD2_w, exObj_w, exObj0_w, exObjC_w, oIsNTy_w, mLcnt, eqD_ii, mJoin, oTupOf_w, oIsBl_w, cCalm])
        exact ⟨_, rfl, hk _ (by omega) (by omega)⟩
      · (try simp only [mVar, mC, mOp, mUn, mNil, mCons, mTup, mLst, mCall, mCallX, mCallKX, mCB, mTest, mAnd, mOr, mNot, mYes, mAndV, mOrV, mNotV, mIf, mIsN, mNotN, mChain, mSeq, mNext, mBrk, mCnt, mRet, mRetN, mIfS, mDrop, mAsg, mOwn, mLstO, mListC, mLcO, oCatO, mShr, mApp, mPutI, mFrz, frz_w, mFor, mPar, mAug, mRaise, mTry, tryM, mKind, mLc, mList, mTupl, mListOwn, mRng1, mRng2, mEnum, mZip, mRev, mgName, mLenV, mIxV, mNoPart, mPart, mSl, wipeE, lcTurn, startE, oI_w, oB_w, oIC_w, oU_w, isB_w, oEq_w, oNe_w, exS_w, oIx_w, items_l, items_t, oLen_w, oAbs_w, oInt_i, oInt_b, oGcd_w, oMax_w, oMax3_w, oMin_w, oDivmod_w, oStr_w, oType_w, oIs1_w, oIs2_w, oIsTy_w, oCat_w, oIsN_w, oNotN_w, exD_w, exO_w, exD2_w, exO2_w, exL_w, exT_w, exI_w, ex1_w, ex1i_w, mSeqV_w, exX_w, seqOf_o, seqOf_d, mgCons_w, mgNil_w, mgTup_w, exPar_w, listC_w, putI_w, ixV_w, rng1_w, rng2_w, lcGo_n, lcGo_c, forGo_n, forGo_c, scEq_i, scEq_b, scEq_s, scEq_n, tyT, isNon, k_ii, k_ib, k_is, k_il, k_it, k_bi, k_bb, k_bs, k_bl, k_bt, k_ni, k_nb, k_ns, k_nl, k_nt, k_si, k_sb, k_ss, k_sl, k_st, k_li, k_lb, k_ls, k_ll, k_lt, k_ti, k_tb, k_ts, k_tl, k_tt, List.map_cons, List.map_nil, List.length_cons, List.length_nil, List.replicate, List.cons_append, List.nil_append, List.append_nil, List.getElem?_cons_zero, List.getElem?_cons_succ, List.set_cons_zero, List.set_cons_succ, Nat.sub_self, Nat.reduceAdd, Nat.reduceSub, List.replicate_zero, decide_eq_true_eq, Bool.true_eq_false, Bool.false_eq_true, if_true, if_false, reduceIte, Bool.not_eq_true', decide_eq_false_iff_not, Bool.not_true, Bool.not_false, exists_eq_left', true_and, and_true, Option.some.injEq, reduceCtorEq, decide_true, decide_false, not_true_eq_false, not_false_eq_true, Nat.reduceLT, Bool.or_false, Bool.or_true, Bool.false_or, Bool.true_or, Bool.and_true, Bool.true_and, Bool.and_false, Bool.false_and, true_implies, mFld, mFldS, mFldO, mProp, mMeth, mMethX, mInW, mCallXD, exOb_w, exOb2_w, exObD_w, exObD2_w, exObj_w, exObj0_w, exObjC_w, oIsNTy_w, mLcnt, eqD_ii, mJoin, oTupOf_w, oIsBl_w, cCalm])
        exact ⟨_, rfl, hk _ (by omega) (by omega)⟩
    · (try simp only [mVar, mC, mOp, mUn, mNil, mCons, mTup, mLst, mCall, mCallX, mCallKX, mCB, mTest, mAnd, mOr, mNot, mYes, mAndV, mOrV, mNotV, mIf, mIsN, mNotN, mChain, mSeq, mNext, mBrk, mCnt, mRet, mRetN, mIfS, mDrop, mAsg, mOwn, mLstO, mListC, mLcO, oCatO, mShr, mApp, mPutI, mFrz, frz_w, mFor, mPar, mAug, mRaise, mTry, tryM, mKind, mLc, mList, mTupl, mListOwn, mRng1, mRng2, mEnum, mZip, mRev, mgName, mLenV, mIxV, mNoPart, mPart, mSl, wipeE, lcTurn, startE, oI_w, oB_w, oIC_w, oU_w, isB_w, oEq_w, oNe_w, exS_w, oIx_w, items_l, items_t, oLen_w, oAbs_w, oInt_i, oInt_b, oGcd_w, oMax_w, oMax3_w, oMin_w, oDivmod_w, oStr_w, oType_w, oIs1_w, oIs2_w, oIsTy_w, oCat_w, oIsN_w, oNotN_w, exD_w, exO_w, exD2_w, exO2_w, exL_w, exT_w, exI_w, ex1_w, ex1i_w, mSeqV_w, exX_w, seqOf_o, seqOf_d, mgCons_w, mgNil_w, mgTup_w, exPar_w, listC_w, putI_w, ixV_w, rng1_w, rng2_w, lcGo_n, lcGo_c, forGo_n, forGo_c, scEq_i, scEq_b, scEq_s, scEq_n, tyT, isNon, k_ii, k_ib, k_is, k_il, k_it, k_bi, k_bb, k_bs, k_bl, k_bt, k_ni, k_nb, k_ns, k_nl, k_nt, k_si, k_sb, k_ss, k_sl, k_st, k_li, k_lb, k_ls, k_ll, k_lt, k_ti, k_tb, k_ts, k_tl, k_tt, List.map_cons, List.map_nil, List.length_cons, List.length_nil, List.replicate, List.cons_append, List.nil_append, List.append_nil, List.getElem?_cons_zero, List.getElem?_cons_succ, List.set_cons_zero, List.set_cons_succ, Nat.sub_self, Nat.reduceAdd, Nat.reduceSub, List.replicate_zero, decide_eq_true_eq, Bool.true_eq_false, Bool.false_eq_true, if_true, if_false, reduceIte, Bool.not_eq_true', decide_eq_false_iff_not, Bool.not_true, Bool.not_false, exists_eq_left', true_and, and_true, Option.some.injEq, reduceCtorEq, decide_true, decide_false, not_true_eq_false, not_false_eq_true, Nat.reduceLT, Bool.or_false, Bool.or_true, Bool.false_or, Bool.true_or, Bool.and_true, Bool.true_and, Bool.and_false, Bool.false_and, true_implies, mFld, mFldS, mFldO, mProp, mMeth, mMethX, mInW, mCallXD, exOb_w, exOb2_w, exObD_w, exObD2_w, exObj_w, exObj0_w, exObjC_w, oIsNTy_w, mLcnt, eqD_ii, mJoin, oTupOf_w, oIsBl_w, cCalm])
      exact hk _ (by omega) (by omega)
end
end Mt
namespace Mt
open PySem PySem.Spec PyProof.Rows L2 L2H
section
variable {P : Program} {w : World} {K : PySem.W.Frag} {mg : Str → Option Value} {base : Heap} {f : Addr} {fd : FuncData} {A : Ad} {tk : Nat → Tok} {aBurstRule : Addr}
theorem ok_law_small (F : Fun K "_law_small" "_law_small" s_law_small f fd) (Tx : Txt K mg A tk aBurstRule) (C_law_edge : Cal P w K mg base "_law_edge" 3 ["store", "low", "high"] (SpU A 3 c_law_edge)) (C_law_take : Cal P w K mg base "_law_take" 2 ["store", "many"] (SpU A 2 c_law_take)) :
    FnOk P w K mg base CX0 4 f fd ["store", "low", "usual", "high"] (SpU A 4 c_law_small) := by
  refine F.ok sc_law_small (fun vs H Q E h => h.len) (fun cdv Ar outer s H vs Q E hr h => ?_)
  obtain ⟨st, P0, ds, k, XA, h1, h2, h3, hc, h5, h6⟩ := h
  refine ⟨_, (pss_cons (ps_if (pt_cmpR op_eq (p_call C_law_take hr (pa_cons (pv 0) (pa_cons pe_int pa_nil)) (by omega)) pe_int (nomark _)) (pss_one (ps_ret (p_call C_law_edge hr (pa_cons (pv 0) (pa_cons (pv 1) (pa_cons (pv 3) pa_nil))) (by omega)))) pss_nil)
      (pss_one (ps_ret (p_call C_law_edge hr (pa_cons (pv 0) (pa_cons (pv 1) (pa_cons (pv 2) pa_nil))) (by omega))))), ?_⟩
  refine run0 (A := A) (ms := ?ms) (XA := XA) h1 h2 h5 ?r ?u
  case r => exact (rs_seq (rs_if (rt_test (re_op ro_eq (re_call (ra_cons re_var (ra_cons re_int ra_nil))) re_int)) (rs_ret (re_call (ra_cons re_var (ra_cons re_var (ra_cons re_var ra_nil))))) rs_next)
      (rs_ret (re_call (ra_cons re_var (ra_cons re_var (ra_cons re_var ra_nil))))))
  case u =>
    clear h1 h2 h5 h6 hr
    obtain ⟨lo, us, hi, rfl, h0, h1, h2, h3, hk⟩ := hc
    (try simp only [mVar, mC, mOp, mUn, mNil, mCons, mTup, mLst, mCall, mCallX, mCallKX, mCB, mTest, mAnd, mOr, mNot, mYes, mAndV, mOrV, mNotV, mIf, mIsN, mNotN, mChain, mSeq, mNext, mBrk, mCnt, mRet, mRetN, mIfS, mDrop, mAsg, mOwn, mLstO, mListC, mLcO, oCatO, mShr, mApp, mPutI, mFrz, frz_w, mFor, mPar, mAug, mRaise, mTry, tryM, mKind, mLc, mList, mTupl, mListOwn, mRng1, mRng2, mEnum, mZip, mRev, mgName, mLenV, mIxV, mNoPart, mPart, mSl, wipeE, lcTurn, startE, oI_w, oB_w, oIC_w, oU_w, isB_w, oEq_w, oNe_w, exS_w, oIx_w, items_l, items_t, oLen_w, oAbs_w, oInt_i, oInt_b, oGcd_w, oMax_w, oMax3_w, oMin_w, oDivmod_w, oStr_w, oType_w, oIs1_w, oIs2_w, oIsTy_w, oCat_w, oIsN_w, oNotN_w, exD_w, exO_w, exD2_w, exO2_w, exL_w, exT_w, exI_w, ex1_w, ex1i_w, mSeqV_w, exX_w, seqOf_o, seqOf_d, mgCons_w, mgNil_w, mgTup_w, exPar_w, listC_w, putI_w, ixV_w, rng1_w, rng2_w, lcGo_n, lcGo_c, forGo_n, forGo_c, scEq_i, scEq_b, scEq_s, scEq_n, tyT, isNon, k_ii, k_ib, k_is, k_il, k_it, k_bi, k_bb, k_bs, k_bl, k_bt, k_ni, k_nb, k_ns, k_nl, k_nt, k_si, k_sb, k_ss, k_sl, k_st, k_li, k_lb, k_ls, k_ll, k_lt, k_ti, k_tb, k_ts, k_tl, k_tt, List.map_cons, List.map_nil, List.length_cons, List.length_nil, List.replicate, List.cons_append, List.nil_append, List.append_nil, List.getElem?_cons_zero, List.getElem?_cons_succ, List.set_cons_zero, List.set_cons_succ, Nat.sub_self, Nat.reduceAdd, Nat.reduceSub, List.replicate_zero, decide_eq_true_eq, Bool.true_eq_false, Bool.false_eq_true, if_true, if_false, reduceIte, Bool.not_eq_true', decide_eq_false_iff_not, Bool.not_true, Bool.not_false, exists_eq_left', true_and, and_true, Option.some.injEq, reduceCtorEq, decide_true, decide_false, not_true_eq_false, not_false_eq_true, Nat.reduceLT, Bool.or_false, Bool.or_true, Bool.false_or, Bool.true_or, Bool.and_true, Bool.true_and, Bool.and_false, Bool.false_and, true_implies, mFld, mFldS, mFldO, mProp, mMeth, mMethX, mInW, mCallXD, exOb_w, exOb2_w, exObD_w, exObD2_w, exObj_w, exObj0_w, exObjC_w, oIsNTy_w, mLcnt, eqD_ii, mJoin, oTupOf_w, oIsBl_w, cCalm])
    refine ⟨8, rfl, by decide, fun w _ _ => ?_⟩
    (try simp only [mVar, mC, mOp, mUn, mNil, mCons, mTup, mLst, mCall, mCallX, mCallKX, mCB, mTest, mAnd, mOr, mNot, mYes, mAndV, mOrV, mNotV, mIf, mIsN, mNotN, mChain, mSeq, mNext, mBrk, mCnt, mRet, mRetN, mIfS, mDrop, mAsg, mOwn, mLstO, mListC, mLcO, oCatO, mShr, mApp, mPutI, mFrz, frz_w, mFor, mPar, mAug, mRaise, mTry, tryM, mKind, mLc, mList, mTupl, mListOwn, mRng1, mRng2, mEnum, mZip, mRev, mgName, mLenV, mIxV, mNoPart, mPart, mSl, wipeE, lcTurn, startE, oI_w, oB_w, oIC_w, oU_w, isB_w, oEq_w, oNe_w, exS_w, oIx_w, items_l, items_t, oLen_w, oAbs_w, oInt_i, oInt_b, oGcd_w, oMax_w, oMax3_w, oMin_w, oDivmod_w, oStr_w, oType_w, oIs1_w, oIs2_w, oIsTy_w, oCat_w, oIsN_w, oNotN_w, exD_w, exO_w, exD2_w, exO2_w, exL_w, exT_w, exI_w, ex1_w, ex1i_w, mSeqV_w, exX_w, seqOf_o, seqOf_d, mgCons_w, mgNil_w, mgTup_w, exPar_w, listC_w, putI_w, ixV_w, rng1_w, rng2_w, lcGo_n, lcGo_c, forGo_n, forGo_c, scEq_i, scEq_b, scEq_s, scEq_n, tyT, isNon, k_ii, k_ib, k_is, k_il, k_it, k_bi, k_bb, k_bs, k_bl, k_bt, k_ni, k_nb, k_ns, k_nl, k_nt, k_si, k_sb, k_ss, k_sl, k_st, k_li, k_lb, k_ls, k_ll, k_lt, k_ti, k_tb, k_ts, k_tl, k_tt, List.map_cons, List.map_nil, List.length_cons, List.length_nil, List.replicate, List.cons_append, List.nil_append, List.append_nil, List.getElem?_cons_zero, List.getElem?_cons_succ, List.set_cons_zero, List.set_cons_succ, Nat.sub_self, Nat.reduceAdd, Nat.reduceSub, List.replicate_zero, decide_eq_true_eq, Bool.true_eq_false, Bool.false_eq_true, if_true, if_false, reduceIte, Bool.not_eq_true', decide_eq_false_iff_not, Bool.not_true, Bool.not_false, exists_eq_left', true_and, and_true, Option.some.injEq, reduceCtorEq, decide_true, decide_false, not_true_eq_false, not_false_eq_true, Nat.reduceLT, Bool.or_false, Bool.or_true, Bool.false_or, Bool.true_or, Bool.and_true, Bool.true_and, Bool.and_false, Bool.false_and, true_implies, mFld, mFldS, mFldO, mProp, mMeth, mMethX, mInW, mCallXD, exOb_w, exOb2_w, exObD_w, exObD2_w, exObj_w, exObj0_w, exObjC_w, oIsNTy_w, mLcnt, eqD_ii, mJoin, oTupOf_w, oIsBl_w, cCalm])
    refine ite2 (fun _ => ⟨lo, hi, rfl, by omega, by omega, fun r a b => hk r a b⟩) (fun _ => ⟨lo, us, rfl, by omega, by omega, fun r a b => hk r a (by omega)⟩)
end
end Mt
namespace Mt
open PySem PySem.Spec PyProof.Rows L2 L2H
section
variable {P : Program} {w : World} {K : PySem.W.Frag} {mg : Str → Option Value} {base : Heap} {f : Addr} {fd : FuncData} {A : Ad} {tk : Nat → Tok} {aBurstRule : Addr}
theorem ok_same_step (F : Fun K "_law_same" "_law_same" s_law_same f fd) (Tx : Txt K mg A tk aBurstRule) (j n : Nat) (C_law_same : Cal P w K mg base "_law_same" j ["left", "right"] (SpU A 2 (fun ds k XA => ∃ m, m < n ∧ c_law_same m ds k XA))) :
    FnOk P w K mg base CX0 (j + 1) f fd ["left", "right"] (SpU A 2 (c_law_same n)) := by
  refine F.ok sc_law_same (fun vs H Q E h => h.len) (fun cdv Ar outer s H vs Q E hr h => ?_)
  obtain ⟨st, P0, ds, k, XA, h1, h2, h3, hc, h5, h6⟩ := h
  refine ⟨_, (pss_cons (ps_if (PW.pt (pw_or (pt_cmpR op_isNH (pv 0) pe_non (nomark _)) (pw_or1 (pt_cmpR op_isNH (pv 1) pe_non (nomark _))))) (pss_one (ps_ret (pe_and (pe_cmpR op_isNH (pv 0) pe_non (nomark _)) (pe_one (pe_cmpR op_isNH (pv 1) pe_non (nomark _)))))) pss_nil)
      (pss_cons (ps_if (PW.pt (pw_or (pt_val (pe_callB call_isH (by rfl) Tx.m_isinstance (by decide +kernel) (pa_cons (pv 0) (pa_cons (pe_bltn (v := .ty "bool") (u := .type "bool") (by rfl) Tx.m_bool (by decide +kernel) rel_ty) pa_nil)))) (pw_or1 (pt_val (pe_callB call_isH (by rfl) Tx.m_isinstance (by decide +kernel) (pa_cons (pv 1) (pa_cons (pe_bltn (v := .ty "bool") (u := .type "bool") (by rfl) Tx.m_bool (by decide +kernel) rel_ty) pa_nil))))))) (pss_one (ps_ret (pe_and (pe_callB call_isH (by rfl) Tx.m_isinstance (by decide +kernel) (pa_cons (pv 0) (pa_cons (pe_bltn (v := .ty "bool") (u := .type "bool") (by rfl) Tx.m_bool (by decide +kernel) rel_ty) pa_nil))) (pe_and (pe_callB call_isH (by rfl) Tx.m_isinstance (by decide +kernel) (pa_cons (pv 1) (pa_cons (pe_bltn (v := .ty "bool") (u := .type "bool") (by rfl) Tx.m_bool (by decide +kernel) rel_ty) pa_nil))) (pe_one (pe_cmpR op_eq (pv 0) (pv 1) (nomark _))))))) pss_nil)
      (pss_cons (ps_if (PW.pt (pw_or (pt_val (pe_callB call_isH (by rfl) Tx.m_isinstance (by decide +kernel) (pa_cons (pv 0) (pa_cons (pe_bltn (v := .ty "int") (u := .type "int") (by rfl) Tx.m_int (by decide +kernel) rel_ty) pa_nil)))) (pw_or1 (pt_val (pe_callB call_isH (by rfl) Tx.m_isinstance (by decide +kernel) (pa_cons (pv 1) (pa_cons (pe_bltn (v := .ty "int") (u := .type "int") (by rfl) Tx.m_int (by decide +kernel) rel_ty) pa_nil))))))) (pss_one (ps_ret (pe_and (pe_callB call_isH (by rfl) Tx.m_isinstance (by decide +kernel) (pa_cons (pv 0) (pa_cons (pe_bltn (v := .ty "int") (u := .type "int") (by rfl) Tx.m_int (by decide +kernel) rel_ty) pa_nil))) (pe_and (pe_callB call_isH (by rfl) Tx.m_isinstance (by decide +kernel) (pa_cons (pv 1) (pa_cons (pe_bltn (v := .ty "int") (u := .type "int") (by rfl) Tx.m_int (by decide +kernel) rel_ty) pa_nil))) (pe_one (pe_cmpR op_eq (pv 0) (pv 1) (nomark _))))))) pss_nil)
      (pss_cons (ps_if (PW.pt (pw_or (pt_val (pe_callB call_isH (by rfl) Tx.m_isinstance (by decide +kernel) (pa_cons (pv 0) (pa_cons (pe_bltn (v := .ty "str") (u := .type "str") (by rfl) Tx.m_str (by decide +kernel) rel_ty) pa_nil)))) (pw_or1 (pt_val (pe_callB call_isH (by rfl) Tx.m_isinstance (by decide +kernel) (pa_cons (pv 1) (pa_cons (pe_bltn (v := .ty "str") (u := .type "str") (by rfl) Tx.m_str (by decide +kernel) rel_ty) pa_nil))))))) (pss_one (ps_ret (pe_and (pe_callB call_isH (by rfl) Tx.m_isinstance (by decide +kernel) (pa_cons (pv 0) (pa_cons (pe_bltn (v := .ty "str") (u := .type "str") (by rfl) Tx.m_str (by decide +kernel) rel_ty) pa_nil))) (pe_and (pe_callB call_isH (by rfl) Tx.m_isinstance (by decide +kernel) (pa_cons (pv 1) (pa_cons (pe_bltn (v := .ty "str") (u := .type "str") (by rfl) Tx.m_str (by decide +kernel) rel_ty) pa_nil))) (pe_one (pe_cmpR op_eq (pv 0) (pv 1) (nomark _))))))) pss_nil)
      (pss_cons (ps_if (PW.pt (pw_or (pt_cmpR op_ne (pe_callB call_isH (by rfl) Tx.m_isinstance (by decide +kernel) (pa_cons (pv 0) (pa_cons (pe_bltn (v := .ty "list") (u := .type "list") (by rfl) Tx.m_list (by decide +kernel) rel_ty) pa_nil))) (pe_callB call_isH (by rfl) Tx.m_isinstance (by decide +kernel) (pa_cons (pv 1) (pa_cons (pe_bltn (v := .ty "list") (u := .type "list") (by rfl) Tx.m_list (by decide +kernel) rel_ty) pa_nil))) (nomark _)) (pw_or1 (pt_cmpR op_ne (pe_callB call_isH (by rfl) Tx.m_isinstance (by decide +kernel) (pa_cons (pv 0) (pa_cons (pe_bltn (v := .ty "tuple") (u := .type "tuple") (by rfl) Tx.m_tuple (by decide +kernel) rel_ty) pa_nil))) (pe_callB call_isH (by rfl) Tx.m_isinstance (by decide +kernel) (pa_cons (pv 1) (pa_cons (pe_bltn (v := .ty "tuple") (u := .type "tuple") (by rfl) Tx.m_tuple (by decide +kernel) rel_ty) pa_nil))) (nomark _))))) (pss_one (ps_ret pe_bl)) pss_nil)
      (pss_cons (ps_if (PW.pt (pw_or (pt_not (pt_val (pe_callB call_isTH (by rfl) Tx.m_isinstance (by decide +kernel) (pa_cons (pv 0) (pa_cons (pe_tup (pa_cons (pe_bltn (v := .ty "list") (u := .type "list") (by rfl) Tx.m_list (by decide +kernel) rel_ty) (pa_cons (pe_bltn (v := .ty "tuple") (u := .type "tuple") (by rfl) Tx.m_tuple (by decide +kernel) rel_ty) pa_nil))) pa_nil))))) (pw_or1 (pt_cmpR op_ne (pe_callB call_lenH (by rfl) Tx.m_len (by decide +kernel) (pa_cons (pv 0) pa_nil)) (pe_callB call_lenH (by rfl) Tx.m_len (by decide +kernel) (pa_cons (pv 1) pa_nil)) (nomark _))))) (pss_one (ps_ret pe_bl)) pss_nil)
      (pss_cons (ps_for PassesOwn.never rfl (pi_range1 (by rfl) Tx.m_range (pa_cons (pe_callB call_lenH (by rfl) Tx.m_len (by decide +kernel) (pa_cons (pv 0) pa_nil)) pa_nil)) (pg_name (i := 2) sc_law_same.nd rfl (.inl rfl)) (pss_one (ps_if (pt_not (pt_val (p_call C_law_same hr (pa_cons (pe_ix ix_H (pv 0) (pv 2) (fun _ _ => rfl)) (pa_cons (pe_ix ix_H (pv 1) (pv 2) (fun _ _ => rfl)) pa_nil)) (by omega)))) (pss_one (ps_ret pe_bl)) pss_nil)))
      (pss_one (ps_ret pe_bl))))))))), ?_⟩
  refine run0 (A := A) (ms := ?ms) (XA := XA) h1 h2 h5 ?r ?u
  case r => exact (rs_seq (rs_if (rt_or (rt_test (re_op ro_isN re_var re_non)) (rt_test (re_op ro_isN re_var re_non))) (rs_ret (re_andV (re_op ro_isN re_var re_non) (re_op ro_isN re_var re_non))) rs_next)
      (rs_seq (rs_if (rt_or (rt_B (re_cb rcb_is1 (ra_cons re_var (ra_cons re_ty ra_nil)))) (rt_B (re_cb rcb_is1 (ra_cons re_var (ra_cons re_ty ra_nil))))) (rs_ret (re_andV (re_cb rcb_is1 (ra_cons re_var (ra_cons re_ty ra_nil))) (re_andV (re_cb rcb_is1 (ra_cons re_var (ra_cons re_ty ra_nil))) (re_op ro_eq re_var re_var)))) rs_next)
      (rs_seq (rs_if (rt_or (rt_B (re_cb rcb_is1 (ra_cons re_var (ra_cons re_ty ra_nil)))) (rt_B (re_cb rcb_is1 (ra_cons re_var (ra_cons re_ty ra_nil))))) (rs_ret (re_andV (re_cb rcb_is1 (ra_cons re_var (ra_cons re_ty ra_nil))) (re_andV (re_cb rcb_is1 (ra_cons re_var (ra_cons re_ty ra_nil))) (re_op ro_eq re_var re_var)))) rs_next)
      (rs_seq (rs_if (rt_or (rt_B (re_cb rcb_is1 (ra_cons re_var (ra_cons re_ty ra_nil)))) (rt_B (re_cb rcb_is1 (ra_cons re_var (ra_cons re_ty ra_nil))))) (rs_ret (re_andV (re_cb rcb_is1 (ra_cons re_var (ra_cons re_ty ra_nil))) (re_andV (re_cb rcb_is1 (ra_cons re_var (ra_cons re_ty ra_nil))) (re_op ro_eq re_var re_var)))) rs_next)
      (rs_seq (rs_if (rt_or (rt_test (re_op ro_ne (re_cb rcb_is1 (ra_cons re_var (ra_cons re_ty ra_nil))) (re_cb rcb_is1 (ra_cons re_var (ra_cons re_ty ra_nil))))) (rt_test (re_op ro_ne (re_cb rcb_is1 (ra_cons re_var (ra_cons re_ty ra_nil))) (re_cb rcb_is1 (ra_cons re_var (ra_cons re_ty ra_nil)))))) (rs_ret re_bl) rs_next)
      (rs_seq (rs_if (rt_or (rt_not (rt_B (re_cb rcb_is2 (ra_cons re_var (ra_cons (re_tup (ra_cons re_ty (ra_cons re_ty ra_nil))) ra_nil))))) (rt_test (re_op ro_ne (re_cb rcb_len (ra_cons re_var ra_nil)) (re_cb rcb_len (ra_cons re_var ra_nil))))) (rs_ret re_bl) rs_next)
      (rs_seq (rs_for (ri_rng1 (ra_cons (re_cb rcb_len (ra_cons re_var ra_nil)) ra_nil)) rg_name (rs_if (rt_not (rt_B (re_call (ra_cons (re_op ro_ix re_var re_var) (ra_cons (re_op ro_ix re_var re_var) ra_nil))))) (rs_ret re_bl) rs_next))
      (rs_ret re_bl))))))))
  case u =>
    clear h1 h2 h5 h6 hr
    obtain ⟨a, b, rfl, oa, ob, hk⟩ := hc
    have loop : ∀ (n' : Nat) (as bs : List T) (x y : T) (z : Option Sl), n = n' + 1 → itemsOf x = some as → itemsOf y = some bs → okTs n' as = true → okTs 19 bs = true → as.length = bs.length → as.length < 1000000 → k (.bl (sameTs as bs)) → forInv (mgName 2)
        (mIfS (mNot (mTest (mCall 2 (fun ds k XA => ∃ m, m < n ∧ c_law_same m ds k XA) (mCons (mOp oIx (mVar 0) (mVar 2)) (mCons (mOp oIx (mVar 1) (mVar 2)) mNil))))) (mRet (mC (T.bl false))) mNext)
        { nx := fun env' => k (T.bl true), rt := k, xr := fun _ => XA } (rngT 0 as.length) [some (Sl.d x), some (Sl.d y), z] := by
      intro n' as bs x y z en ix iy ha hb hl hz hk
      refine ⟨fun i env => ∃ z, env = [some (Sl.d x), some (Sl.d y), z] ∧ i ≤ as.length ∧ sameTs as bs = sameTs (as.drop i) (bs.drop i), ⟨z, rfl, Nat.zero_le _, rfl⟩, ?_, ?_⟩
      · rintro i w env hw ⟨z, rfl, _, hs⟩
        obtain ⟨hi, rfl⟩ := rng_at hw
        have ea : as[i]? = some as[i] := List.getElem?_eq_getElem hi
        have eb : bs[i]? = some (bs[i]'(by omega)) := List.getElem?_eq_getElem (by omega)
        rw [Int.zero_add]
        (try simp only [mVar, mC, mOp, mUn, mNil, mCons, mTup, mLst, mCall, mCallX, mCallKX, mCB, mTest, mAnd, mOr, mNot, mYes, mAndV, mOrV, mNotV, mIf, mIsN, mNotN, mChain, mSeq, mNext, mBrk, mCnt, mRet, mRetN, mIfS, mDrop, mAsg, mOwn, mLstO, mListC, mLcO, oCatO, mShr, mApp, mPutI, mFrz, frz_w, mFor, mPar, mAug, mRaise, mTry, tryM, mKind, mLc, mList, mTupl, mListOwn, mRng1, mRng2, mEnum, mZip, mRev, mgName, mLenV, mIxV, mNoPart, mPart, mSl, wipeE, lcTurn, startE, oI_w, oB_w, oIC_w, oU_w, isB_w, oEq_w, oNe_w, exS_w, oIx_w, items_l, items_t, oLen_w, oAbs_w, oInt_i, oInt_b, oGcd_w, oMax_w, oMax3_w, oMin_w, oDivmod_w, oStr_w, oType_w, oIs1_w, oIs2_w, oIsTy_w, oCat_w, oIsN_w, oNotN_w, exD_w, exO_w, exD2_w, exO2_w, exL_w, exT_w, exI_w, ex1_w, ex1i_w, mSeqV_w, exX_w, seqOf_o, seqOf_d, mgCons_w, mgNil_w, mgTup_w, exPar_w, listC_w, putI_w, ixV_w, rng1_w, rng2_w, lcGo_n, lcGo_c, forGo_n, forGo_c, scEq_i, scEq_b, scEq_s, scEq_n, tyT, isNon, k_ii, k_ib, k_is, k_il, k_it, k_bi, k_bb, k_bs, k_bl, k_bt, k_ni, k_nb, k_ns, k_nl, k_nt, k_si, k_sb, k_ss, k_sl, k_st, k_li, k_lb, k_ls, k_ll, k_lt, k_ti, k_tb, k_ts, k_tl, k_tt, List.map_cons, List.map_nil, List.length_cons, List.length_nil, List.replicate, List.cons_append, List.nil_append, List.append_nil, List.getElem?_cons_zero, List.getElem?_cons_succ, List.set_cons_zero, List.set_cons_succ, Nat.sub_self, Nat.reduceAdd, Nat.reduceSub, List.replicate_zero, decide_eq_true_eq, Bool.true_eq_false, Bool.false_eq_true, if_true, if_false, reduceIte, Bool.not_eq_true', decide_eq_false_iff_not, Bool.not_true, Bool.not_false, exists_eq_left', true_and, and_true, Option.some.injEq, reduceCtorEq, decide_true, decide_false, not_true_eq_false, not_false_eq_true, Nat.reduceLT, Bool.or_false, Bool.or_true, Bool.false_or, Bool.true_or, Bool.and_true, Bool.true_and, Bool.and_false, Bool.false_and, true_implies, mFld, mFldS, mFldO, mProp, mMeth, mMethX, mInW, mCallXD, exOb_w, exOb2_w, exObD_w, exObD2_w, exObj_w, exObj0_w, exObjC_w, oIsNTy_w, mLcnt, eqD_ii, mJoin, oTupOf_w, oIsBl_w, cCalm, ix, iy])
        refine ⟨_, atI_nat ea, _, atI_nat eb, n', by omega, _, _, rfl, okTs_at ha ea, ?_, ?_⟩
        · have := okTs_at hb eb
          exact okT_up this
        · (try simp only [mVar, mC, mOp, mUn, mNil, mCons, mTup, mLst, mCall, mCallX, mCallKX, mCB, mTest, mAnd, mOr, mNot, mYes, mAndV, mOrV, mNotV, mIf, mIsN, mNotN, mChain, mSeq, mNext, mBrk, mCnt, mRet, mRetN, mIfS, mDrop, mAsg, mOwn, mLstO, mListC, mLcO, oCatO, mShr, mApp, mPutI, mFrz, frz_w, mFor, mPar, mAug, mRaise, mTry, tryM, mKind, mLc, mList, mTupl, mListOwn, mRng1, mRng2, mEnum, mZip, mRev, mgName, mLenV, mIxV, mNoPart, mPart, mSl, wipeE, lcTurn, startE, oI_w, oB_w, oIC_w, oU_w, isB_w, oEq_w, oNe_w, exS_w, oIx_w, items_l, items_t, oLen_w, oAbs_w, oInt_i, oInt_b, oGcd_w, oMax_w, oMax3_w, oMin_w, oDivmod_w, oStr_w, oType_w, oIs1_w, oIs2_w, oIsTy_w, oCat_w, oIsN_w, oNotN_w, exD_w, exO_w, exD2_w, exO2_w, exL_w, exT_w, exI_w, ex1_w, ex1i_w, mSeqV_w, exX_w, seqOf_o, seqOf_d, mgCons_w, mgNil_w, mgTup_w, exPar_w, listC_w, putI_w, ixV_w, rng1_w, rng2_w, lcGo_n, lcGo_c, forGo_n, forGo_c, scEq_i, scEq_b, scEq_s, scEq_n, tyT, isNon, k_ii, k_ib, k_is, k_il, k_it, k_bi, k_bb, k_bs, k_bl, k_bt, k_ni, k_nb, k_ns, k_nl, k_nt, k_si, k_sb, k_ss, k_sl, k_st, k_li, k_lb, k_ls, k_ll, k_lt, k_ti, k_tb, k_ts, k_tl, k_tt, List.map_cons, List.map_nil, List.length_cons, List.length_nil, List.replicate, List.cons_append, List.nil_append, List.append_nil, List.getElem?_cons_zero, List.getElem?_cons_succ, List.set_cons_zero, List.set_cons_succ, Nat.sub_self, Nat.reduceAdd, Nat.reduceSub, List.replicate_zero, decide_eq_true_eq, Bool.true_eq_false, Bool.false_eq_true, if_true, if_false, reduceIte, Bool.not_eq_true', decide_eq_false_iff_not, Bool.not_true, Bool.not_false, exists_eq_left', true_and, and_true, Option.some.injEq, reduceCtorEq, decide_true, decide_false, not_true_eq_false, not_false_eq_true, Nat.reduceLT, Bool.or_false, Bool.or_true, Bool.false_or, Bool.true_or, Bool.and_true, Bool.true_and, Bool.and_false, Bool.false_and, true_implies, mFld, mFldS, mFldO, mProp, mMeth, mMethX, mInW, mCallXD, exOb_w, exOb2_w, exObD_w, exObD2_w, exObj_w, exObj0_w, exObjC_w, oIsNTy_w, mLcnt, eqD_ii, mJoin, oTupOf_w, oIsBl_w, cCalm])
          rw [List.drop_eq_getElem_cons hi, List.drop_eq_getElem_cons (by omega : i < bs.length)] at hs
          simp only [sameTs] at hs
          cases q : sameT as[i] (bs[i]'(by omega)) with
          | true =>
            rw [q, Bool.true_and] at hs
            rw [if_neg (by decide)]
            exact ⟨_, rfl, hi, hs⟩
          | false =>
            rw [q, Bool.false_and] at hs
            rw [if_pos rfl]
            rw [hs] at hk
            exact hk
      · rintro env ⟨z, rfl, _, hs⟩
        rw [rngT_len, List.drop_length] at hs
        rw [List.drop_eq_nil_of_le (by omega)] at hs
        simp only [sameTs] at hs
        rw [hs] at hk
        exact hk
    have ln : ∀ (as bs : List T) (x y : T) (n' : Nat), n = n' + 1 → itemsOf x = some as → itemsOf y = some bs → okTs n' as = true → okTs 19 bs = true → as.length < 1000000 → k (.bl (sameTs as bs)) → if ¬ (as.length : Int) = bs.length then k (.bl false) else as.length < 1000000 → (as.length : Int) < 1000000 ∧ -1000000 < (as.length : Int) ∧ forInv (mgName 2)
        (mIfS (mNot (mTest (mCall 2 (fun ds k XA => ∃ m, m < n ∧ c_law_same m ds k XA) (mCons (mOp oIx (mVar 0) (mVar 2)) (mCons (mOp oIx (mVar 1) (mVar 2)) mNil))))) (mRet (mC (T.bl false))) mNext)
        { nx := fun env' => k (T.bl true), rt := k, xr := fun _ => XA } (rngT 0 as.length) [some (Sl.d x), some (Sl.d y), none] := by
      intro as bs x y n' en ix iy oa ob hz hk
      refine ite2 (fun z => ?_) (fun z _ => ⟨by omega, by omega, loop n' as bs x y none en ix iy oa ob (by omega) hz hk⟩)
      rw [sameTs_len (by omega)] at hk
      exact hk
    cases a with
    | ty _ => cases n <;> simp [okT] at oa
    | sto => cases n <;> simp [okT] at oa
    | obj _ _ _ => cases n <;> simp [okT] at oa
    | lst as =>
      cases b with
      | ty _ => simp [okT] at ob
      | sto => simp [okT] at ob
      | obj _ _ _ => simp [okT] at ob
      | lst bs =>
        simp only [sameT] at hk
        (try simp only [mVar, mC, mOp, mUn, mNil, mCons, mTup, mLst, mCall, mCallX, mCallKX, mCB, mTest, mAnd, mOr, mNot, mYes, mAndV, mOrV, mNotV, mIf, mIsN, mNotN, mChain, mSeq, mNext, mBrk, mCnt, mRet, mRetN, mIfS, mDrop, mAsg, mOwn, mLstO, mListC, mLcO, oCatO, mShr, mApp, mPutI, mFrz, frz_w, mFor, mPar, mAug, mRaise, mTry, tryM, mKind, mLc, mList, mTupl, mListOwn, mRng1, mRng2, mEnum, mZip, mRev, mgName, mLenV, mIxV, mNoPart, mPart, mSl, wipeE, lcTurn, startE, oI_w, oB_w, oIC_w, oU_w, isB_w, oEq_w, oNe_w, exS_w, oIx_w, items_l, items_t, oLen_w, oAbs_w, oInt_i, oInt_b, oGcd_w, oMax_w, oMax3_w, oMin_w, oDivmod_w, oStr_w, oType_w, oIs1_w, oIs2_w, oIsTy_w, oCat_w, oIsN_w, oNotN_w, exD_w, exO_w, exD2_w, exO2_w, exL_w, exT_w, exI_w, ex1_w, ex1i_w, mSeqV_w, exX_w, seqOf_o, seqOf_d, mgCons_w, mgNil_w, mgTup_w, exPar_w, listC_w, putI_w, ixV_w, rng1_w, rng2_w, lcGo_n, lcGo_c, forGo_n, forGo_c, scEq_i, scEq_b, scEq_s, scEq_n, tyT, isNon, k_ii, k_ib, k_is, k_il, k_it, k_bi, k_bb, k_bs, k_bl, k_bt, k_ni, k_nb, k_ns, k_nl, k_nt, k_si, k_sb, k_ss, k_sl, k_st, k_li, k_lb, k_ls, k_ll, k_lt, k_ti, k_tb, k_ts, k_tl, k_tt, List.map_cons, List.map_nil, List.length_cons, List.length_nil, List.replicate, List.cons_append, List.nil_append, List.append_nil, List.getElem?_cons_zero, List.getElem?_cons_succ, List.set_cons_zero, List.set_cons_succ, Nat.sub_self, Nat.reduceAdd, Nat.reduceSub, List.replicate_zero, decide_eq_true_eq, Bool.true_eq_false, Bool.false_eq_true, if_true, if_false, reduceIte, Bool.not_eq_true', decide_eq_false_iff_not, Bool.not_true, Bool.not_false, exists_eq_left', true_and, and_true, Option.some.injEq, reduceCtorEq, decide_true, decide_false, not_true_eq_false, not_false_eq_true, Nat.reduceLT, Bool.or_false, Bool.or_true, Bool.false_or, Bool.true_or, Bool.and_true, Bool.true_and, Bool.and_false, Bool.false_and, true_implies, mFld, mFldS, mFldO, mProp, mMeth, mMethX, mInW, mCallXD, exOb_w, exOb2_w, exObD_w, exObD2_w, exObj_w, exObj0_w, exObjC_w, oIsNTy_w, mLcnt, eqD_ii, mJoin, oTupOf_w, oIsBl_w, cCalm])
        cases n with
        | zero => simp [okT] at oa
        | succ n' =>
          simp only [okT] at oa ob
          exact fun h1 h2 => ln as bs (.lst as) (.lst bs) n' rfl rfl rfl oa ob h1 hk
      | _ =>
        simp only [sameT] at hk
        (try simp only [mVar, mC, mOp, mUn, mNil, mCons, mTup, mLst, mCall, mCallX, mCallKX, mCB, mTest, mAnd, mOr, mNot, mYes, mAndV, mOrV, mNotV, mIf, mIsN, mNotN, mChain, mSeq, mNext, mBrk, mCnt, mRet, mRetN, mIfS, mDrop, mAsg, mOwn, mLstO, mListC, mLcO, oCatO, mShr, mApp, mPutI, mFrz, frz_w, mFor, mPar, mAug, mRaise, mTry, tryM, mKind, mLc, mList, mTupl, mListOwn, mRng1, mRng2, mEnum, mZip, mRev, mgName, mLenV, mIxV, mNoPart, mPart, mSl, wipeE, lcTurn, startE, oI_w, oB_w, oIC_w, oU_w, isB_w, oEq_w, oNe_w, exS_w, oIx_w, items_l, items_t, oLen_w, oAbs_w, oInt_i, oInt_b, oGcd_w, oMax_w, oMax3_w, oMin_w, oDivmod_w, oStr_w, oType_w, oIs1_w, oIs2_w, oIsTy_w, oCat_w, oIsN_w, oNotN_w, exD_w, exO_w, exD2_w, exO2_w, exL_w, exT_w, exI_w, ex1_w, ex1i_w, mSeqV_w, exX_w, seqOf_o, seqOf_d, mgCons_w, mgNil_w, mgTup_w, exPar_w, listC_w, putI_w, ixV_w, rng1_w, rng2_w, lcGo_n, lcGo_c, forGo_n, forGo_c, scEq_i, scEq_b, scEq_s, scEq_n, tyT, isNon, k_ii, k_ib, k_is, k_il, k_it, k_bi, k_bb, k_bs, k_bl, k_bt, k_ni, k_nb, k_ns, k_nl, k_nt, k_si, k_sb, k_ss, k_sl, k_st, k_li, k_lb, k_ls, k_ll, k_lt, k_ti, k_tb, k_ts, k_tl, k_tt, List.map_cons, List.map_nil, List.length_cons, List.length_nil, List.replicate, List.cons_append, List.nil_append, List.append_nil, List.getElem?_cons_zero, List.getElem?_cons_succ, List.set_cons_zero, List.set_cons_succ, Nat.sub_self, Nat.reduceAdd, Nat.reduceSub, List.replicate_zero, decide_eq_true_eq, Bool.true_eq_false, Bool.false_eq_true, if_true, if_false, reduceIte, Bool.not_eq_true', decide_eq_false_iff_not, Bool.not_true, Bool.not_false, exists_eq_left', true_and, and_true, Option.some.injEq, reduceCtorEq, decide_true, decide_false, not_true_eq_false, not_false_eq_true, Nat.reduceLT, Bool.or_false, Bool.or_true, Bool.false_or, Bool.true_or, Bool.and_true, Bool.true_and, Bool.and_false, Bool.false_and, true_implies, mFld, mFldS, mFldO, mProp, mMeth, mMethX, mInW, mCallXD, exOb_w, exOb2_w, exObD_w, exObD2_w, exObj_w, exObj0_w, exObjC_w, oIsNTy_w, mLcnt, eqD_ii, mJoin, oTupOf_w, oIsBl_w, cCalm])
        exact hk
    | tup as =>
      cases b with
      | ty _ => simp [okT] at ob
      | sto => simp [okT] at ob
      | obj _ _ _ => simp [okT] at ob
      | tup bs =>
        simp only [sameT] at hk
        (try simp only [mVar, mC, mOp, mUn, mNil, mCons, mTup, mLst, mCall, mCallX, mCallKX, mCB, mTest, mAnd, mOr, mNot, mYes, mAndV, mOrV, mNotV, mIf, mIsN, mNotN, mChain, mSeq, mNext, mBrk, mCnt, mRet, mRetN, mIfS, mDrop, mAsg, mOwn, mLstO, mListC, mLcO, oCatO, mShr, mApp, mPutI, mFrz, frz_w, mFor, mPar, mAug, mRaise, mTry, tryM, mKind, mLc, mList, mTupl, mListOwn, mRng1, mRng2, mEnum, mZip, mRev, mgName, mLenV, mIxV, mNoPart, mPart, mSl, wipeE, lcTurn, startE, oI_w, oB_w, oIC_w, oU_w, isB_w, oEq_w, oNe_w, exS_w, oIx_w, items_l, items_t, oLen_w, oAbs_w, oInt_i, oInt_b, oGcd_w, oMax_w, oMax3_w, oMin_w, oDivmod_w, oStr_w, oType_w, oIs1_w, oIs2_w, oIsTy_w, oCat_w, oIsN_w, oNotN_w, exD_w, exO_w, exD2_w, exO2_w, exL_w, exT_w, exI_w, ex1_w, ex1i_w, mSeqV_w, exX_w, seqOf_o, seqOf_d, mgCons_w, mgNil_w, mgTup_w, exPar_w, listC_w, putI_w, ixV_w, rng1_w, rng2_w, lcGo_n, lcGo_c, forGo_n, forGo_c, scEq_i, scEq_b, scEq_s, scEq_n, tyT, isNon, k_ii, k_ib, k_is, k_il, k_it, k_bi, k_bb, k_bs, k_bl, k_bt, k_ni, k_nb, k_ns, k_nl, k_nt, k_si, k_sb, k_ss, k_sl, k_st, k_li, k_lb, k_ls, k_ll, k_lt, k_ti, k_tb, k_ts, k_tl, k_tt, List.map_cons, List.map_nil, List.length_cons, List.length_nil, List.replicate, List.cons_append, List.nil_append, List.append_nil, List.getElem?_cons_zero, List.getElem?_cons_succ, List.set_cons_zero, List.set_cons_succ, Nat.sub_self, Nat.reduceAdd, Nat.reduceSub, List.replicate_zero, decide_eq_true_eq, Bool.true_eq_false, Bool.false_eq_true, if_true, if_false, reduceIte, Bool.not_eq_true', decide_eq_false_iff_not, Bool.not_true, Bool.not_false, exists_eq_left', true_and, and_true, Option.some.injEq, reduceCtorEq, decide_true, decide_false, not_true_eq_false, not_false_eq_true, Nat.reduceLT, Bool.or_false, Bool.or_true, Bool.false_or, Bool.true_or, Bool.and_true, Bool.true_and, Bool.and_false, Bool.false_and, true_implies, mFld, mFldS, mFldO, mProp, mMeth, mMethX, mInW, mCallXD, exOb_w, exOb2_w, exObD_w, exObD2_w, exObj_w, exObj0_w, exObjC_w, oIsNTy_w, mLcnt, eqD_ii, mJoin, oTupOf_w, oIsBl_w, cCalm])
        cases n with
        | zero => simp [okT] at oa
        | succ n' =>
          simp only [okT] at oa ob
          exact fun h1 h2 => ln as bs (.tup as) (.tup bs) n' rfl rfl rfl oa ob h1 hk
      | _ =>
        simp only [sameT] at hk
        (try simp only [mVar, mC, mOp, mUn, mNil, mCons, mTup, mLst, mCall, mCallX, mCallKX, mCB, mTest, mAnd, mOr, mNot, mYes, mAndV, mOrV, mNotV, mIf, mIsN, mNotN, mChain, mSeq, mNext, mBrk, mCnt, mRet, mRetN, mIfS, mDrop, mAsg, mOwn, mLstO, mListC, mLcO, oCatO, mShr, mApp, mPutI, mFrz, frz_w, mFor, mPar, mAug, mRaise, mTry, tryM, mKind, mLc, mList, mTupl, mListOwn, mRng1, mRng2, mEnum, mZip, mRev, mgName, mLenV, mIxV, mNoPart, mPart, mSl, wipeE, lcTurn, startE, oI_w, oB_w, oIC_w, oU_w, isB_w, oEq_w, oNe_w, exS_w, oIx_w, items_l, items_t, oLen_w, oAbs_w, oInt_i, oInt_b, oGcd_w, oMax_w, oMax3_w, oMin_w, oDivmod_w, oStr_w, oType_w, oIs1_w, oIs2_w, oIsTy_w, oCat_w, oIsN_w, oNotN_w, exD_w, exO_w, exD2_w, exO2_w, exL_w, exT_w, exI_w, ex1_w, ex1i_w, mSeqV_w, exX_w, seqOf_o, seqOf_d, mgCons_w, mgNil_w, mgTup_w, exPar_w, listC_w, putI_w, ixV_w, rng1_w, rng2_w, lcGo_n, lcGo_c, forGo_n, forGo_c, scEq_i, scEq_b, scEq_s, scEq_n, tyT, isNon, k_ii, k_ib, k_is, k_il, k_it, k_bi, k_bb, k_bs, k_bl, k_bt, k_ni, k_nb, k_ns, k_nl, k_nt, k_si, k_sb, k_ss, k_sl, k_st, k_li, k_lb, k_ls, k_ll, k_lt, k_ti, k_tb, k_ts, k_tl, k_tt, List.map_cons, List.map_nil, List.length_cons, List.length_nil, List.replicate, List.cons_append, List.nil_append, List.append_nil, List.getElem?_cons_zero, List.getElem?_cons_succ, List.set_cons_zero, List.set_cons_succ, Nat.sub_self, Nat.reduceAdd, Nat.reduceSub, List.replicate_zero, decide_eq_true_eq, Bool.true_eq_false, Bool.false_eq_true, if_true, if_false, reduceIte, Bool.not_eq_true', decide_eq_false_iff_not, Bool.not_true, Bool.not_false, exists_eq_left', true_and, and_true, Option.some.injEq, reduceCtorEq, decide_true, decide_false, not_true_eq_false, not_false_eq_true, Nat.reduceLT, Bool.or_false, Bool.or_true, Bool.false_or, Bool.true_or, Bool.and_true, Bool.true_and, Bool.and_false, Bool.false_and, true_implies, mFld, mFldS, mFldO, mProp, mMeth, mMethX, mInW, mCallXD, exOb_w, exOb2_w, exObD_w, exObD2_w, exObj_w, exObj0_w, exObjC_w, oIsNTy_w, mLcnt, eqD_ii, mJoin, oTupOf_w, oIsBl_w, cCalm])
        exact hk
    | _ =>
      cases b with
      | ty _ => simp [okT] at ob
      | sto => simp [okT] at ob
      | obj _ _ _ => simp [okT] at ob
      | _ =>
        simp only [sameT] at hk
        (try simp only [mVar, mC, mOp, mUn, mNil, mCons, mTup, mLst, mCall, mCallX, mCallKX, mCB, mTest, mAnd, mOr, mNot, mYes, mAndV, mOrV, mNotV, mIf, mIsN, mNotN, mChain, mSeq, mNext, mBrk, mCnt, mRet, mRetN, mIfS, mDrop, mAsg, mOwn, mLstO, mListC, mLcO, oCatO, mShr, mApp, mPutI, mFrz, frz_w, mFor, mPar, mAug, mRaise, mTry, tryM, mKind, mLc, mList, mTupl, mListOwn, mRng1, mRng2, mEnum, mZip, mRev, mgName, mLenV, mIxV, mNoPart, mPart, mSl, wipeE, lcTurn, startE, oI_w, oB_w, oIC_w, oU_w, isB_w, oEq_w, oNe_w, exS_w, oIx_w, items_l, items_t, oLen_w, oAbs_w, oInt_i, oInt_b, oGcd_w, oMax_w, oMax3_w, oMin_w, oDivmod_w, oStr_w, oType_w, oIs1_w, oIs2_w, oIsTy_w, oCat_w, oIsN_w, oNotN_w, exD_w, exO_w, exD2_w, exO2_w, exL_w, exT_w, exI_w, ex1_w, ex1i_w, mSeqV_w, exX_w, seqOf_o, seqOf_d, mgCons_w, mgNil_w, mgTup_w, exPar_w, listC_w, putI_w, ixV_w, rng1_w, rng2_w, lcGo_n, lcGo_c, forGo_n, forGo_c, scEq_i, scEq_b, scEq_s, scEq_n, tyT, isNon, k_ii, k_ib, k_is, k_il, k_it, k_bi, k_bb, k_bs, k_bl, k_bt, k_ni, k_nb, k_ns, k_nl, k_nt, k_si, k_sb, k_ss, k_sl, k_st, k_li, k_lb, k_ls, k_ll, k_lt, k_ti, k_tb, k_ts, k_tl, k_tt, List.map_cons, List.map_nil, List.length_cons, List.length_nil, List.replicate, List.cons_append, List.nil_append, List.append_nil, List.getElem?_cons_zero, List.getElem?_cons_succ, List.set_cons_zero, List.set_cons_succ, Nat.sub_self, Nat.reduceAdd, Nat.reduceSub, List.replicate_zero, decide_eq_true_eq, Bool.true_eq_false, Bool.false_eq_true, if_true, if_false, reduceIte, Bool.not_eq_true', decide_eq_false_iff_not, Bool.not_true, Bool.not_false, exists_eq_left', true_and, and_true, Option.some.injEq, reduceCtorEq, decide_true, decide_false, not_true_eq_false, not_false_eq_true, Nat.reduceLT, Bool.or_false, Bool.or_true, Bool.false_or, Bool.true_or, Bool.and_true, Bool.true_and, Bool.and_false, Bool.false_and, true_implies, mFld, mFldS, mFldO, mProp, mMeth, mMethX, mInW, mCallXD, exOb_w, exOb2_w, exObD_w, exObD2_w, exObj_w, exObj0_w, exObjC_w, oIsNTy_w, mLcnt, eqD_ii, mJoin, oTupOf_w, oIsBl_w, cCalm])
        exact hk
theorem ok_same (F : Fun K "_law_same" "_law_same" s_law_same f fd) (Tx : Txt K mg A tk aBurstRule) (gm : mg "_law_same" = some (.ref f)) (b : Binds K fd ["left", "right"] []) : ∀ n : Nat, FnOk P w K mg base CX0 (n + 1) f fd ["left", "right"] (SpU A 2 (c_law_same n))
  | 0 => ok_same_step F Tx 0 0 ⟨f, fd, ⟨fun vs H Q E h => by
      obtain ⟨_, _, _, _, _, _, _, _, ⟨m, h, _⟩, _⟩ := h
      exact absurd h (Nat.not_lt_zero _), fun A outer s H args us vs Q E _ _ _ _ h => by
      obtain ⟨_, _, _, _, _, _, _, _, ⟨m, h, _⟩, _⟩ := h
      exact absurd h (Nat.not_lt_zero _)⟩, gm, F.kp, b⟩
  | n + 1 => ok_same_step F Tx (n + 1) (n + 1) ⟨f, fd, (ok_same F Tx gm b n).imp fun vs H Q E h => by
      obtain ⟨s, P, ds, k, XA, h1, h2, h3, ⟨m, hm, a, b, e, oa, ob, hk⟩, h5⟩ := h
      exact ⟨s, P, ds, k, XA, h1, h2, h3, ⟨a, b, e, okT_le oa (by omega), ob, hk⟩, h5⟩, gm, F.kp, b⟩
end
end Mt
namespace Mt
open PySem PySem.Spec PyProof.Rows L2 L2H
section
variable {P : Program} {w : World} {K : PySem.W.Frag} {mg : Str → Option Value} {base : Heap} {f : Addr} {fd : FuncData} {A : Ad} {tk : Nat → Tok} {aBurstRule : Addr}
theorem ok_copy_step (F : Fun K "_law_copy" "_law_copy" s_law_copy f fd) (Tx : Txt K mg A tk aBurstRule) (j n : Nat) (C_law_copy : Cal P w K mg base "_law_copy" j ["value"] (SpU A 1 (fun ds k XA => ∃ m, m < n ∧ c_law_copy m ds k XA))) :
    FnOk P w K mg base CX0 (j + 1) f fd ["value"] (SpU A 1 (c_law_copy n)) := by
  refine F.ok sc_law_copy (fun vs H Q E h => h.len) (fun cdv Ar outer s H vs Q E hr h => ?_)
  obtain ⟨st, P0, ds, k, XA, h1, h2, h3, hc, h5, h6⟩ := h
  refine ⟨_, (pss_cons (ps_if (pt_val (pe_callB call_isH (by rfl) Tx.m_isinstance (by decide +kernel) (pa_cons (pv 0) (pa_cons (pe_bltn (v := .ty "list") (u := .type "list") (by rfl) Tx.m_list (by decide +kernel) rel_ty) pa_nil)))) (pss_one (ps_ret (pe_lc (own := [("part", 1)]) (g := gName 1) rfl sc_law_copy.nd (pi_list (pv 0)) (blkOk_by (N := ["value", "part"]) (sc := defScope s_law_copy) (by decide +kernel)) (fun _ _ _ _ _ => pg_name (i := 1) sc_law_copy.nd rfl (.inl rfl)) (fun _ _ _ _ _ => pts_nil) (fun _ _ _ _ _ => (p_call C_law_copy hr (pa_cons (pv 1) pa_nil) (by omega)))))) pss_nil)
      (pss_cons (ps_if (pt_val (pe_callB call_isH (by rfl) Tx.m_isinstance (by decide +kernel) (pa_cons (pv 0) (pa_cons (pe_bltn (v := .ty "tuple") (u := .type "tuple") (by rfl) Tx.m_tuple (by decide +kernel) rel_ty) pa_nil)))) (pss_one (ps_ret (pe_callTy call_tupOf (by rfl) Tx.m_tuple (by decide +kernel) (pa_cons (pe_lc (own := [("part", 1)]) (g := gName 1) rfl sc_law_copy.nd (pi_tup (pv 0)) (blkOk_by (N := ["value", "part"]) (sc := defScope s_law_copy) (by decide +kernel)) (fun _ _ _ _ _ => pg_name (i := 1) sc_law_copy.nd rfl (.inl rfl)) (fun _ _ _ _ _ => pts_nil) (fun _ _ _ _ _ => (p_call C_law_copy hr (pa_cons (pv 1) pa_nil) (by omega)))) pa_nil)))) pss_nil)
      (pss_one (ps_ret (pv 0))))), ?_⟩
  refine run0 (A := A) (ms := ?ms) (XA := XA) h1 h2 h5 ?r ?u
  case r => exact (rs_seq (rs_if (rt_B (re_cb rcb_is1 (ra_cons re_var (ra_cons re_ty ra_nil)))) (rs_ret (re_lc (vs := [1]) (is := [1]) ric_var rg_name rt_yes (re_call (ra_cons re_var ra_nil)))) rs_next)
      (rs_seq (rs_if (rt_B (re_cb rcb_is1 (ra_cons re_var (ra_cons re_ty ra_nil)))) (rs_ret (re_cb rcb_tupOf (ra_cons (re_lc (vs := [1]) (is := [1]) (ric_of (ri_tup re_var)) rg_name rt_yes (re_call (ra_cons re_var ra_nil))) ra_nil))) rs_next)
      (rs_ret re_var)))
  case u =>
    clear h1 h2 h5 h6 hr
    obtain ⟨v, rfl, ov, hk⟩ := hc
    have turn : ∀ (n' : Nat) (es : List T) (k' : List T → Prop) (env : Env), n = n' + 1 → okTs n' es = true → k' es → lcInv (lcTurn (mgName 1) mYes (mCall 1 (fun ds k XA => ∃ m, m < n ∧ c_law_copy m ds k XA) (mCons (mVar 1) mNil)) XA [some (Sl.d v), none]) es k' := by
      intro n' es k' env en oe hk
      refine lc_id (fun x r hm hr => ?_) hk
      obtain ⟨i, hi⟩ := List.getElem?_of_mem hm
      (try simp only [mVar, mC, mOp, mUn, mNil, mCons, mTup, mLst, mCall, mCallX, mCallKX, mCB, mTest, mAnd, mOr, mNot, mYes, mAndV, mOrV, mNotV, mIf, mIsN, mNotN, mChain, mSeq, mNext, mBrk, mCnt, mRet, mRetN, mIfS, mDrop, mAsg, mOwn, mLstO, mListC, mLcO, oCatO, mShr, mApp, mPutI, mFrz, frz_w, mFor, mPar, mAug, mRaise, mTry, tryM, mKind, mLc, mList, mTupl, mListOwn, mRng1, mRng2, mEnum, mZip, mRev, mgName, mLenV, mIxV, mNoPart, mPart, mSl, wipeE, lcTurn, startE, oI_w, oB_w, oIC_w, oU_w, isB_w, oEq_w, oNe_w, exS_w, oIx_w, items_l, items_t, oLen_w, oAbs_w, oInt_i, oInt_b, oGcd_w, oMax_w, oMax3_w, oMin_w, oDivmod_w, oStr_w, oType_w, oIs1_w, oIs2_w, oIsTy_w, oCat_w, oIsN_w, oNotN_w, exD_w, exO_w, exD2_w, exO2_w, exL_w, exT_w, exI_w, ex1_w, ex1i_w, mSeqV_w, exX_w, seqOf_o, seqOf_d, mgCons_w, mgNil_w, mgTup_w, exPar_w, listC_w, putI_w, ixV_w, rng1_w, rng2_w, lcGo_n, lcGo_c, forGo_n, forGo_c, scEq_i, scEq_b, scEq_s, scEq_n, tyT, isNon, k_ii, k_ib, k_is, k_il, k_it, k_bi, k_bb, k_bs, k_bl, k_bt, k_ni, k_nb, k_ns, k_nl, k_nt, k_si, k_sb, k_ss, k_sl, k_st, k_li, k_lb, k_ls, k_ll, k_lt, k_ti, k_tb, k_ts, k_tl, k_tt, List.map_cons, List.map_nil, List.length_cons, List.length_nil, List.replicate, List.cons_append, List.nil_append, List.append_nil, List.getElem?_cons_zero, List.getElem?_cons_succ, List.set_cons_zero, List.set_cons_succ, Nat.sub_self, Nat.reduceAdd, Nat.reduceSub, List.replicate_zero, decide_eq_true_eq, Bool.true_eq_false, Bool.false_eq_true, if_true, if_false, reduceIte, Bool.not_eq_true', decide_eq_false_iff_not, Bool.not_true, Bool.not_false, exists_eq_left', true_and, and_true, Option.some.injEq, reduceCtorEq, decide_true, decide_false, not_true_eq_false, not_false_eq_true, Nat.reduceLT, Bool.or_false, Bool.or_true, Bool.false_or, Bool.true_or, Bool.and_true, Bool.true_and, Bool.and_false, Bool.false_and, true_implies, mFld, mFldS, mFldO, mProp, mMeth, mMethX, mInW, mCallXD, exOb_w, exOb2_w, exObD_w, exObD2_w, exObj_w, exObj0_w, exObjC_w, oIsNTy_w, mLcnt, eqD_ii, mJoin, oTupOf_w, oIsBl_w, cCalm])
      exact ⟨n', by omega, x, rfl, okTs_at oe hi, hr⟩
    cases v with
    | ty _ => cases n <;> simp [okT] at ov
    | sto => cases n <;> simp [okT] at ov
    | obj _ _ _ => cases n <;> simp [okT] at ov
    | lst es =>
      cases n with
      | zero => simp [okT] at ov
      | succ n' =>
        simp only [okT] at ov
        (try simp only [mVar, mC, mOp, mUn, mNil, mCons, mTup, mLst, mCall, mCallX, mCallKX, mCB, mTest, mAnd, mOr, mNot, mYes, mAndV, mOrV, mNotV, mIf, mIsN, mNotN, mChain, mSeq, mNext, mBrk, mCnt, mRet, mRetN, mIfS, mDrop, mAsg, mOwn, mLstO, mListC, mLcO, oCatO, mShr, mApp, mPutI, mFrz, frz_w, mFor, mPar, mAug, mRaise, mTry, tryM, mKind, mLc, mList, mTupl, mListOwn, mRng1, mRng2, mEnum, mZip, mRev, mgName, mLenV, mIxV, mNoPart, mPart, mSl, wipeE, lcTurn, startE, oI_w, oB_w, oIC_w, oU_w, isB_w, oEq_w, oNe_w, exS_w, oIx_w, items_l, items_t, oLen_w, oAbs_w, oInt_i, oInt_b, oGcd_w, oMax_w, oMax3_w, oMin_w, oDivmod_w, oStr_w, oType_w, oIs1_w, oIs2_w, oIsTy_w, oCat_w, oIsN_w, oNotN_w, exD_w, exO_w, exD2_w, exO2_w, exL_w, exT_w, exI_w, ex1_w, ex1i_w, mSeqV_w, exX_w, seqOf_o, seqOf_d, mgCons_w, mgNil_w, mgTup_w, exPar_w, listC_w, putI_w, ixV_w, rng1_w, rng2_w, lcGo_n, lcGo_c, forGo_n, forGo_c, scEq_i, scEq_b, scEq_s, scEq_n, tyT, isNon, k_ii, k_ib, k_is, k_il, k_it, k_bi, k_bb, k_bs, k_bl, k_bt, k_ni, k_nb, k_ns, k_nl, k_nt, k_si, k_sb, k_ss, k_sl, k_st, k_li, k_lb, k_ls, k_ll, k_lt, k_ti, k_tb, k_ts, k_tl, k_tt, List.map_cons, List.map_nil, List.length_cons, List.length_nil, List.replicate, List.cons_append, List.nil_append, List.append_nil, List.getElem?_cons_zero, List.getElem?_cons_succ, List.set_cons_zero, List.set_cons_succ, Nat.sub_self, Nat.reduceAdd, Nat.reduceSub, List.replicate_zero, decide_eq_true_eq, Bool.true_eq_false, Bool.false_eq_true, if_true, if_false, reduceIte, Bool.not_eq_true', decide_eq_false_iff_not, Bool.not_true, Bool.not_false, exists_eq_left', true_and, and_true, Option.some.injEq, reduceCtorEq, decide_true, decide_false, not_true_eq_false, not_false_eq_true, Nat.reduceLT, Bool.or_false, Bool.or_true, Bool.false_or, Bool.true_or, Bool.and_true, Bool.true_and, Bool.and_false, Bool.false_and, true_implies, mFld, mFldS, mFldO, mProp, mMeth, mMethX, mInW, mCallXD, exOb_w, exOb2_w, exObD_w, exObD2_w, exObj_w, exObj0_w, exObjC_w, oIsNTy_w, mLcnt, eqD_ii, mJoin, oTupOf_w, oIsBl_w, cCalm])
        exact ⟨es, Or.inr rfl, turn n' es _ [] rfl ov hk⟩
    | tup es =>
      cases n with
      | zero => simp [okT] at ov
      | succ n' =>
        simp only [okT] at ov
        (try simp only [mVar, mC, mOp, mUn, mNil, mCons, mTup, mLst, mCall, mCallX, mCallKX, mCB, mTest, mAnd, mOr, mNot, mYes, mAndV, mOrV, mNotV, mIf, mIsN, mNotN, mChain, mSeq, mNext, mBrk, mCnt, mRet, mRetN, mIfS, mDrop, mAsg, mOwn, mLstO, mListC, mLcO, oCatO, mShr, mApp, mPutI, mFrz, frz_w, mFor, mPar, mAug, mRaise, mTry, tryM, mKind, mLc, mList, mTupl, mListOwn, mRng1, mRng2, mEnum, mZip, mRev, mgName, mLenV, mIxV, mNoPart, mPart, mSl, wipeE, lcTurn, startE, oI_w, oB_w, oIC_w, oU_w, isB_w, oEq_w, oNe_w, exS_w, oIx_w, items_l, items_t, oLen_w, oAbs_w, oInt_i, oInt_b, oGcd_w, oMax_w, oMax3_w, oMin_w, oDivmod_w, oStr_w, oType_w, oIs1_w, oIs2_w, oIsTy_w, oCat_w, oIsN_w, oNotN_w, exD_w, exO_w, exD2_w, exO2_w, exL_w, exT_w, exI_w, ex1_w, ex1i_w, mSeqV_w, exX_w, seqOf_o, seqOf_d, mgCons_w, mgNil_w, mgTup_w, exPar_w, listC_w, putI_w, ixV_w, rng1_w, rng2_w, lcGo_n, lcGo_c, forGo_n, forGo_c, scEq_i, scEq_b, scEq_s, scEq_n, tyT, isNon, k_ii, k_ib, k_is, k_il, k_it, k_bi, k_bb, k_bs, k_bl, k_bt, k_ni, k_nb, k_ns, k_nl, k_nt, k_si, k_sb, k_ss, k_sl, k_st, k_li, k_lb, k_ls, k_ll, k_lt, k_ti, k_tb, k_ts, k_tl, k_tt, List.map_cons, List.map_nil, List.length_cons, List.length_nil, List.replicate, List.cons_append, List.nil_append, List.append_nil, List.getElem?_cons_zero, List.getElem?_cons_succ, List.set_cons_zero, List.set_cons_succ, Nat.sub_self, Nat.reduceAdd, Nat.reduceSub, List.replicate_zero, decide_eq_true_eq, Bool.true_eq_false, Bool.false_eq_true, if_true, if_false, reduceIte, Bool.not_eq_true', decide_eq_false_iff_not, Bool.not_true, Bool.not_false, exists_eq_left', true_and, and_true, Option.some.injEq, reduceCtorEq, decide_true, decide_false, not_true_eq_false, not_false_eq_true, Nat.reduceLT, Bool.or_false, Bool.or_true, Bool.false_or, Bool.true_or, Bool.and_true, Bool.true_and, Bool.and_false, Bool.false_and, true_implies, mFld, mFldS, mFldO, mProp, mMeth, mMethX, mInW, mCallXD, exOb_w, exOb2_w, exObD_w, exObD2_w, exObj_w, exObj0_w, exObjC_w, oIsNTy_w, mLcnt, eqD_ii, mJoin, oTupOf_w, oIsBl_w, cCalm])
        exact turn n' es _ [] rfl ov hk
    | _ =>
      (try simp only [mVar, mC, mOp, mUn, mNil, mCons, mTup, mLst, mCall, mCallX, mCallKX, mCB, mTest, mAnd, mOr, mNot, mYes, mAndV, mOrV, mNotV, mIf, mIsN, mNotN, mChain, mSeq, mNext, mBrk, mCnt, mRet, mRetN, mIfS, mDrop, mAsg, mOwn, mLstO, mListC, mLcO, oCatO, mShr, mApp, mPutI, mFrz, frz_w, mFor, mPar, mAug, mRaise, mTry, tryM, mKind, mLc, mList, mTupl, mListOwn, mRng1, mRng2, mEnum, mZip, mRev, mgName, mLenV, mIxV, mNoPart, mPart, mSl, wipeE, lcTurn, startE, oI_w, oB_w, oIC_w, oU_w, isB_w, oEq_w, oNe_w, exS_w, oIx_w, items_l, items_t, oLen_w, oAbs_w, oInt_i, oInt_b, oGcd_w, oMax_w, oMax3_w, oMin_w, oDivmod_w, oStr_w, oType_w, oIs1_w, oIs2_w, oIsTy_w, oCat_w, oIsN_w, oNotN_w, exD_w, exO_w, exD2_w, exO2_w, exL_w, exT_w, exI_w, ex1_w, ex1i_w, mSeqV_w, exX_w, seqOf_o, seqOf_d, mgCons_w, mgNil_w, mgTup_w, exPar_w, listC_w, putI_w, ixV_w, rng1_w, rng2_w, lcGo_n, lcGo_c, forGo_n, forGo_c, scEq_i, scEq_b, scEq_s, scEq_n, tyT, isNon, k_ii, k_ib, k_is, k_il, k_it, k_bi, k_bb, k_bs, k_bl, k_bt, k_ni, k_nb, k_ns, k_nl, k_nt, k_si, k_sb, k_ss, k_sl, k_st, k_li, k_lb, k_ls, k_ll, k_lt, k_ti, k_tb, k_ts, k_tl, k_tt, List.map_cons, List.map_nil, List.length_cons, List.length_nil, List.replicate, List.cons_append, List.nil_append, List.append_nil, List.getElem?_cons_zero, List.getElem?_cons_succ, List.set_cons_zero, List.set_cons_succ, Nat.sub_self, Nat.reduceAdd, Nat.reduceSub, List.replicate_zero, decide_eq_true_eq, Bool.true_eq_false, Bool.false_eq_true, if_true, if_false, reduceIte, Bool.not_eq_true', decide_eq_false_iff_not, Bool.not_true, Bool.not_false, exists_eq_left', true_and, and_true, Option.some.injEq, reduceCtorEq, decide_true, decide_false, not_true_eq_false, not_false_eq_true, Nat.reduceLT, Bool.or_false, Bool.or_true, Bool.false_or, Bool.true_or, Bool.and_true, Bool.true_and, Bool.and_false, Bool.false_and, true_implies, mFld, mFldS, mFldO, mProp, mMeth, mMethX, mInW, mCallXD, exOb_w, exOb2_w, exObD_w, exObD2_w, exObj_w, exObj0_w, exObjC_w, oIsNTy_w, mLcnt, eqD_ii, mJoin, oTupOf_w, oIsBl_w, cCalm])
      exact hk
theorem ok_copy (F : Fun K "_law_copy" "_law_copy" s_law_copy f fd) (Tx : Txt K mg A tk aBurstRule) (gm : mg "_law_copy" = some (.ref f)) (b : Binds K fd ["value"] []) : ∀ n : Nat, FnOk P w K mg base CX0 (n + 1) f fd ["value"] (SpU A 1 (c_law_copy n))
  | 0 => ok_copy_step F Tx 0 0 ⟨f, fd, ⟨fun vs H Q E h => by
      obtain ⟨_, _, _, _, _, _, _, _, ⟨m, h, _⟩, _⟩ := h
      exact absurd h (Nat.not_lt_zero _), fun A outer s H args us vs Q E _ _ _ _ h => by
      obtain ⟨_, _, _, _, _, _, _, _, ⟨m, h, _⟩, _⟩ := h
      exact absurd h (Nat.not_lt_zero _)⟩, gm, F.kp, b⟩
  | n + 1 => ok_copy_step F Tx (n + 1) (n + 1) ⟨f, fd, (ok_copy F Tx gm b n).imp fun vs H Q E h => by
      obtain ⟨s, P, ds, k, XA, h1, h2, h3, ⟨m, hm, v, e, ov, hk⟩, h5⟩ := h
      exact ⟨s, P, ds, k, XA, h1, h2, h3, ⟨v, e, okT_le ov (by omega), hk⟩, h5⟩, gm, F.kp, b⟩
end
end Mt
namespace Mt
open PySem PySem.Spec PyProof.Rows L2 L2H
section
variable {P : Program} {w : World} {K : PySem.W.Frag} {mg : Str → Option Value} {base : Heap} {f : Addr} {fd : FuncData} {A : Ad} {tk : Nat → Tok} {aBurstRule : Addr}
theorem ok_law_char (F : Fun K "_law_char" "_law_char" s_law_char f fd) (Tx : Txt K mg A tk aBurstRule) (C_law_take : Cal P w K mg base "_law_take" 2 ["store", "many"] (SpU A 2 c_law_take)) :
    FnOk P w K mg base CX0 3 f fd ["store"] (SpU A 1 c_law_char) := by
  refine F.ok sc_law_char (fun vs H Q E h => h.len) (fun cdv Ar outer s H vs Q E hr h => ?_)
  obtain ⟨st, P0, ds, k, XA, h1, h2, h3, hc, h5, h6⟩ := h
  refine ⟨_, (pss_cons (ps_set (i := 1) sc_law_char.nd rfl (.inl rfl) pe_str)
      (pss_cons (ps_set (i := 1) sc_law_char.nd rfl (.inl rfl) (pe_op op_catS (pv 1) pe_str))
      (pss_one (ps_ret (pe_ix ix_str (pv 1) (p_call C_law_take hr (pa_cons (pv 0) (pa_cons (pe_callB call_lenS (by rfl) Tx.m_len (by decide +kernel) (pa_cons (pv 1) pa_nil)) pa_nil)) (by omega)) (fun _ _ => rfl)))))), ?_⟩
  refine run0 (A := A) (ms := ?ms) (XA := XA) h1 h2 h5 ?r ?u
  case r => exact (rs_seq (rs_asg re_str rg_name)
      (rs_seq (rs_asg (re_op ro_catS re_var re_str) rg_name)
      (rs_ret (re_op ro_ixS re_var (re_call (ra_cons re_var (ra_cons (re_cb rcb_lenS (ra_cons re_var ra_nil)) ra_nil)))))))
  case u =>
    clear h1 h2 h5 h6 hr
    obtain ⟨rfl, hk⟩ := hc
    (try simp only [mVar, mC, mOp, mUn, mNil, mCons, mTup, mLst, mCall, mCallX, mCallKX, mCB, mTest, mAnd, mOr, mNot, mYes, mAndV, mOrV, mNotV, mIf, mIsN, mNotN, mChain, mSeq, mNext, mBrk, mCnt, mRet, mRetN, mIfS, mDrop, mAsg, mOwn, mLstO, mListC, mLcO, oCatO, mShr, mApp, mPutI, mFrz, frz_w, mFor, mPar, mAug, mRaise, mTry, tryM, mKind, mLc, mList, mTupl, mListOwn, mRng1, mRng2, mEnum, mZip, mRev, mgName, mLenV, mIxV, mNoPart, mPart, mSl, wipeE, lcTurn, startE, oI_w, oB_w, oIC_w, oU_w, isB_w, oEq_w, oNe_w, exS_w, oIx_w, items_l, items_t, oLen_w, oAbs_w, oInt_i, oInt_b, oGcd_w, oMax_w, oMax3_w, oMin_w, oDivmod_w, oStr_w, oType_w, oIs1_w, oIs2_w, oIsTy_w, oCat_w, oIsN_w, oNotN_w, exD_w, exO_w, exD2_w, exO2_w, exL_w, exT_w, exI_w, ex1_w, ex1i_w, mSeqV_w, exX_w, seqOf_o, seqOf_d, mgCons_w, mgNil_w, mgTup_w, exPar_w, listC_w, putI_w, ixV_w, rng1_w, rng2_w, lcGo_n, lcGo_c, forGo_n, forGo_c, scEq_i, scEq_b, scEq_s, scEq_n, tyT, isNon, k_ii, k_ib, k_is, k_il, k_it, k_bi, k_bb, k_bs, k_bl, k_bt, k_ni, k_nb, k_ns, k_nl, k_nt, k_si, k_sb, k_ss, k_sl, k_st, k_li, k_lb, k_ls, k_ll, k_lt, k_ti, k_tb, k_ts, k_tl, k_tt, List.map_cons, List.map_nil, List.length_cons, List.length_nil, List.replicate, List.cons_append, List.nil_append, List.append_nil, List.getElem?_cons_zero, List.getElem?_cons_succ, List.set_cons_zero, List.set_cons_succ, Nat.sub_self, Nat.reduceAdd, Nat.reduceSub, List.replicate_zero, decide_eq_true_eq, Bool.true_eq_false, Bool.false_eq_true, if_true, if_false, reduceIte, Bool.not_eq_true', decide_eq_false_iff_not, Bool.not_true, Bool.not_false, exists_eq_left', true_and, and_true, Option.some.injEq, reduceCtorEq, decide_true, decide_false, not_true_eq_false, not_false_eq_true, Nat.reduceLT, Bool.or_false, Bool.or_true, Bool.false_or, Bool.true_or, Bool.and_true, Bool.true_and, Bool.and_false, Bool.false_and, true_implies, mFld, mFldS, mFldO, mProp, mMeth, mMethX, mInW, mCallXD, exOb_w, exOb2_w, exObD_w, exObD2_w, exObj_w, exObj0_w, exObjC_w, oIsNTy_w, mLcnt, eqD_ii, mJoin, oTupOf_w, oIsBl_w, cCalm])
    refine ⟨_, _, rfl, rfl, by decide +kernel, ⟨_, rfl, by decide +kernel, _, rfl, by decide +kernel, fun r r0 r1 => ?_⟩⟩
    have r1 := r1.resolve_right fun h => absurd h.1 (by decide +kernel)
    obtain ⟨c, hc⟩ := atI_ex (l := ((" !\"#$&'()*+,-./0123456789:;<=>?@ABCDEFGHIJKLMNOPQRSTUVWXYZ[\\]^_`" : Str) ++ ("abcdefghijklmnopqrstuvwxyz{|}~\n" : Str)).cps.toList) r0 (by rw [Array.length_toList]; exact r1)
    exact ⟨_, r, c, rfl, rfl, by decide +kernel, hc, hk _ rfl⟩
end
end Mt
namespace Mt
open PySem PySem.Spec PyProof.Rows L2 L2H
section
variable {P : Program} {w : World} {K : PySem.W.Frag} {mg : Str → Option Value} {base : Heap} {f : Addr} {fd : FuncData} {A : Ad} {tk : Nat → Tok} {aBurstRule : Addr}
theorem ok_law_text (F : Fun K "_law_text" "_law_text" s_law_text f fd) (Tx : Txt K mg A tk aBurstRule) (C_law_char : Cal P w K mg base "_law_char" 3 ["store"] (SpU A 1 c_law_char)) (C_law_edge : Cal P w K mg base "_law_edge" 3 ["store", "low", "high"] (SpU A 3 c_law_edge)) :
    FnOk P w K mg base CX0 4 f fd ["store", "most"] (SpU A 2 c_law_text) := by
  refine F.ok sc_law_text (fun vs H Q E h => h.len) (fun cdv Ar outer s H vs Q E hr h => ?_)
  obtain ⟨st, P0, ds, k, XA, h1, h2, h3, hc, h5, h6⟩ := h
  refine ⟨_, (pss_one (ps_ret (pe_join pe_str (pe_lc (own := [("k", 2)]) (g := gName 2) rfl sc_law_text.nd (pi_range1 (by rfl) Tx.m_range (pa_cons (p_call C_law_edge hr (pa_cons (pv 0) (pa_cons pe_int (pa_cons (pv 1) pa_nil))) (by omega)) pa_nil)) (blkOk_by (N := ["store", "most", "k"]) (sc := defScope s_law_text) (by decide +kernel)) (fun _ _ _ _ _ => pg_name (i := 2) sc_law_text.nd rfl (.inl rfl)) (fun _ _ _ _ _ => pts_nil) (fun _ _ _ _ _ => (p_call C_law_char hr (pa_cons (pv 0) pa_nil) (by omega))))))), ?_⟩
  refine run0 (A := A) (ms := ?ms) (XA := XA) h1 h2 h5 ?r ?u
  case r => exact (rs_ret (re_join re_str (re_lc (vs := [2]) (is := [2]) (ric_of (ri_rng1 (ra_cons (re_call (ra_cons re_var (ra_cons re_int (ra_cons re_var ra_nil)))) ra_nil))) rg_name rt_yes (re_call (ra_cons re_var ra_nil)))))
  case u =>
    clear h1 h2 h5 h6 hr
    obtain ⟨m, rfl, m0, m1, hk⟩ := hc
    (try simp only [mVar, mC, mOp, mUn, mNil, mCons, mTup, mLst, mCall, mCallX, mCallKX, mCB, mTest, mAnd, mOr, mNot, mYes, mAndV, mOrV, mNotV, mIf, mIsN, mNotN, mChain, mSeq, mNext, mBrk, mCnt, mRet, mRetN, mIfS, mDrop, mAsg, mOwn, mLstO, mListC, mLcO, oCatO, mShr, mApp, mPutI, mFrz, frz_w, mFor, mPar, mAug, mRaise, mTry, tryM, mKind, mLc, mList, mTupl, mListOwn, mRng1, mRng2, mEnum, mZip, mRev, mgName, mLenV, mIxV, mNoPart, mPart, mSl, wipeE, lcTurn, startE, oI_w, oB_w, oIC_w, oU_w, isB_w, oEq_w, oNe_w, exS_w, oIx_w, items_l, items_t, oLen_w, oAbs_w, oInt_i, oInt_b, oGcd_w, oMax_w, oMax3_w, oMin_w, oDivmod_w, oStr_w, oType_w, oIs1_w, oIs2_w, oIsTy_w, oCat_w, oIsN_w, oNotN_w, exD_w, exO_w, exD2_w, exO2_w, exL_w, exT_w, exI_w, ex1_w, ex1i_w, mSeqV_w, exX_w, seqOf_o, seqOf_d, mgCons_w, mgNil_w, mgTup_w, exPar_w, listC_w, putI_w, ixV_w, rng1_w, rng2_w, lcGo_n, lcGo_c, forGo_n, forGo_c, scEq_i, scEq_b, scEq_s, scEq_n, tyT, isNon, k_ii, k_ib, k_is, k_il, k_it, k_bi, k_bb, k_bs, k_bl, k_bt, k_ni, k_nb, k_ns, k_nl, k_nt, k_si, k_sb, k_ss, k_sl, k_st, k_li, k_lb, k_ls, k_ll, k_lt, k_ti, k_tb, k_ts, k_tl, k_tt, List.map_cons, List.map_nil, List.length_cons, List.length_nil, List.replicate, List.cons_append, List.nil_append, List.append_nil, List.getElem?_cons_zero, List.getElem?_cons_succ, List.set_cons_zero, List.set_cons_succ, Nat.sub_self, Nat.reduceAdd, Nat.reduceSub, List.replicate_zero, decide_eq_true_eq, Bool.true_eq_false, Bool.false_eq_true, if_true, if_false, reduceIte, Bool.not_eq_true', decide_eq_false_iff_not, Bool.not_true, Bool.not_false, exists_eq_left', true_and, and_true, Option.some.injEq, reduceCtorEq, decide_true, decide_false, not_true_eq_false, not_false_eq_true, Nat.reduceLT, Bool.or_false, Bool.or_true, Bool.false_or, Bool.true_or, Bool.and_true, Bool.true_and, Bool.and_false, Bool.false_and, true_implies, mFld, mFldS, mFldO, mProp, mMeth, mMethX, mInW, mCallXD, exOb_w, exOb2_w, exObD_w, exObD2_w, exObj_w, exObj0_w, exObjC_w, oIsNTy_w, mLcnt, eqD_ii, mJoin, oTupOf_w, oIsBl_w, cCalm])
    refine ⟨_, rfl, 0, m, rfl, m0, by omega, fun j j0 j1 => ⟨j, rfl, by omega, by omega, fun i acc => ∃ ys : List Str, acc = ys.map T.str ∧ ys.length = i ∧ ∀ y ∈ ys, y.length = 1, ⟨[], rfl, rfl, fun y h => nomatch h⟩, ?_, ?_⟩⟩
    · rintro i x acc hx ⟨ys, rfl, hl, hy⟩
      (try simp only [mVar, mC, mOp, mUn, mNil, mCons, mTup, mLst, mCall, mCallX, mCallKX, mCB, mTest, mAnd, mOr, mNot, mYes, mAndV, mOrV, mNotV, mIf, mIsN, mNotN, mChain, mSeq, mNext, mBrk, mCnt, mRet, mRetN, mIfS, mDrop, mAsg, mOwn, mLstO, mListC, mLcO, oCatO, mShr, mApp, mPutI, mFrz, frz_w, mFor, mPar, mAug, mRaise, mTry, tryM, mKind, mLc, mList, mTupl, mListOwn, mRng1, mRng2, mEnum, mZip, mRev, mgName, mLenV, mIxV, mNoPart, mPart, mSl, wipeE, lcTurn, startE, oI_w, oB_w, oIC_w, oU_w, isB_w, oEq_w, oNe_w, exS_w, oIx_w, items_l, items_t, oLen_w, oAbs_w, oInt_i, oInt_b, oGcd_w, oMax_w, oMax3_w, oMin_w, oDivmod_w, oStr_w, oType_w, oIs1_w, oIs2_w, oIsTy_w, oCat_w, oIsN_w, oNotN_w, exD_w, exO_w, exD2_w, exO2_w, exL_w, exT_w, exI_w, ex1_w, ex1i_w, mSeqV_w, exX_w, seqOf_o, seqOf_d, mgCons_w, mgNil_w, mgTup_w, exPar_w, listC_w, putI_w, ixV_w, rng1_w, rng2_w, lcGo_n, lcGo_c, forGo_n, forGo_c, scEq_i, scEq_b, scEq_s, scEq_n, tyT, isNon, k_ii, k_ib, k_is, k_il, k_it, k_bi, k_bb, k_bs, k_bl, k_bt, k_ni, k_nb, k_ns, k_nl, k_nt, k_si, k_sb, k_ss, k_sl, k_st, k_li, k_lb, k_ls, k_ll, k_lt, k_ti, k_tb, k_ts, k_tl, k_tt, List.map_cons, List.map_nil, List.length_cons, List.length_nil, List.replicate, List.cons_append, List.nil_append, List.append_nil, List.getElem?_cons_zero, List.getElem?_cons_succ, List.set_cons_zero, List.set_cons_succ, Nat.sub_self, Nat.reduceAdd, Nat.reduceSub, List.replicate_zero, decide_eq_true_eq, Bool.true_eq_false, Bool.false_eq_true, if_true, if_false, reduceIte, Bool.not_eq_true', decide_eq_false_iff_not, Bool.not_true, Bool.not_false, exists_eq_left', true_and, and_true, Option.some.injEq, reduceCtorEq, decide_true, decide_false, not_true_eq_false, not_false_eq_true, Nat.reduceLT, Bool.or_false, Bool.or_true, Bool.false_or, Bool.true_or, Bool.and_true, Bool.true_and, Bool.and_false, Bool.false_and, true_implies, mFld, mFldS, mFldO, mProp, mMeth, mMethX, mInW, mCallXD, exOb_w, exOb2_w, exObD_w, exObD2_w, exObj_w, exObj0_w, exObjC_w, oIsNTy_w, mLcnt, eqD_ii, mJoin, oTupOf_w, oIsBl_w, cCalm])
      refine ⟨rfl, fun c hc => ⟨ys ++ [c], by rw [List.map_append]; rfl, by rw [List.length_append, hl]; rfl, fun y hm => ?_⟩⟩
      rcases List.mem_append.mp hm with h | h
      · exact hy y h
      · rw [List.mem_singleton.mp h]
        exact hc
    · rintro acc ⟨ys, rfl, hl, hy⟩
      rw [rngT_len] at hl
      refine ⟨ys, rfl, ?_, hk _⟩
      rw [sum_ones hy, hl, show (("" : Str)).length = 0 from rfl]
      omega
end
end Mt
namespace Mt
open PySem PySem.Spec PyProof.Rows L2 L2H
section
variable {P : Program} {w : World} {K : PySem.W.Frag} {mg : Str → Option Value} {base : Heap} {f : Addr} {fd : FuncData} {A : Ad} {tk : Nat → Tok} {aBurstRule : Addr}
theorem ok_plain_step (F : Fun K "_law_plain" "_law_plain" s_law_plain f fd) (Tx : Txt K mg A tk aBurstRule) (C_law_take : Cal P w K mg base "_law_take" 2 ["store", "many"] (SpU A 2 c_law_take)) (C_law_text : Cal P w K mg base "_law_text" 4 ["store", "most"] (SpU A 2 c_law_text)) (j n : Nat) (hj : 4 ≤ j) (C_law_plain : Cal P w K mg base "_law_plain" j ["store", "depth"] (SpU A 2 (fun ds k XA => ∃ m, n = m + 1 ∧ c_law_plain m ds k XA))) :
    FnOk P w K mg base CX0 (j + 1) f fd ["store", "depth"] (SpU A 2 (c_law_plain n)) := by
  refine F.ok sc_law_plain (fun vs H Q E h => h.len) (fun cdv Ar outer s H vs Q E hr h => ?_)
  obtain ⟨st, P0, ds, k, XA, h1, h2, h3, hc, h5, h6⟩ := h
  refine ⟨_, (pss_cons (ps_set (i := 2) sc_law_plain.nd rfl (.inl rfl) (p_call C_law_take hr (pa_cons (pv 0) (pa_cons pe_int pa_nil)) (by omega)))
      (pss_cons (ps_if (PW.pt (pw_and (pt_cmpR op_gt (pv 2) pe_int (nomark _)) (pw_and1 (pt_cmpR op_gt (pv 1) pe_int (nomark _))))) (pss_cons (ps_setLc (i := 3) (own := [("k", 4)]) (g := gName 4) rfl sc_law_plain.nd rfl rfl (sw_true rfl rfl rfl (by decide +kernel)) (pi_range1 (by rfl) Tx.m_range (pa_cons (p_call C_law_take hr (pa_cons (pv 0) (pa_cons pe_int pa_nil)) (by omega)) pa_nil)) (blkOk_by (N := ["store", "depth", "way", "parts", "k"]) (sc := defScope s_law_plain) (by decide +kernel)) (fun _ _ _ _ _ => pg_name (i := 4) sc_law_plain.nd rfl (.inl rfl)) (fun _ _ _ _ _ => pts_nil) (fun _ _ _ _ _ => (p_call C_law_plain hr (pa_cons (pv 0) (pa_cons (pe_op op_sub (pv 1) pe_int) pa_nil)) (by omega))))
      (pss_cons (ps_if (pt_cmpR op_gt (pv 2) pe_int (nomark _)) (pss_one (ps_ret (pe_callTy call_tupOf (by rfl) Tx.m_tuple (by decide +kernel) (pa_cons (pv 3) pa_nil)))) pss_nil)
      (pss_one (ps_ret (pv 3))))) pss_nil)
      (pss_cons (ps_if (pt_cmpR op_eq (pv 2) pe_int (nomark _)) (pss_one (ps_ret pe_non)) pss_nil)
      (pss_cons (ps_if (pt_cmpR op_eq (pv 2) pe_int (nomark _)) (pss_one (ps_ret (pe_cmpR op_eq (p_call C_law_take hr (pa_cons (pv 0) (pa_cons pe_int pa_nil)) (by omega)) pe_int (nomark _)))) pss_nil)
      (pss_cons (ps_if (pt_cmpR op_eq (pv 2) pe_int (nomark _)) (pss_one (ps_ret (p_call C_law_text hr (pa_cons (pv 0) (pa_cons pe_int pa_nil)) (by omega)))) pss_nil)
      (pss_cons (ps_if (pt_cmpR op_eq (pv 2) pe_int (nomark _)) (pss_one (ps_ret (pe_op op_sub (pe_un un_neg pe_int) (p_call C_law_take hr (pa_cons (pv 0) (pa_cons pe_int pa_nil)) (by omega))))) pss_nil)
      (pss_cons (ps_if (pt_cmpR op_eq (pv 2) pe_int (nomark _)) (pss_one (ps_ret (pe_op op_add (pe_op op_pow pe_int pe_int) (p_call C_law_take hr (pa_cons (pv 0) (pa_cons pe_int pa_nil)) (by omega))))) pss_nil)
      (pss_one (ps_ret (p_call C_law_take hr (pa_cons (pv 0) (pa_cons pe_int pa_nil)) (by omega))))))))))), ?_⟩
  refine run0 (A := A) (ms := ?ms) (XA := XA) h1 h2 h5 ?r ?u
  case r => exact (rs_seq (rs_asg (re_call (ra_cons re_var (ra_cons re_int ra_nil))) rg_name)
      (rs_seq (rs_if (rt_and (rt_test (re_op ro_bool re_var re_int)) (rt_test (re_op ro_bool re_var re_int))) (rs_seq (rs_asg (re_lc (vs := [4]) (is := [4]) (ric_of (ri_rng1 (ra_cons (re_call (ra_cons re_var (ra_cons re_int ra_nil))) ra_nil))) rg_name rt_yes (re_call (ra_cons re_var (ra_cons (re_op ro_int re_var re_int) ra_nil)))) rg_name)
      (rs_seq (rs_if (rt_test (re_op ro_bool re_var re_int)) (rs_ret (re_cb rcb_tupOf (ra_cons re_var ra_nil))) rs_next)
      (rs_ret re_var))) rs_next)
      (rs_seq (rs_if (rt_test (re_op ro_eq re_var re_int)) (rs_ret re_non) rs_next)
      (rs_seq (rs_if (rt_test (re_op ro_eq re_var re_int)) (rs_ret (re_op ro_eq (re_call (ra_cons re_var (ra_cons re_int ra_nil))) re_int)) rs_next)
      (rs_seq (rs_if (rt_test (re_op ro_eq re_var re_int)) (rs_ret (re_call (ra_cons re_var (ra_cons re_int ra_nil)))) rs_next)
      (rs_seq (rs_if (rt_test (re_op ro_eq re_var re_int)) (rs_ret (re_op ro_int (re_un ru_int re_int) (re_call (ra_cons re_var (ra_cons re_int ra_nil))))) rs_next)
      (rs_seq (rs_if (rt_test (re_op ro_eq re_var re_int)) (rs_ret (re_op ro_int (re_op ro_intC re_int re_int) (re_call (ra_cons re_var (ra_cons re_int ra_nil))))) rs_next)
      (rs_ret (re_call (ra_cons re_var (ra_cons re_int ra_nil)))))))))))
  case u =>
    clear h1 h2 h5 h6 hr
    obtain ⟨m, rfl, hm, hk⟩ := hc
    (try simp only [mVar, mC, mOp, mUn, mNil, mCons, mTup, mLst, mCall, mCallX, mCallKX, mCB, mTest, mAnd, mOr, mNot, mYes, mAndV, mOrV, mNotV, mIf, mIsN, mNotN, mChain, mSeq, mNext, mBrk, mCnt, mRet, mRetN, mIfS, mDrop, mAsg, mOwn, mLstO, mListC, mLcO, oCatO, mShr, mApp, mPutI, mFrz, frz_w, mFor, mPar, mAug, mRaise, mTry, tryM, mKind, mLc, mList, mTupl, mListOwn, mRng1, mRng2, mEnum, mZip, mRev, mgName, mLenV, mIxV, mNoPart, mPart, mSl, wipeE, lcTurn, startE, oI_w, oB_w, oIC_w, oU_w, isB_w, oEq_w, oNe_w, exS_w, oIx_w, items_l, items_t, oLen_w, oAbs_w, oInt_i, oInt_b, oGcd_w, oMax_w, oMax3_w, oMin_w, oDivmod_w, oStr_w, oType_w, oIs1_w, oIs2_w, oIsTy_w, oCat_w, oIsN_w, oNotN_w, exD_w, exO_w, exD2_w, exO2_w, exL_w, exT_w, exI_w, ex1_w, ex1i_w, mSeqV_w, exX_w, seqOf_o, seqOf_d, mgCons_w, mgNil_w, mgTup_w, exPar_w, listC_w, putI_w, ixV_w, rng1_w, rng2_w, lcGo_n, lcGo_c, forGo_n, forGo_c, scEq_i, scEq_b, scEq_s, scEq_n, tyT, isNon, k_ii, k_ib, k_is, k_il, k_it, k_bi, k_bb, k_bs, k_bl, k_bt, k_ni, k_nb, k_ns, k_nl, k_nt, k_si, k_sb, k_ss, k_sl, k_st, k_li, k_lb, k_ls, k_ll, k_lt, k_ti, k_tb, k_ts, k_tl, k_tt, List.map_cons, List.map_nil, List.length_cons, List.length_nil, List.replicate, List.cons_append, List.nil_append, List.append_nil, List.getElem?_cons_zero, List.getElem?_cons_succ, List.set_cons_zero, List.set_cons_succ, Nat.sub_self, Nat.reduceAdd, Nat.reduceSub, List.replicate_zero, decide_eq_true_eq, Bool.true_eq_false, Bool.false_eq_true, if_true, if_false, reduceIte, Bool.not_eq_true', decide_eq_false_iff_not, Bool.not_true, Bool.not_false, exists_eq_left', true_and, and_true, Option.some.injEq, reduceCtorEq, decide_true, decide_false, not_true_eq_false, not_false_eq_true, Nat.reduceLT, Bool.or_false, Bool.or_true, Bool.false_or, Bool.true_or, Bool.and_true, Bool.true_and, Bool.and_false, Bool.false_and, true_implies, mFld, mFldS, mFldO, mProp, mMeth, mMethX, mInW, mCallXD, exOb_w, exOb2_w, exObD_w, exObD2_w, exObj_w, exObj0_w, exObjC_w, oIsNTy_w, mLcnt, eqD_ii, mJoin, oTupOf_w, oIsBl_w, cCalm])
    refine ⟨12, rfl, by decide, fun way w0 w1 => ?_⟩
    (try simp only [mVar, mC, mOp, mUn, mNil, mCons, mTup, mLst, mCall, mCallX, mCallKX, mCB, mTest, mAnd, mOr, mNot, mYes, mAndV, mOrV, mNotV, mIf, mIsN, mNotN, mChain, mSeq, mNext, mBrk, mCnt, mRet, mRetN, mIfS, mDrop, mAsg, mOwn, mLstO, mListC, mLcO, oCatO, mShr, mApp, mPutI, mFrz, frz_w, mFor, mPar, mAug, mRaise, mTry, tryM, mKind, mLc, mList, mTupl, mListOwn, mRng1, mRng2, mEnum, mZip, mRev, mgName, mLenV, mIxV, mNoPart, mPart, mSl, wipeE, lcTurn, startE, oI_w, oB_w, oIC_w, oU_w, isB_w, oEq_w, oNe_w, exS_w, oIx_w, items_l, items_t, oLen_w, oAbs_w, oInt_i, oInt_b, oGcd_w, oMax_w, oMax3_w, oMin_w, oDivmod_w, oStr_w, oType_w, oIs1_w, oIs2_w, oIsTy_w, oCat_w, oIsN_w, oNotN_w, exD_w, exO_w, exD2_w, exO2_w, exL_w, exT_w, exI_w, ex1_w, ex1i_w, mSeqV_w, exX_w, seqOf_o, seqOf_d, mgCons_w, mgNil_w, mgTup_w, exPar_w, listC_w, putI_w, ixV_w, rng1_w, rng2_w, lcGo_n, lcGo_c, forGo_n, forGo_c, scEq_i, scEq_b, scEq_s, scEq_n, tyT, isNon, k_ii, k_ib, k_is, k_il, k_it, k_bi, k_bb, k_bs, k_bl, k_bt, k_ni, k_nb, k_ns, k_nl, k_nt, k_si, k_sb, k_ss, k_sl, k_st, k_li, k_lb, k_ls, k_ll, k_lt, k_ti, k_tb, k_ts, k_tl, k_tt, List.map_cons, List.map_nil, List.length_cons, List.length_nil, List.replicate, List.cons_append, List.nil_append, List.append_nil, List.getElem?_cons_zero, List.getElem?_cons_succ, List.set_cons_zero, List.set_cons_succ, Nat.sub_self, Nat.reduceAdd, Nat.reduceSub, List.replicate_zero, decide_eq_true_eq, Bool.true_eq_false, Bool.false_eq_true, if_true, if_false, reduceIte, Bool.not_eq_true', decide_eq_false_iff_not, Bool.not_true, Bool.not_false, exists_eq_left', true_and, and_true, Option.some.injEq, reduceCtorEq, decide_true, decide_false, not_true_eq_false, not_false_eq_true, Nat.reduceLT, Bool.or_false, Bool.or_true, Bool.false_or, Bool.true_or, Bool.and_true, Bool.true_and, Bool.and_false, Bool.false_and, true_implies, mFld, mFldS, mFldO, mProp, mMeth, mMethX, mInW, mCallXD, exOb_w, exOb2_w, exObD_w, exObD2_w, exObj_w, exObj0_w, exObjC_w, oIsNTy_w, mLcnt, eqD_ii, mJoin, oTupOf_w, oIsBl_w, cCalm])
    refine ite2 (fun z => ite2 (fun y => ⟨4, rfl, by decide, fun r r0 r1 => ?_⟩) (fun y => ?_)) (fun z => ?_)
    · obtain ⟨n', rfl⟩ : ∃ n', n = n' + 1 := ⟨n - 1, by omega⟩
      (try simp only [mVar, mC, mOp, mUn, mNil, mCons, mTup, mLst, mCall, mCallX, mCallKX, mCB, mTest, mAnd, mOr, mNot, mYes, mAndV, mOrV, mNotV, mIf, mIsN, mNotN, mChain, mSeq, mNext, mBrk, mCnt, mRet, mRetN, mIfS, mDrop, mAsg, mOwn, mLstO, mListC, mLcO, oCatO, mShr, mApp, mPutI, mFrz, frz_w, mFor, mPar, mAug, mRaise, mTry, tryM, mKind, mLc, mList, mTupl, mListOwn, mRng1, mRng2, mEnum, mZip, mRev, mgName, mLenV, mIxV, mNoPart, mPart, mSl, wipeE, lcTurn, startE, oI_w, oB_w, oIC_w, oU_w, isB_w, oEq_w, oNe_w, exS_w, oIx_w, items_l, items_t, oLen_w, oAbs_w, oInt_i, oInt_b, oGcd_w, oMax_w, oMax3_w, oMin_w, oDivmod_w, oStr_w, oType_w, oIs1_w, oIs2_w, oIsTy_w, oCat_w, oIsN_w, oNotN_w, exD_w, exO_w, exD2_w, exO2_w, exL_w, exT_w, exI_w, ex1_w, ex1i_w, mSeqV_w, exX_w, seqOf_o, seqOf_d, mgCons_w, mgNil_w, mgTup_w, exPar_w, listC_w, putI_w, ixV_w, rng1_w, rng2_w, lcGo_n, lcGo_c, forGo_n, forGo_c, scEq_i, scEq_b, scEq_s, scEq_n, tyT, isNon, k_ii, k_ib, k_is, k_il, k_it, k_bi, k_bb, k_bs, k_bl, k_bt, k_ni, k_nb, k_ns, k_nl, k_nt, k_si, k_sb, k_ss, k_sl, k_st, k_li, k_lb, k_ls, k_ll, k_lt, k_ti, k_tb, k_ts, k_tl, k_tt, List.map_cons, List.map_nil, List.length_cons, List.length_nil, List.replicate, List.cons_append, List.nil_append, List.append_nil, List.getElem?_cons_zero, List.getElem?_cons_succ, List.set_cons_zero, List.set_cons_succ, Nat.sub_self, Nat.reduceAdd, Nat.reduceSub, List.replicate_zero, decide_eq_true_eq, Bool.true_eq_false, Bool.false_eq_true, if_true, if_false, reduceIte, Bool.not_eq_true', decide_eq_false_iff_not, Bool.not_true, Bool.not_false, exists_eq_left', true_and, and_true, Option.some.injEq, reduceCtorEq, decide_true, decide_false, not_true_eq_false, not_false_eq_true, Nat.reduceLT, Bool.or_false, Bool.or_true, Bool.false_or, Bool.true_or, Bool.and_true, Bool.true_and, Bool.and_false, Bool.false_and, true_implies, mFld, mFldS, mFldO, mProp, mMeth, mMethX, mInW, mCallXD, exOb_w, exOb2_w, exObD_w, exObD2_w, exObj_w, exObj0_w, exObjC_w, oIsNTy_w, mLcnt, eqD_ii, mJoin, oTupOf_w, oIsBl_w, cCalm])
      refine ⟨by omega, by omega, fun i acc => okTs n' acc = true, by simp [okTs], ?_, ?_⟩
      · intro i x acc hx ha
        (try simp only [mVar, mC, mOp, mUn, mNil, mCons, mTup, mLst, mCall, mCallX, mCallKX, mCB, mTest, mAnd, mOr, mNot, mYes, mAndV, mOrV, mNotV, mIf, mIsN, mNotN, mChain, mSeq, mNext, mBrk, mCnt, mRet, mRetN, mIfS, mDrop, mAsg, mOwn, mLstO, mListC, mLcO, oCatO, mShr, mApp, mPutI, mFrz, frz_w, mFor, mPar, mAug, mRaise, mTry, tryM, mKind, mLc, mList, mTupl, mListOwn, mRng1, mRng2, mEnum, mZip, mRev, mgName, mLenV, mIxV, mNoPart, mPart, mSl, wipeE, lcTurn, startE, oI_w, oB_w, oIC_w, oU_w, isB_w, oEq_w, oNe_w, exS_w, oIx_w, items_l, items_t, oLen_w, oAbs_w, oInt_i, oInt_b, oGcd_w, oMax_w, oMax3_w, oMin_w, oDivmod_w, oStr_w, oType_w, oIs1_w, oIs2_w, oIsTy_w, oCat_w, oIsN_w, oNotN_w, exD_w, exO_w, exD2_w, exO2_w, exL_w, exT_w, exI_w, ex1_w, ex1i_w, mSeqV_w, exX_w, seqOf_o, seqOf_d, mgCons_w, mgNil_w, mgTup_w, exPar_w, listC_w, putI_w, ixV_w, rng1_w, rng2_w, lcGo_n, lcGo_c, forGo_n, forGo_c, scEq_i, scEq_b, scEq_s, scEq_n, tyT, isNon, k_ii, k_ib, k_is, k_il, k_it, k_bi, k_bb, k_bs, k_bl, k_bt, k_ni, k_nb, k_ns, k_nl, k_nt, k_si, k_sb, k_ss, k_sl, k_st, k_li, k_lb, k_ls, k_ll, k_lt, k_ti, k_tb, k_ts, k_tl, k_tt, List.map_cons, List.map_nil, List.length_cons, List.length_nil, List.replicate, List.cons_append, List.nil_append, List.append_nil, List.getElem?_cons_zero, List.getElem?_cons_succ, List.set_cons_zero, List.set_cons_succ, Nat.sub_self, Nat.reduceAdd, Nat.reduceSub, List.replicate_zero, decide_eq_true_eq, Bool.true_eq_false, Bool.false_eq_true, if_true, if_false, reduceIte, Bool.not_eq_true', decide_eq_false_iff_not, Bool.not_true, Bool.not_false, exists_eq_left', true_and, and_true, Option.some.injEq, reduceCtorEq, decide_true, decide_false, not_true_eq_false, not_false_eq_true, Nat.reduceLT, Bool.or_false, Bool.or_true, Bool.false_or, Bool.true_or, Bool.and_true, Bool.true_and, Bool.and_false, Bool.false_and, true_implies, mFld, mFldS, mFldO, mProp, mMeth, mMethX, mInW, mCallXD, exOb_w, exOb2_w, exObD_w, exObD2_w, exObj_w, exObj0_w, exObjC_w, oIsNTy_w, mLcnt, eqD_ii, mJoin, oTupOf_w, oIsBl_w, cCalm])
        refine ⟨n', rfl, m - 1, ?_, by omega, fun v hv => okTs_snoc ha hv⟩
        rw [show ((m - 1 : Nat) : Int) = (m : Int) - 1 by omega]
      · intro acc ha
        (try simp only [mVar, mC, mOp, mUn, mNil, mCons, mTup, mLst, mCall, mCallX, mCallKX, mCB, mTest, mAnd, mOr, mNot, mYes, mAndV, mOrV, mNotV, mIf, mIsN, mNotN, mChain, mSeq, mNext, mBrk, mCnt, mRet, mRetN, mIfS, mDrop, mAsg, mOwn, mLstO, mListC, mLcO, oCatO, mShr, mApp, mPutI, mFrz, frz_w, mFor, mPar, mAug, mRaise, mTry, tryM, mKind, mLc, mList, mTupl, mListOwn, mRng1, mRng2, mEnum, mZip, mRev, mgName, mLenV, mIxV, mNoPart, mPart, mSl, wipeE, lcTurn, startE, oI_w, oB_w, oIC_w, oU_w, isB_w, oEq_w, oNe_w, exS_w, oIx_w, items_l, items_t, oLen_w, oAbs_w, oInt_i, oInt_b, oGcd_w, oMax_w, oMax3_w, oMin_w, oDivmod_w, oStr_w, oType_w, oIs1_w, oIs2_w, oIsTy_w, oCat_w, oIsN_w, oNotN_w, exD_w, exO_w, exD2_w, exO2_w, exL_w, exT_w, exI_w, ex1_w, ex1i_w, mSeqV_w, exX_w, seqOf_o, seqOf_d, mgCons_w, mgNil_w, mgTup_w, exPar_w, listC_w, putI_w, ixV_w, rng1_w, rng2_w, lcGo_n, lcGo_c, forGo_n, forGo_c, scEq_i, scEq_b, scEq_s, scEq_n, tyT, isNon, k_ii, k_ib, k_is, k_il, k_it, k_bi, k_bb, k_bs, k_bl, k_bt, k_ni, k_nb, k_ns, k_nl, k_nt, k_si, k_sb, k_ss, k_sl, k_st, k_li, k_lb, k_ls, k_ll, k_lt, k_ti, k_tb, k_ts, k_tl, k_tt, List.map_cons, List.map_nil, List.length_cons, List.length_nil, List.replicate, List.cons_append, List.nil_append, List.append_nil, List.getElem?_cons_zero, List.getElem?_cons_succ, List.set_cons_zero, List.set_cons_succ, Nat.sub_self, Nat.reduceAdd, Nat.reduceSub, List.replicate_zero, decide_eq_true_eq, Bool.true_eq_false, Bool.false_eq_true, if_true, if_false, reduceIte, Bool.not_eq_true', decide_eq_false_iff_not, Bool.not_true, Bool.not_false, exists_eq_left', true_and, and_true, Option.some.injEq, reduceCtorEq, decide_true, decide_false, not_true_eq_false, not_false_eq_true, Nat.reduceLT, Bool.or_false, Bool.or_true, Bool.false_or, Bool.true_or, Bool.and_true, Bool.true_and, Bool.and_false, Bool.false_and, true_implies, mFld, mFldS, mFldO, mProp, mMeth, mMethX, mInW, mCallXD, exOb_w, exOb2_w, exObD_w, exObD2_w, exObj_w, exObj0_w, exObjC_w, oIsNTy_w, mLcnt, eqD_ii, mJoin, oTupOf_w, oIsBl_w, cCalm])
        exact ite2 (fun _ => hk _ (by simp only [okT]; exact ha)) (fun _ => hk _ (by simp only [okT]; exact ha))
    all_goals
      refine ite2 (fun _ => hk _ (by simp [okT])) (fun _ => ite2 (fun _ => ⟨2, rfl, by decide, fun r r0 r1 => ?_⟩) (fun _ => ite2 (fun _ => ⟨4, rfl, by decide, by decide, fun x => hk _ (by simp [okT])⟩) (fun _ => ite2 (fun _ => ⟨3, rfl, by decide, fun r r0 r1 => ?_⟩) (fun _ => ite2 (fun _ => ⟨?_, 9, rfl, by decide, fun r r0 r1 => ?_⟩) (fun _ => ⟨5, rfl, by decide, fun r r0 r1 => hk _ (by simp [okT])⟩)))))
      · (try simp only [mVar, mC, mOp, mUn, mNil, mCons, mTup, mLst, mCall, mCallX, mCallKX, mCB, mTest, mAnd, mOr, mNot, mYes, mAndV, mOrV, mNotV, mIf, mIsN, mNotN, mChain, mSeq, mNext, mBrk, mCnt, mRet, mRetN, mIfS, mDrop, mAsg, mOwn, mLstO, mListC, mLcO, oCatO, mShr, mApp, mPutI, mFrz, frz_w, mFor, mPar, mAug, mRaise, mTry, tryM, mKind, mLc, mList, mTupl, mListOwn, mRng1, mRng2, mEnum, mZip, mRev, mgName, mLenV, mIxV, mNoPart, mPart, mSl, wipeE, lcTurn, startE, oI_w, oB_w, oIC_w, oU_w, isB_w, oEq_w, oNe_w, exS_w, oIx_w, items_l, items_t, oLen_w, oAbs_w, oInt_i, oInt_b, oGcd_w, oMax_w, oMax3_w, oMin_w, oDivmod_w, oStr_w, oType_w, oIs1_w, oIs2_w, oIsTy_w, oCat_w, oIsN_w, oNotN_w, exD_w, exO_w, exD2_w, exO2_w, exL_w, exT_w, exI_w, ex1_w, ex1i_w, mSeqV_w, exX_w, seqOf_o, seqOf_d, mgCons_w, mgNil_w, mgTup_w, exPar_w, listC_w, putI_w, ixV_w, rng1_w, rng2_w, lcGo_n, lcGo_c, forGo_n, forGo_c, scEq_i, scEq_b, scEq_s, scEq_n, tyT, isNon, k_ii, k_ib, k_is, k_il, k_it, k_bi, k_bb, k_bs, k_bl, k_bt, k_ni, k_nb, k_ns, k_nl, k_nt, k_si, k_sb, k_ss, k_sl, k_st, k_li, k_lb, k_ls, k_ll, k_lt, k_ti, k_tb, k_ts, k_tl, k_tt, List.map_cons, List.map_nil, List.length_cons, List.length_nil, List.replicate, List.cons_append, List.nil_append, List.append_nil, List.getElem?_cons_zero, List.getElem?_cons_succ, List.set_cons_zero, List.set_cons_succ, Nat.sub_self, Nat.reduceAdd, Nat.reduceSub, List.replicate_zero, decide_eq_true_eq, Bool.true_eq_false, Bool.false_eq_true, if_true, if_false, reduceIte, Bool.not_eq_true', decide_eq_false_iff_not, Bool.not_true, Bool.not_false, exists_eq_left', true_and, and_true, Option.some.injEq, reduceCtorEq, decide_true, decide_false, not_true_eq_false, not_false_eq_true, Nat.reduceLT, Bool.or_false, Bool.or_true, Bool.false_or, Bool.true_or, Bool.and_true, Bool.true_and, Bool.and_false, Bool.false_and, true_implies, mFld, mFldS, mFldO, mProp, mMeth, mMethX, mInW, mCallXD, exOb_w, exOb2_w, exObD_w, exObD2_w, exObj_w, exObj0_w, exObjC_w, oIsNTy_w, mLcnt, eqD_ii, mJoin, oTupOf_w, oIsBl_w, cCalm])
        exact hk _ (by simp [okT])
      · (try simp only [mVar, mC, mOp, mUn, mNil, mCons, mTup, mLst, mCall, mCallX, mCallKX, mCB, mTest, mAnd, mOr, mNot, mYes, mAndV, mOrV, mNotV, mIf, mIsN, mNotN, mChain, mSeq, mNext, mBrk, mCnt, mRet, mRetN, mIfS, mDrop, mAsg, mOwn, mLstO, mListC, mLcO, oCatO, mShr, mApp, mPutI, mFrz, frz_w, mFor, mPar, mAug, mRaise, mTry, tryM, mKind, mLc, mList, mTupl, mListOwn, mRng1, mRng2, mEnum, mZip, mRev, mgName, mLenV, mIxV, mNoPart, mPart, mSl, wipeE, lcTurn, startE, oI_w, oB_w, oIC_w, oU_w, isB_w, oEq_w, oNe_w, exS_w, oIx_w, items_l, items_t, oLen_w, oAbs_w, oInt_i, oInt_b, oGcd_w, oMax_w, oMax3_w, oMin_w, oDivmod_w, oStr_w, oType_w, oIs1_w, oIs2_w, oIsTy_w, oCat_w, oIsN_w, oNotN_w, exD_w, exO_w, exD2_w, exO2_w, exL_w, exT_w, exI_w, ex1_w, ex1i_w, mSeqV_w, exX_w, seqOf_o, seqOf_d, mgCons_w, mgNil_w, mgTup_w, exPar_w, listC_w, putI_w, ixV_w, rng1_w, rng2_w, lcGo_n, lcGo_c, forGo_n, forGo_c, scEq_i, scEq_b, scEq_s, scEq_n, tyT, isNon, k_ii, k_ib, k_is, k_il, k_it, k_bi, k_bb, k_bs, k_bl, k_bt, k_ni, k_nb, k_ns, k_nl, k_nt, k_si, k_sb, k_ss, k_sl, k_st, k_li, k_lb, k_ls, k_ll, k_lt, k_ti, k_tb, k_ts, k_tl, k_tt, List.map_cons, List.map_nil, List.length_cons, List.length_nil, List.replicate, List.cons_append, List.nil_append, List.append_nil, List.getElem?_cons_zero, List.getElem?_cons_succ, List.set_cons_zero, List.set_cons_succ, Nat.sub_self, Nat.reduceAdd, Nat.reduceSub, List.replicate_zero, decide_eq_true_eq, Bool.true_eq_false, Bool.false_eq_true, if_true, if_false, reduceIte, Bool.not_eq_true', decide_eq_false_iff_not, Bool.not_true, Bool.not_false, exists_eq_left', true_and, and_true, Option.some.injEq, reduceCtorEq, decide_true, decide_false, not_true_eq_false, not_false_eq_true, Nat.reduceLT, Bool.or_false, Bool.or_true, Bool.false_or, Bool.true_or, Bool.and_true, Bool.true_and, Bool.and_false, Bool.false_and, true_implies, mFld, mFldS, mFldO, mProp, mMeth, mMethX, mInW, mCallXD, exOb_w, exOb2_w, exObD_w, exObD2_w, exObj_w, exObj0_w, exObjC_w, oIsNTy_w, mLcnt, eqD_ii, mJoin, oTupOf_w, oIsBl_w, cCalm])
        exact hk _ (by simp [okT])
      · exact ⟨by decide, by decide, by decide⟩
      · (try simp only [mVar, mC, mOp, mUn, mNil, mCons, mTup, mLst, mCall, mCallX, mCallKX, mCB, mTest, mAnd, mOr, mNot, mYes, mAndV, mOrV, mNotV, mIf, mIsN, mNotN, mChain, mSeq, mNext, mBrk, mCnt, mRet, mRetN, mIfS, mDrop, mAsg, mOwn, mLstO, mListC, mLcO, oCatO, mShr, mApp, mPutI, mFrz, frz_w, mFor, mPar, mAug, mRaise, mTry, tryM, mKind, mLc, mList, mTupl, mListOwn, mRng1, mRng2, mEnum, mZip, mRev, mgName, mLenV, mIxV, mNoPart, mPart, mSl, wipeE, lcTurn, startE, oI_w, oB_w, oIC_w, oU_w, isB_w, oEq_w, oNe_w, exS_w, oIx_w, items_l, items_t, oLen_w, oAbs_w, oInt_i, oInt_b, oGcd_w, oMax_w, oMax3_w, oMin_w, oDivmod_w, oStr_w, oType_w, oIs1_w, oIs2_w, oIsTy_w, oCat_w, oIsN_w, oNotN_w, exD_w, exO_w, exD2_w, exO2_w, exL_w, exT_w, exI_w, ex1_w, ex1i_w, mSeqV_w, exX_w, seqOf_o, seqOf_d, mgCons_w, mgNil_w, mgTup_w, exPar_w, listC_w, putI_w, ixV_w, rng1_w, rng2_w, lcGo_n, lcGo_c, forGo_n, forGo_c, scEq_i, scEq_b, scEq_s, scEq_n, tyT, isNon, k_ii, k_ib, k_is, k_il, k_it, k_bi, k_bb, k_bs, k_bl, k_bt, k_ni, k_nb, k_ns, k_nl, k_nt, k_si, k_sb, k_ss, k_sl, k_st, k_li, k_lb, k_ls, k_ll, k_lt, k_ti, k_tb, k_ts, k_tl, k_tt, List.map_cons, List.map_nil, List.length_cons, List.length_nil, List.replicate, List.cons_append, List.nil_append, List.append_nil, List.getElem?_cons_zero, List.getElem?_cons_succ, List.set_cons_zero, List.set_cons_succ, Nat.sub_self, Nat.reduceAdd, Nat.reduceSub, List.replicate_zero, decide_eq_true_eq, Bool.true_eq_false, Bool.false_eq_true, if_true, if_false, reduceIte, Bool.not_eq_true', decide_eq_false_iff_not, Bool.not_true, Bool.not_false, exists_eq_left', true_and, and_true, Option.some.injEq, reduceCtorEq, decide_true, decide_false, not_true_eq_false, not_false_eq_true, Nat.reduceLT, Bool.or_false, Bool.or_true, Bool.false_or, Bool.true_or, Bool.and_true, Bool.true_and, Bool.and_false, Bool.false_and, true_implies, mFld, mFldS, mFldO, mProp, mMeth, mMethX, mInW, mCallXD, exOb_w, exOb2_w, exObD_w, exObD2_w, exObj_w, exObj0_w, exObjC_w, oIsNTy_w, mLcnt, eqD_ii, mJoin, oTupOf_w, oIsBl_w, cCalm])
        exact hk _ (by simp [okT])
theorem ok_plain (F : Fun K "_law_plain" "_law_plain" s_law_plain f fd) (Tx : Txt K mg A tk aBurstRule) (C_law_take : Cal P w K mg base "_law_take" 2 ["store", "many"] (SpU A 2 c_law_take)) (C_law_text : Cal P w K mg base "_law_text" 4 ["store", "most"] (SpU A 2 c_law_text)) (gm : mg "_law_plain" = some (.ref f)) (b : Binds K fd ["store", "depth"] []) : ∀ n : Nat, FnOk P w K mg base CX0 (n + 6) f fd ["store", "depth"] (SpU A 2 (c_law_plain n))
  | 0 => ok_plain_step F Tx C_law_take C_law_text 5 0 (by decide) ⟨f, fd, ⟨fun vs H Q E h => by
      obtain ⟨_, _, _, _, _, _, _, _, ⟨m, h, _⟩, _⟩ := h
      exact (nomatch h), fun A outer s H args us vs Q E _ _ _ _ h => by
      obtain ⟨_, _, _, _, _, _, _, _, ⟨m, h, _⟩, _⟩ := h
      exact (nomatch h)⟩, gm, F.kp, b⟩
  | n + 1 => ok_plain_step F Tx C_law_take C_law_text (n + 6) (n + 1) (by omega) ⟨f, fd, (ok_plain F Tx C_law_take C_law_text gm b n).imp fun vs H Q E h => by
      obtain ⟨s, P, ds, k, XA, h1, h2, h3, ⟨j, hj, hk⟩, h5⟩ := h
      cases hj
      exact ⟨s, P, ds, k, XA, h1, h2, h3, hk, h5⟩, gm, F.kp, b⟩
end
end Mt
namespace Mt
open PySem PySem.Spec PyProof.Rows L2 L2H
section
variable {P : Program} {w : World} {K : PySem.W.Frag} {mg : Str → Option Value} {base : Heap} {f : Addr} {fd : FuncData} {A : Ad} {tk : Nat → Tok} {aBurstRule : Addr}
theorem ok_law_round (F : Fun K "_law_round" "_law_round" s_law_round f fd) (Tx : Txt K mg A tk aBurstRule)  :
    FnOk P w K mg base CX0 1 f fd ["lost", "heard", "beats"] (SpU A 3 c_law_round) := by
  refine F.ok sc_law_round (fun vs H Q E h => h.len) (fun cdv Ar outer s H vs Q E hr h => ?_)
  obtain ⟨st, P0, ds, k, XA, h1, h2, h3, hc, h5, h6⟩ := h
  refine ⟨_, (pss_one (ps_ret (pe_lc (own := [("k", 3)]) (g := gName 3) rfl sc_law_round.nd (pi_range1 (by rfl) Tx.m_range (pa_cons (pv 2) pa_nil)) (blkOk_by (N := ["lost", "heard", "beats", "k"]) (sc := defScope s_law_round) (by decide +kernel)) (fun _ _ _ _ _ => pg_name (i := 3) sc_law_round.nd rfl (.inl rfl)) (fun _ _ _ _ _ => pts_nil) (fun _ _ _ _ _ => (pe_callTy call_intH (by rfl) Tx.m_int (by decide +kernel) (pa_cons (pe_cmpR op_lt (pe_op op_modN (pe_callTy call_intH (by rfl) Tx.m_int (by decide +kernel) (pa_cons (pv 3) pa_nil)) (pe_op op_add (pv 0) (pv 1))) (pv 0) (nomark _)) pa_nil)))))), ?_⟩
  refine run0 (A := A) (ms := ?ms) (XA := XA) h1 h2 h5 ?r ?u
  case r => exact (rs_ret (re_lc (vs := [3]) (is := [3]) (ric_of (ri_rng1 (ra_cons re_var ra_nil))) rg_name rt_yes (re_cb rcb_int (ra_cons (re_op ro_bool (re_op ro_intC (re_cb rcb_int (ra_cons re_var ra_nil)) (re_op ro_int re_var re_var)) re_var) ra_nil))))
  case u =>
    clear h1 h2 h5 h6 hr
    obtain ⟨l, h, n, rfl, l0, l1, h0, h1, h2, n0, hk⟩ := hc
    (try simp only [mVar, mC, mOp, mUn, mNil, mCons, mTup, mLst, mCall, mCallX, mCallKX, mCB, mTest, mAnd, mOr, mNot, mYes, mAndV, mOrV, mNotV, mIf, mIsN, mNotN, mChain, mSeq, mNext, mBrk, mCnt, mRet, mRetN, mIfS, mDrop, mAsg, mOwn, mLstO, mListC, mLcO, oCatO, mShr, mApp, mPutI, mFrz, frz_w, mFor, mPar, mAug, mRaise, mTry, tryM, mKind, mLc, mList, mTupl, mListOwn, mRng1, mRng2, mEnum, mZip, mRev, mgName, mLenV, mIxV, mNoPart, mPart, mSl, wipeE, lcTurn, startE, oI_w, oB_w, oIC_w, oU_w, isB_w, oEq_w, oNe_w, exS_w, oIx_w, items_l, items_t, oLen_w, oAbs_w, oInt_i, oInt_b, oGcd_w, oMax_w, oMax3_w, oMin_w, oDivmod_w, oStr_w, oType_w, oIs1_w, oIs2_w, oIsTy_w, oCat_w, oIsN_w, oNotN_w, exD_w, exO_w, exD2_w, exO2_w, exL_w, exT_w, exI_w, ex1_w, ex1i_w, mSeqV_w, exX_w, seqOf_o, seqOf_d, mgCons_w, mgNil_w, mgTup_w, exPar_w, listC_w, putI_w, ixV_w, rng1_w, rng2_w, lcGo_n, lcGo_c, forGo_n, forGo_c, scEq_i, scEq_b, scEq_s, scEq_n, tyT, isNon, k_ii, k_ib, k_is, k_il, k_it, k_bi, k_bb, k_bs, k_bl, k_bt, k_ni, k_nb, k_ns, k_nl, k_nt, k_si, k_sb, k_ss, k_sl, k_st, k_li, k_lb, k_ls, k_ll, k_lt, k_ti, k_tb, k_ts, k_tl, k_tt, List.map_cons, List.map_nil, List.length_cons, List.length_nil, List.replicate, List.cons_append, List.nil_append, List.append_nil, List.getElem?_cons_zero, List.getElem?_cons_succ, List.set_cons_zero, List.set_cons_succ, Nat.sub_self, Nat.reduceAdd, Nat.reduceSub, List.replicate_zero, decide_eq_true_eq, Bool.true_eq_false, Bool.false_eq_true, if_true, if_false, reduceIte, Bool.not_eq_true', decide_eq_false_iff_not, Bool.not_true, Bool.not_false, exists_eq_left', true_and, and_true, Option.some.injEq, reduceCtorEq, decide_true, decide_false, not_true_eq_false, not_false_eq_true, Nat.reduceLT, Bool.or_false, Bool.or_true, Bool.false_or, Bool.true_or, Bool.and_true, Bool.true_and, Bool.and_false, Bool.false_and, true_implies, mFld, mFldS, mFldO, mProp, mMeth, mMethX, mInW, mCallXD, exOb_w, exOb2_w, exObD_w, exObD2_w, exObj_w, exObj0_w, exObjC_w, oIsNTy_w, mLcnt, eqD_ii, mJoin, oTupOf_w, oIsBl_w, cCalm])
    refine ⟨by omega, by omega, lc_map (fun i => flagT (decide (((i : Nat) : Int).fmod (l + h) < l))) (fun i x r hx hr => ?_) ?_⟩
    · obtain ⟨hi, rfl⟩ := rng_at hx
      (try simp only [mVar, mC, mOp, mUn, mNil, mCons, mTup, mLst, mCall, mCallX, mCallKX, mCB, mTest, mAnd, mOr, mNot, mYes, mAndV, mOrV, mNotV, mIf, mIsN, mNotN, mChain, mSeq, mNext, mBrk, mCnt, mRet, mRetN, mIfS, mDrop, mAsg, mOwn, mLstO, mListC, mLcO, oCatO, mShr, mApp, mPutI, mFrz, frz_w, mFor, mPar, mAug, mRaise, mTry, tryM, mKind, mLc, mList, mTupl, mListOwn, mRng1, mRng2, mEnum, mZip, mRev, mgName, mLenV, mIxV, mNoPart, mPart, mSl, wipeE, lcTurn, startE, oI_w, oB_w, oIC_w, oU_w, isB_w, oEq_w, oNe_w, exS_w, oIx_w, items_l, items_t, oLen_w, oAbs_w, oInt_i, oInt_b, oGcd_w, oMax_w, oMax3_w, oMin_w, oDivmod_w, oStr_w, oType_w, oIs1_w, oIs2_w, oIsTy_w, oCat_w, oIsN_w, oNotN_w, exD_w, exO_w, exD2_w, exO2_w, exL_w, exT_w, exI_w, ex1_w, ex1i_w, mSeqV_w, exX_w, seqOf_o, seqOf_d, mgCons_w, mgNil_w, mgTup_w, exPar_w, listC_w, putI_w, ixV_w, rng1_w, rng2_w, lcGo_n, lcGo_c, forGo_n, forGo_c, scEq_i, scEq_b, scEq_s, scEq_n, tyT, isNon, k_ii, k_ib, k_is, k_il, k_it, k_bi, k_bb, k_bs, k_bl, k_bt, k_ni, k_nb, k_ns, k_nl, k_nt, k_si, k_sb, k_ss, k_sl, k_st, k_li, k_lb, k_ls, k_ll, k_lt, k_ti, k_tb, k_ts, k_tl, k_tt, List.map_cons, List.map_nil, List.length_cons, List.length_nil, List.replicate, List.cons_append, List.nil_append, List.append_nil, List.getElem?_cons_zero, List.getElem?_cons_succ, List.set_cons_zero, List.set_cons_succ, Nat.sub_self, Nat.reduceAdd, Nat.reduceSub, List.replicate_zero, decide_eq_true_eq, Bool.true_eq_false, Bool.false_eq_true, if_true, if_false, reduceIte, Bool.not_eq_true', decide_eq_false_iff_not, Bool.not_true, Bool.not_false, exists_eq_left', true_and, and_true, Option.some.injEq, reduceCtorEq, decide_true, decide_false, not_true_eq_false, not_false_eq_true, Nat.reduceLT, Bool.or_false, Bool.or_true, Bool.false_or, Bool.true_or, Bool.and_true, Bool.true_and, Bool.and_false, Bool.false_and, true_implies, mFld, mFldS, mFldO, mProp, mMeth, mMethX, mInW, mCallXD, exOb_w, exOb2_w, exObD_w, exObD2_w, exObj_w, exObj0_w, exObjC_w, oIsNTy_w, mLcnt, eqD_ii, mJoin, oTupOf_w, oIsBl_w, cCalm])
      simp only [flagT, decide_eq_true_eq] at hr
      rw [Int.zero_add]
      exact ⟨by omega, hr⟩
    · rw [rngT_len, Int.toNat_natCast]
      exact hk
end
end Mt
namespace Mt
open PySem PySem.Spec PyProof.Rows L2 L2H
section
variable {P : Program} {w : World} {K : PySem.W.Frag} {mg : Str → Option Value} {base : Heap} {f : Addr} {fd : FuncData} {A : Ad} {tk : Nat → Tok} {aBurstRule : Addr}
theorem ok_law_setting (F : Fun K "_law_setting" "_law_setting" s_law_setting f fd) (Tx : Txt K mg A tk aBurstRule) (C_law_small : Cal P w K mg base "_law_small" 4 ["store", "low", "usual", "high"] (SpU A 4 c_law_small)) :
    FnOk P w K mg base CX0 5 f fd ["store"] (SpU A 1 c_law_setting) := by
  refine F.ok sc_law_setting (fun vs H Q E h => h.len) (fun cdv Ar outer s H vs Q E hr h => ?_)
  obtain ⟨st, P0, ds, k, XA, h1, h2, h3, hc, h5, h6⟩ := h
  refine ⟨_, (pss_cons (ps_set (i := 1) sc_law_setting.nd rfl (.inl rfl) (p_call C_law_small hr (pa_cons (pv 0) (pa_cons pe_int (pa_cons pe_int (pa_cons pe_int pa_nil)))) (by omega)))
      (pss_cons (ps_set (i := 2) sc_law_setting.nd rfl (.inl rfl) (pe_callB (call_max2H rfl) (by rfl) Tx.m_max (by decide +kernel) (pa_cons pe_int (pa_cons (pv 1) pa_nil))))
      (pss_cons (ps_set (i := 3) sc_law_setting.nd rfl (.inl rfl) (p_call C_law_small hr (pa_cons (pv 0) (pa_cons (pv 2) (pa_cons (pe_callB (call_min2H rfl) (by rfl) Tx.m_min (by decide +kernel) (pa_cons pe_int (pa_cons (pe_op op_add (pv 2) pe_int) pa_nil))) (pa_cons pe_int pa_nil)))) (by omega)))
      (pss_one (ps_ret (pe_tup (pa_cons (pv 1) (pa_cons (pv 3) (pa_cons (p_call C_law_small hr (pa_cons (pv 0) (pa_cons pe_int (pa_cons pe_int (pa_cons pe_int pa_nil)))) (by omega)) (pa_cons (p_call C_law_small hr (pa_cons (pv 0) (pa_cons pe_int (pa_cons pe_int (pa_cons pe_int pa_nil)))) (by omega)) pa_nil)))))))))), ?_⟩
  refine run0 (A := A) (ms := ?ms) (XA := XA) h1 h2 h5 ?r ?u
  case r => exact (rs_seq (rs_asg (re_call (ra_cons re_var (ra_cons re_int (ra_cons re_int (ra_cons re_int ra_nil))))) rg_name)
      (rs_seq (rs_asg (re_cb rcb_max2 (ra_cons re_int (ra_cons re_var ra_nil))) rg_name)
      (rs_seq (rs_asg (re_call (ra_cons re_var (ra_cons re_var (ra_cons (re_cb rcb_min2 (ra_cons re_int (ra_cons (re_op ro_int re_var re_int) ra_nil))) (ra_cons re_int ra_nil))))) rg_name)
      (rs_ret (re_tup (ra_cons re_var (ra_cons re_var (ra_cons (re_call (ra_cons re_var (ra_cons re_int (ra_cons re_int (ra_cons re_int ra_nil))))) (ra_cons (re_call (ra_cons re_var (ra_cons re_int (ra_cons re_int (ra_cons re_int ra_nil))))) ra_nil)))))))))
  case u =>
    clear h1 h2 h5 h6 hr
    obtain ⟨rfl, hk⟩ := hc
    (try simp only [mVar, mC, mOp, mUn, mNil, mCons, mTup, mLst, mCall, mCallX, mCallKX, mCB, mTest, mAnd, mOr, mNot, mYes, mAndV, mOrV, mNotV, mIf, mIsN, mNotN, mChain, mSeq, mNext, mBrk, mCnt, mRet, mRetN, mIfS, mDrop, mAsg, mOwn, mLstO, mListC, mLcO, oCatO, mShr, mApp, mPutI, mFrz, frz_w, mFor, mPar, mAug, mRaise, mTry, tryM, mKind, mLc, mList, mTupl, mListOwn, mRng1, mRng2, mEnum, mZip, mRev, mgName, mLenV, mIxV, mNoPart, mPart, mSl, wipeE, lcTurn, startE, oI_w, oB_w, oIC_w, oU_w, isB_w, oEq_w, oNe_w, exS_w, oIx_w, items_l, items_t, oLen_w, oAbs_w, oInt_i, oInt_b, oGcd_w, oMax_w, oMax3_w, oMin_w, oDivmod_w, oStr_w, oType_w, oIs1_w, oIs2_w, oIsTy_w, oCat_w, oIsN_w, oNotN_w, exD_w, exO_w, exD2_w, exO2_w, exL_w, exT_w, exI_w, ex1_w, ex1i_w, mSeqV_w, exX_w, seqOf_o, seqOf_d, mgCons_w, mgNil_w, mgTup_w, exPar_w, listC_w, putI_w, ixV_w, rng1_w, rng2_w, lcGo_n, lcGo_c, forGo_n, forGo_c, scEq_i, scEq_b, scEq_s, scEq_n, tyT, isNon, k_ii, k_ib, k_is, k_il, k_it, k_bi, k_bb, k_bs, k_bl, k_bt, k_ni, k_nb, k_ns, k_nl, k_nt, k_si, k_sb, k_ss, k_sl, k_st, k_li, k_lb, k_ls, k_ll, k_lt, k_ti, k_tb, k_ts, k_tl, k_tt, List.map_cons, List.map_nil, List.length_cons, List.length_nil, List.replicate, List.cons_append, List.nil_append, List.append_nil, List.getElem?_cons_zero, List.getElem?_cons_succ, List.set_cons_zero, List.set_cons_succ, Nat.sub_self, Nat.reduceAdd, Nat.reduceSub, List.replicate_zero, decide_eq_true_eq, Bool.true_eq_false, Bool.false_eq_true, if_true, if_false, reduceIte, Bool.not_eq_true', decide_eq_false_iff_not, Bool.not_true, Bool.not_false, exists_eq_left', true_and, and_true, Option.some.injEq, reduceCtorEq, decide_true, decide_false, not_true_eq_false, not_false_eq_true, Nat.reduceLT, Bool.or_false, Bool.or_true, Bool.false_or, Bool.true_or, Bool.and_true, Bool.true_and, Bool.and_false, Bool.false_and, true_implies, mFld, mFldS, mFldO, mProp, mMeth, mMethX, mInW, mCallXD, exOb_w, exOb2_w, exObD_w, exObD2_w, exObj_w, exObj0_w, exObjC_w, oIsNTy_w, mLcnt, eqD_ii, mJoin, oTupOf_w, oIsBl_w, cCalm])
    refine ⟨0, 2, 8, rfl, by omega, by omega, by omega, by omega, fun l l0 l1 => ?_⟩
    (try simp only [mVar, mC, mOp, mUn, mNil, mCons, mTup, mLst, mCall, mCallX, mCallKX, mCB, mTest, mAnd, mOr, mNot, mYes, mAndV, mOrV, mNotV, mIf, mIsN, mNotN, mChain, mSeq, mNext, mBrk, mCnt, mRet, mRetN, mIfS, mDrop, mAsg, mOwn, mLstO, mListC, mLcO, oCatO, mShr, mApp, mPutI, mFrz, frz_w, mFor, mPar, mAug, mRaise, mTry, tryM, mKind, mLc, mList, mTupl, mListOwn, mRng1, mRng2, mEnum, mZip, mRev, mgName, mLenV, mIxV, mNoPart, mPart, mSl, wipeE, lcTurn, startE, oI_w, oB_w, oIC_w, oU_w, isB_w, oEq_w, oNe_w, exS_w, oIx_w, items_l, items_t, oLen_w, oAbs_w, oInt_i, oInt_b, oGcd_w, oMax_w, oMax3_w, oMin_w, oDivmod_w, oStr_w, oType_w, oIs1_w, oIs2_w, oIsTy_w, oCat_w, oIsN_w, oNotN_w, exD_w, exO_w, exD2_w, exO2_w, exL_w, exT_w, exI_w, ex1_w, ex1i_w, mSeqV_w, exX_w, seqOf_o, seqOf_d, mgCons_w, mgNil_w, mgTup_w, exPar_w, listC_w, putI_w, ixV_w, rng1_w, rng2_w, lcGo_n, lcGo_c, forGo_n, forGo_c, scEq_i, scEq_b, scEq_s, scEq_n, tyT, isNon, k_ii, k_ib, k_is, k_il, k_it, k_bi, k_bb, k_bs, k_bl, k_bt, k_ni, k_nb, k_ns, k_nl, k_nt, k_si, k_sb, k_ss, k_sl, k_st, k_li, k_lb, k_ls, k_ll, k_lt, k_ti, k_tb, k_ts, k_tl, k_tt, List.map_cons, List.map_nil, List.length_cons, List.length_nil, List.replicate, List.cons_append, List.nil_append, List.append_nil, List.getElem?_cons_zero, List.getElem?_cons_succ, List.set_cons_zero, List.set_cons_succ, Nat.sub_self, Nat.reduceAdd, Nat.reduceSub, List.replicate_zero, decide_eq_true_eq, Bool.true_eq_false, Bool.false_eq_true, if_true, if_false, reduceIte, Bool.not_eq_true', decide_eq_false_iff_not, Bool.not_true, Bool.not_false, exists_eq_left', true_and, and_true, Option.some.injEq, reduceCtorEq, decide_true, decide_false, not_true_eq_false, not_false_eq_true, Nat.reduceLT, Bool.or_false, Bool.or_true, Bool.false_or, Bool.true_or, Bool.and_true, Bool.true_and, Bool.and_false, Bool.false_and, true_implies, mFld, mFldS, mFldO, mProp, mMeth, mMethX, mInW, mCallXD, exOb_w, exOb2_w, exObD_w, exObD2_w, exObj_w, exObj0_w, exObjC_w, oIsNTy_w, mLcnt, eqD_ii, mJoin, oTupOf_w, oIsBl_w, cCalm])
    refine ⟨max 1 l, min 8 (max 1 l + 2), 8, rfl, by omega, by omega, by omega, by omega, fun w w0 w1 => ?_⟩
    (try simp only [mVar, mC, mOp, mUn, mNil, mCons, mTup, mLst, mCall, mCallX, mCallKX, mCB, mTest, mAnd, mOr, mNot, mYes, mAndV, mOrV, mNotV, mIf, mIsN, mNotN, mChain, mSeq, mNext, mBrk, mCnt, mRet, mRetN, mIfS, mDrop, mAsg, mOwn, mLstO, mListC, mLcO, oCatO, mShr, mApp, mPutI, mFrz, frz_w, mFor, mPar, mAug, mRaise, mTry, tryM, mKind, mLc, mList, mTupl, mListOwn, mRng1, mRng2, mEnum, mZip, mRev, mgName, mLenV, mIxV, mNoPart, mPart, mSl, wipeE, lcTurn, startE, oI_w, oB_w, oIC_w, oU_w, isB_w, oEq_w, oNe_w, exS_w, oIx_w, items_l, items_t, oLen_w, oAbs_w, oInt_i, oInt_b, oGcd_w, oMax_w, oMax3_w, oMin_w, oDivmod_w, oStr_w, oType_w, oIs1_w, oIs2_w, oIsTy_w, oCat_w, oIsN_w, oNotN_w, exD_w, exO_w, exD2_w, exO2_w, exL_w, exT_w, exI_w, ex1_w, ex1i_w, mSeqV_w, exX_w, seqOf_o, seqOf_d, mgCons_w, mgNil_w, mgTup_w, exPar_w, listC_w, putI_w, ixV_w, rng1_w, rng2_w, lcGo_n, lcGo_c, forGo_n, forGo_c, scEq_i, scEq_b, scEq_s, scEq_n, tyT, isNon, k_ii, k_ib, k_is, k_il, k_it, k_bi, k_bb, k_bs, k_bl, k_bt, k_ni, k_nb, k_ns, k_nl, k_nt, k_si, k_sb, k_ss, k_sl, k_st, k_li, k_lb, k_ls, k_ll, k_lt, k_ti, k_tb, k_ts, k_tl, k_tt, List.map_cons, List.map_nil, List.length_cons, List.length_nil, List.replicate, List.cons_append, List.nil_append, List.append_nil, List.getElem?_cons_zero, List.getElem?_cons_succ, List.set_cons_zero, List.set_cons_succ, Nat.sub_self, Nat.reduceAdd, Nat.reduceSub, List.replicate_zero, decide_eq_true_eq, Bool.true_eq_false, Bool.false_eq_true, if_true, if_false, reduceIte, Bool.not_eq_true', decide_eq_false_iff_not, Bool.not_true, Bool.not_false, exists_eq_left', true_and, and_true, Option.some.injEq, reduceCtorEq, decide_true, decide_false, not_true_eq_false, not_false_eq_true, Nat.reduceLT, Bool.or_false, Bool.or_true, Bool.false_or, Bool.true_or, Bool.and_true, Bool.true_and, Bool.and_false, Bool.false_and, true_implies, mFld, mFldS, mFldO, mProp, mMeth, mMethX, mInW, mCallXD, exOb_w, exOb2_w, exObD_w, exObD2_w, exObj_w, exObj0_w, exObjC_w, oIsNTy_w, mLcnt, eqD_ii, mJoin, oTupOf_w, oIsBl_w, cCalm])
    refine ⟨0, 2, 8, rfl, by omega, by omega, by omega, by omega, fun b b0 b1 => ?_⟩
    refine ⟨1, 3, 6, rfl, by omega, by omega, by omega, by omega, fun d d0 d1 => ?_⟩
    exact hk l w b d ⟨l0, l1, w0, w1, b0, b1, d0, d1⟩
end
end Mt
namespace Mt
open PySem PySem.Spec PyProof.Rows L2 L2H
section
variable {P : Program} {w : World} {K : PySem.W.Frag} {mg : Str → Option Value} {base : Heap} {f : Addr} {fd : FuncData} {A : Ad} {tk : Nat → Tok} {aBurstRule : Addr}
theorem ok_law_gcd (F : Fun K "_law_gcd" "_law_gcd" s_law_gcd f fd) (Tx : Txt K mg A tk aBurstRule)  :
    FnOk P w K mg base CX0 1 f fd ["one", "two"] (SpU A 2 c_law_gcd) := by
  refine F.ok sc_law_gcd (fun vs H Q E h => h.len) (fun cdv Ar outer s H vs Q E hr h => ?_)
  obtain ⟨st, P0, ds, k, XA, h1, h2, h3, hc, h5, h6⟩ := h
  refine ⟨_, (pss_cons (ps_for PassesOwn.never rfl (pi_range1 (by rfl) Tx.m_range (pa_cons pe_int pa_nil)) (pg_name (i := 2) sc_law_gcd.nd rfl (.inl rfl)) (pss_cons (ps_if (pt_cmpR op_eq (pv 1) pe_int (nomark _)) (pss_one (ps_ret (pv 0))) pss_nil)
      (pss_cons (ps_set (i := 3) sc_law_gcd.nd rfl (.inl rfl) (pe_op op_modN (pe_callTy call_intH (by rfl) Tx.m_int (by decide +kernel) (pa_cons (pv 0) pa_nil)) (pv 1)))
      (pss_cons (ps_set (i := 0) sc_law_gcd.nd rfl (.inl rfl) (pv 1))
      (pss_one (ps_set (i := 1) sc_law_gcd.nd rfl (.inl rfl) (pv 3)))))))
      (pss_one (ps_ret (pv 0)))), ?_⟩
  refine run0 (A := A) (ms := ?ms) (XA := XA) h1 h2 h5 ?r ?u
  case r => exact (rs_seq (rs_for (ri_rng1 (ra_cons re_int ra_nil)) rg_name (rs_seq (rs_if (rt_test (re_op ro_eq re_var re_int)) (rs_ret re_var) rs_next)
      (rs_seq (rs_asg (re_op ro_intC (re_cb rcb_int (ra_cons re_var ra_nil)) re_var) rg_name)
      (rs_seq (rs_asg re_var rg_name)
      (rs_asg re_var rg_name)))))
      (rs_ret re_var))
  case u =>
    clear h1 h2 h5 h6 hr
    obtain ⟨a, b, rfl, a0, a1, b0, b1, hk⟩ := hc
    (try simp only [mVar, mC, mOp, mUn, mNil, mCons, mTup, mLst, mCall, mCallX, mCallKX, mCB, mTest, mAnd, mOr, mNot, mYes, mAndV, mOrV, mNotV, mIf, mIsN, mNotN, mChain, mSeq, mNext, mBrk, mCnt, mRet, mRetN, mIfS, mDrop, mAsg, mOwn, mLstO, mListC, mLcO, oCatO, mShr, mApp, mPutI, mFrz, frz_w, mFor, mPar, mAug, mRaise, mTry, tryM, mKind, mLc, mList, mTupl, mListOwn, mRng1, mRng2, mEnum, mZip, mRev, mgName, mLenV, mIxV, mNoPart, mPart, mSl, wipeE, lcTurn, startE, oI_w, oB_w, oIC_w, oU_w, isB_w, oEq_w, oNe_w, exS_w, oIx_w, items_l, items_t, oLen_w, oAbs_w, oInt_i, oInt_b, oGcd_w, oMax_w, oMax3_w, oMin_w, oDivmod_w, oStr_w, oType_w, oIs1_w, oIs2_w, oIsTy_w, oCat_w, oIsN_w, oNotN_w, exD_w, exO_w, exD2_w, exO2_w, exL_w, exT_w, exI_w, ex1_w, ex1i_w, mSeqV_w, exX_w, seqOf_o, seqOf_d, mgCons_w, mgNil_w, mgTup_w, exPar_w, listC_w, putI_w, ixV_w, rng1_w, rng2_w, lcGo_n, lcGo_c, forGo_n, forGo_c, scEq_i, scEq_b, scEq_s, scEq_n, tyT, isNon, k_ii, k_ib, k_is, k_il, k_it, k_bi, k_bb, k_bs, k_bl, k_bt, k_ni, k_nb, k_ns, k_nl, k_nt, k_si, k_sb, k_ss, k_sl, k_st, k_li, k_lb, k_ls, k_ll, k_lt, k_ti, k_tb, k_ts, k_tl, k_tt, List.map_cons, List.map_nil, List.length_cons, List.length_nil, List.replicate, List.cons_append, List.nil_append, List.append_nil, List.getElem?_cons_zero, List.getElem?_cons_succ, List.set_cons_zero, List.set_cons_succ, Nat.sub_self, Nat.reduceAdd, Nat.reduceSub, List.replicate_zero, decide_eq_true_eq, Bool.true_eq_false, Bool.false_eq_true, if_true, if_false, reduceIte, Bool.not_eq_true', decide_eq_false_iff_not, Bool.not_true, Bool.not_false, exists_eq_left', true_and, and_true, Option.some.injEq, reduceCtorEq, decide_true, decide_false, not_true_eq_false, not_false_eq_true, Nat.reduceLT, Bool.or_false, Bool.or_true, Bool.false_or, Bool.true_or, Bool.and_true, Bool.true_and, Bool.and_false, Bool.false_and, true_implies, mFld, mFldS, mFldO, mProp, mMeth, mMethX, mInW, mCallXD, exOb_w, exOb2_w, exObD_w, exObD2_w, exObj_w, exObj0_w, exObjC_w, oIsNTy_w, mLcnt, eqD_ii, mJoin, oTupOf_w, oIsBl_w, cCalm])
    refine ⟨by decide, by decide, fun i env => ∃ (x y : Int) (z3 z4 : Option Sl), 1 ≤ x ∧ x ≤ 1000 ∧ 0 ≤ y ∧ y ≤ 1000 ∧ env = [some (Sl.d (.int x)), some (Sl.d (.int y)), z3, z4], ⟨a, b, _, _, a0, a1, b0, b1, rfl⟩, ?_, ?_⟩
    · rintro i v env hv ⟨x, y, z3, z4, x0, x1, y0, y1, rfl⟩
      obtain ⟨hi, rfl⟩ := rng_at hv
      (try simp only [mVar, mC, mOp, mUn, mNil, mCons, mTup, mLst, mCall, mCallX, mCallKX, mCB, mTest, mAnd, mOr, mNot, mYes, mAndV, mOrV, mNotV, mIf, mIsN, mNotN, mChain, mSeq, mNext, mBrk, mCnt, mRet, mRetN, mIfS, mDrop, mAsg, mOwn, mLstO, mListC, mLcO, oCatO, mShr, mApp, mPutI, mFrz, frz_w, mFor, mPar, mAug, mRaise, mTry, tryM, mKind, mLc, mList, mTupl, mListOwn, mRng1, mRng2, mEnum, mZip, mRev, mgName, mLenV, mIxV, mNoPart, mPart, mSl, wipeE, lcTurn, startE, oI_w, oB_w, oIC_w, oU_w, isB_w, oEq_w, oNe_w, exS_w, oIx_w, items_l, items_t, oLen_w, oAbs_w, oInt_i, oInt_b, oGcd_w, oMax_w, oMax3_w, oMin_w, oDivmod_w, oStr_w, oType_w, oIs1_w, oIs2_w, oIsTy_w, oCat_w, oIsN_w, oNotN_w, exD_w, exO_w, exD2_w, exO2_w, exL_w, exT_w, exI_w, ex1_w, ex1i_w, mSeqV_w, exX_w, seqOf_o, seqOf_d, mgCons_w, mgNil_w, mgTup_w, exPar_w, listC_w, putI_w, ixV_w, rng1_w, rng2_w, lcGo_n, lcGo_c, forGo_n, forGo_c, scEq_i, scEq_b, scEq_s, scEq_n, tyT, isNon, k_ii, k_ib, k_is, k_il, k_it, k_bi, k_bb, k_bs, k_bl, k_bt, k_ni, k_nb, k_ns, k_nl, k_nt, k_si, k_sb, k_ss, k_sl, k_st, k_li, k_lb, k_ls, k_ll, k_lt, k_ti, k_tb, k_ts, k_tl, k_tt, List.map_cons, List.map_nil, List.length_cons, List.length_nil, List.replicate, List.cons_append, List.nil_append, List.append_nil, List.getElem?_cons_zero, List.getElem?_cons_succ, List.set_cons_zero, List.set_cons_succ, Nat.sub_self, Nat.reduceAdd, Nat.reduceSub, List.replicate_zero, decide_eq_true_eq, Bool.true_eq_false, Bool.false_eq_true, if_true, if_false, reduceIte, Bool.not_eq_true', decide_eq_false_iff_not, Bool.not_true, Bool.not_false, exists_eq_left', true_and, and_true, Option.some.injEq, reduceCtorEq, decide_true, decide_false, not_true_eq_false, not_false_eq_true, Nat.reduceLT, Bool.or_false, Bool.or_true, Bool.false_or, Bool.true_or, Bool.and_true, Bool.true_and, Bool.and_false, Bool.false_and, true_implies, mFld, mFldS, mFldO, mProp, mMeth, mMethX, mInW, mCallXD, exOb_w, exOb2_w, exObD_w, exObD2_w, exObj_w, exObj0_w, exObjC_w, oIsNTy_w, mLcnt, eqD_ii, mJoin, oTupOf_w, oIsBl_w, cCalm])
      refine ite2 (fun _ => hk x x0 x1) (fun z => ⟨z, ?_⟩)
      have m0 := fmod_pos (a := x) (m := y) (by omega)
      exact ⟨y, _, _, _, by omega, y1, m0.1, by omega, rfl⟩
    · rintro env ⟨x, y, z3, z4, x0, x1, y0, y1, rfl⟩
      (try simp only [mVar, mC, mOp, mUn, mNil, mCons, mTup, mLst, mCall, mCallX, mCallKX, mCB, mTest, mAnd, mOr, mNot, mYes, mAndV, mOrV, mNotV, mIf, mIsN, mNotN, mChain, mSeq, mNext, mBrk, mCnt, mRet, mRetN, mIfS, mDrop, mAsg, mOwn, mLstO, mListC, mLcO, oCatO, mShr, mApp, mPutI, mFrz, frz_w, mFor, mPar, mAug, mRaise, mTry, tryM, mKind, mLc, mList, mTupl, mListOwn, mRng1, mRng2, mEnum, mZip, mRev, mgName, mLenV, mIxV, mNoPart, mPart, mSl, wipeE, lcTurn, startE, oI_w, oB_w, oIC_w, oU_w, isB_w, oEq_w, oNe_w, exS_w, oIx_w, items_l, items_t, oLen_w, oAbs_w, oInt_i, oInt_b, oGcd_w, oMax_w, oMax3_w, oMin_w, oDivmod_w, oStr_w, oType_w, oIs1_w, oIs2_w, oIsTy_w, oCat_w, oIsN_w, oNotN_w, exD_w, exO_w, exD2_w, exO2_w, exL_w, exT_w, exI_w, ex1_w, ex1i_w, mSeqV_w, exX_w, seqOf_o, seqOf_d, mgCons_w, mgNil_w, mgTup_w, exPar_w, listC_w, putI_w, ixV_w, rng1_w, rng2_w, lcGo_n, lcGo_c, forGo_n, forGo_c, scEq_i, scEq_b, scEq_s, scEq_n, tyT, isNon, k_ii, k_ib, k_is, k_il, k_it, k_bi, k_bb, k_bs, k_bl, k_bt, k_ni, k_nb, k_ns, k_nl, k_nt, k_si, k_sb, k_ss, k_sl, k_st, k_li, k_lb, k_ls, k_ll, k_lt, k_ti, k_tb, k_ts, k_tl, k_tt, List.map_cons, List.map_nil, List.length_cons, List.length_nil, List.replicate, List.cons_append, List.nil_append, List.append_nil, List.getElem?_cons_zero, List.getElem?_cons_succ, List.set_cons_zero, List.set_cons_succ, Nat.sub_self, Nat.reduceAdd, Nat.reduceSub, List.replicate_zero, decide_eq_true_eq, Bool.true_eq_false, Bool.false_eq_true, if_true, if_false, reduceIte, Bool.not_eq_true', decide_eq_false_iff_not, Bool.not_true, Bool.not_false, exists_eq_left', true_and, and_true, Option.some.injEq, reduceCtorEq, decide_true, decide_false, not_true_eq_false, not_false_eq_true, Nat.reduceLT, Bool.or_false, Bool.or_true, Bool.false_or, Bool.true_or, Bool.and_true, Bool.true_and, Bool.and_false, Bool.false_and, true_implies, mFld, mFldS, mFldO, mProp, mMeth, mMethX, mInW, mCallXD, exOb_w, exOb2_w, exObD_w, exObD2_w, exObj_w, exObj0_w, exObjC_w, oIsNTy_w, mLcnt, eqD_ii, mJoin, oTupOf_w, oIsBl_w, cCalm])
      exact hk x x0 x1
end
end Mt
namespace Mt
open PySem PySem.Spec PyProof.Rows L2 L2H
section
variable {P : Program} {w : World} {K : PySem.W.Frag} {mg : Str → Option Value} {base : Heap} {f : Addr} {fd : FuncData} {A : Ad} {tk : Nat → Tok} {aBurstRule : Addr}
theorem ok_law_multiple (F : Fun K "_law_multiple" "_law_multiple" s_law_multiple f fd) (Tx : Txt K mg A tk aBurstRule) (C_law_gcd : Cal P w K mg base "_law_gcd" 1 ["one", "two"] (SpU A 2 c_law_gcd)) :
    FnOk P w K mg base CX0 2 f fd ["setting"] (SpU A 1 c_law_multiple) := by
  refine F.ok sc_law_multiple (fun vs H Q E h => h.len) (fun cdv Ar outer s H vs Q E hr h => ?_)
  obtain ⟨st, P0, ds, k, XA, h1, h2, h3, hc, h5, h6⟩ := h
  refine ⟨_, (pss_cons (ps_asg (pv 0) (pg_tup rfl (pgs_cons (pg_name (i := 1) sc_law_multiple.nd rfl (.inl rfl)) (pgs_cons (pg_name (i := 2) sc_law_multiple.nd rfl (.inl rfl)) (pgs_cons (pg_name (i := 3) sc_law_multiple.nd rfl (.inl rfl)) (pgs_cons (pg_name (i := 4) sc_law_multiple.nd rfl (.inl rfl)) pgs_nil))))))
      (pss_cons (ps_if (PW.pt (pw_or (pt_cmpR op_eq (pv 1) pe_int (nomark _)) (pw_or1 (pt_cmpR op_eq (pv 3) pe_int (nomark _))))) (pss_one (ps_ret pe_int)) pss_nil)
      (pss_one (ps_ret (pe_op op_fdivW (pv 3) (p_call C_law_gcd hr (pa_cons (pv 3) (pa_cons (pe_op op_sub (pv 2) (pv 1)) pa_nil)) (by omega))))))), ?_⟩
  refine run0 (A := A) (ms := ?ms) (XA := XA) h1 h2 h5 ?r ?u
  case r => exact (rs_seq (rs_asg re_var (rg_tup (n := 4) (rgs_cons rg_name (rgs_cons rg_name (rgs_cons rg_name (rgs_cons rg_name rgs_nil))))))
      (rs_seq (rs_if (rt_or (rt_test (re_op ro_eq re_var re_int)) (rt_test (re_op ro_eq re_var re_int))) (rs_ret re_int) rs_next)
      (rs_ret (re_op ro_intC re_var (re_call (ra_cons re_var (ra_cons (re_op ro_int re_var re_var) ra_nil)))))))
  case u =>
    clear h1 h2 h5 h6 hr
    obtain ⟨l, w, b, d, rfl, ok, hk⟩ := hc
    have w0 := ok.w0
    have w1 := ok.w1
    have b0 := ok.b0
    have b1 := ok.b1
    have l0 := ok.l0
    (try simp only [mVar, mC, mOp, mUn, mNil, mCons, mTup, mLst, mCall, mCallX, mCallKX, mCB, mTest, mAnd, mOr, mNot, mYes, mAndV, mOrV, mNotV, mIf, mIsN, mNotN, mChain, mSeq, mNext, mBrk, mCnt, mRet, mRetN, mIfS, mDrop, mAsg, mOwn, mLstO, mListC, mLcO, oCatO, mShr, mApp, mPutI, mFrz, frz_w, mFor, mPar, mAug, mRaise, mTry, tryM, mKind, mLc, mList, mTupl, mListOwn, mRng1, mRng2, mEnum, mZip, mRev, mgName, mLenV, mIxV, mNoPart, mPart, mSl, wipeE, lcTurn, startE, oI_w, oB_w, oIC_w, oU_w, isB_w, oEq_w, oNe_w, exS_w, oIx_w, items_l, items_t, oLen_w, oAbs_w, oInt_i, oInt_b, oGcd_w, oMax_w, oMax3_w, oMin_w, oDivmod_w, oStr_w, oType_w, oIs1_w, oIs2_w, oIsTy_w, oCat_w, oIsN_w, oNotN_w, exD_w, exO_w, exD2_w, exO2_w, exL_w, exT_w, exI_w, ex1_w, ex1i_w, mSeqV_w, exX_w, seqOf_o, seqOf_d, mgCons_w, mgNil_w, mgTup_w, exPar_w, listC_w, putI_w, ixV_w, rng1_w, rng2_w, lcGo_n, lcGo_c, forGo_n, forGo_c, scEq_i, scEq_b, scEq_s, scEq_n, tyT, isNon, k_ii, k_ib, k_is, k_il, k_it, k_bi, k_bb, k_bs, k_bl, k_bt, k_ni, k_nb, k_ns, k_nl, k_nt, k_si, k_sb, k_ss, k_sl, k_st, k_li, k_lb, k_ls, k_ll, k_lt, k_ti, k_tb, k_ts, k_tl, k_tt, List.map_cons, List.map_nil, List.length_cons, List.length_nil, List.replicate, List.cons_append, List.nil_append, List.append_nil, List.getElem?_cons_zero, List.getElem?_cons_succ, List.set_cons_zero, List.set_cons_succ, Nat.sub_self, Nat.reduceAdd, Nat.reduceSub, List.replicate_zero, decide_eq_true_eq, Bool.true_eq_false, Bool.false_eq_true, if_true, if_false, reduceIte, Bool.not_eq_true', decide_eq_false_iff_not, Bool.not_true, Bool.not_false, exists_eq_left', true_and, and_true, Option.some.injEq, reduceCtorEq, decide_true, decide_false, not_true_eq_false, not_false_eq_true, Nat.reduceLT, Bool.or_false, Bool.or_true, Bool.false_or, Bool.true_or, Bool.and_true, Bool.true_and, Bool.and_false, Bool.false_and, true_implies, mFld, mFldS, mFldO, mProp, mMeth, mMethX, mInW, mCallXD, exOb_w, exOb2_w, exObD_w, exObD2_w, exObj_w, exObj0_w, exObjC_w, oIsNTy_w, mLcnt, eqD_ii, mJoin, oTupOf_w, oIsBl_w, cCalm])
    have one : k (.int 1) := hk 1 (by decide) (by decide)
    refine ite2 (fun _ => ?_) (fun _ => ?_)
    · try exact one
      try (rw [if_pos rfl]; exact one)
    · refine ite2 (fun _ => one) (fun z => ?_)
      refine ⟨b, w - l, rfl, by omega, by omega, by omega, by omega, fun r r0 r1 => ?_⟩
      (try simp only [mVar, mC, mOp, mUn, mNil, mCons, mTup, mLst, mCall, mCallX, mCallKX, mCB, mTest, mAnd, mOr, mNot, mYes, mAndV, mOrV, mNotV, mIf, mIsN, mNotN, mChain, mSeq, mNext, mBrk, mCnt, mRet, mRetN, mIfS, mDrop, mAsg, mOwn, mLstO, mListC, mLcO, oCatO, mShr, mApp, mPutI, mFrz, frz_w, mFor, mPar, mAug, mRaise, mTry, tryM, mKind, mLc, mList, mTupl, mListOwn, mRng1, mRng2, mEnum, mZip, mRev, mgName, mLenV, mIxV, mNoPart, mPart, mSl, wipeE, lcTurn, startE, oI_w, oB_w, oIC_w, oU_w, isB_w, oEq_w, oNe_w, exS_w, oIx_w, items_l, items_t, oLen_w, oAbs_w, oInt_i, oInt_b, oGcd_w, oMax_w, oMax3_w, oMin_w, oDivmod_w, oStr_w, oType_w, oIs1_w, oIs2_w, oIsTy_w, oCat_w, oIsN_w, oNotN_w, exD_w, exO_w, exD2_w, exO2_w, exL_w, exT_w, exI_w, ex1_w, ex1i_w, mSeqV_w, exX_w, seqOf_o, seqOf_d, mgCons_w, mgNil_w, mgTup_w, exPar_w, listC_w, putI_w, ixV_w, rng1_w, rng2_w, lcGo_n, lcGo_c, forGo_n, forGo_c, scEq_i, scEq_b, scEq_s, scEq_n, tyT, isNon, k_ii, k_ib, k_is, k_il, k_it, k_bi, k_bb, k_bs, k_bl, k_bt, k_ni, k_nb, k_ns, k_nl, k_nt, k_si, k_sb, k_ss, k_sl, k_st, k_li, k_lb, k_ls, k_ll, k_lt, k_ti, k_tb, k_ts, k_tl, k_tt, List.map_cons, List.map_nil, List.length_cons, List.length_nil, List.replicate, List.cons_append, List.nil_append, List.append_nil, List.getElem?_cons_zero, List.getElem?_cons_succ, List.set_cons_zero, List.set_cons_succ, Nat.sub_self, Nat.reduceAdd, Nat.reduceSub, List.replicate_zero, decide_eq_true_eq, Bool.true_eq_false, Bool.false_eq_true, if_true, if_false, reduceIte, Bool.not_eq_true', decide_eq_false_iff_not, Bool.not_true, Bool.not_false, exists_eq_left', true_and, and_true, Option.some.injEq, reduceCtorEq, decide_true, decide_false, not_true_eq_false, not_false_eq_true, Nat.reduceLT, Bool.or_false, Bool.or_true, Bool.false_or, Bool.true_or, Bool.and_true, Bool.true_and, Bool.and_false, Bool.false_and, true_implies, mFld, mFldS, mFldO, mProp, mMeth, mMethX, mInW, mCallXD, exOb_w, exOb2_w, exObD_w, exObD2_w, exObj_w, exObj0_w, exObjC_w, oIsNTy_w, mLcnt, eqD_ii, mJoin, oTupOf_w, oIsBl_w, cCalm])
      have := Int.ediv_le_self (a := b) r b0
      exact ⟨wide_div (b := 20) (by omega) (by omega) (by decide) (by decide), hk _ (Int.ediv_nonneg b0 (by omega)) (by omega)⟩
end
end Mt
namespace Mt
open PySem PySem.Spec PyProof.Rows L2 L2H
section
variable {P : Program} {w : World} {K : PySem.W.Frag} {mg : Str → Option Value} {base : Heap} {f : Addr} {fd : FuncData} {A : Ad} {tk : Nat → Tok} {aBurstRule : Addr}
theorem ok_law_fit (F : Fun K "_law_fit" "_law_fit" s_law_fit f fd) (Tx : Txt K mg A tk aBurstRule) (C_law_edge : Cal P w K mg base "_law_edge" 3 ["store", "low", "high"] (SpU A 3 c_law_edge)) (C_law_multiple : Cal P w K mg base "_law_multiple" 2 ["setting"] (SpU A 1 c_law_multiple)) (C_law_take : Cal P w K mg base "_law_take" 2 ["store", "many"] (SpU A 2 c_law_take)) :
    FnOk P w K mg base CX0 4 f fd ["store", "most"] (SpU A 2 c_law_fit) := by
  refine F.ok sc_law_fit (fun vs H Q E h => h.len) (fun cdv Ar outer s H vs Q E hr h => ?_)
  obtain ⟨st, P0, ds, k, XA, h1, h2, h3, hc, h5, h6⟩ := h
  refine ⟨_, (pss_cons (ps_set (i := 2) sc_law_fit.nd rfl (.inl rfl) (p_call C_law_edge hr (pa_cons (pv 0) (pa_cons pe_int (pa_cons (pv 1) pa_nil))) (by omega)))
      (pss_cons (ps_set (i := 3) sc_law_fit.nd rfl (.inl rfl) (p_call C_law_edge hr (pa_cons (pv 0) (pa_cons pe_int (pa_cons (pv 2) pa_nil))) (by omega)))
      (pss_cons (ps_set (i := 4) sc_law_fit.nd rfl (.inl rfl) (pe_ix ix_H (pe_lst (pa_cons pe_int (pa_cons pe_int (pa_cons pe_int (pa_cons pe_int (pa_cons pe_int (pa_cons pe_int (pa_cons pe_int (pa_cons pe_int pa_nil))))))))) (p_call C_law_take hr (pa_cons (pv 0) (pa_cons pe_int pa_nil)) (by omega)) (fun _ _ => rfl)))
      (pss_cons (ps_set (i := 5) sc_law_fit.nd rfl (.inl rfl) (pe_un un_neg (pe_op op_fdivW (pe_op op_mul (pe_un un_neg (pv 4)) (pv 3)) (pv 2))))
      (pss_cons (ps_set (i := 6) sc_law_fit.nd rfl (.inl rfl) (pe_tup (pa_cons (pv 4) (pa_cons (pe_op op_add (pe_callB (call_max2H rfl) (by rfl) Tx.m_max (by decide +kernel) (pa_cons pe_int (pa_cons (pe_op op_add (pv 4) (pv 5)) pa_nil))) (pe_op op_fdivW (p_call C_law_take hr (pa_cons (pv 0) (pa_cons pe_int pa_nil)) (by omega)) pe_int)) (pa_cons (pv 3) (pa_cons (pv 2) pa_nil))))))
      (pss_cons (ps_if (PW.pt (pw_or (pt_cmpR op_gt (pe_ix ix_H (pv 6) pe_int (fun _ _ => rfl)) pe_int (nomark _)) (pw_or1 (pt_cmpR op_gt (pe_op op_mul (pe_ix ix_H (pv 6) pe_int (fun _ _ => rfl)) (p_call C_law_multiple hr (pa_cons (pv 6) pa_nil) (by omega))) pe_int (nomark _))))) (pss_one (ps_ret (pe_tup (pa_cons pe_int (pa_cons (pe_callB (call_max2H rfl) (by rfl) Tx.m_max (by decide +kernel) (pa_cons pe_int (pa_cons (pe_op op_add pe_int (pv 3)) pa_nil))) (pa_cons (pv 3) (pa_cons (pv 2) pa_nil))))))) pss_nil)
      (pss_one (ps_ret (pv 6))))))))), ?_⟩
  refine run0 (A := A) (ms := ?ms) (XA := XA) h1 h2 h5 ?r ?u
  case r => exact (rs_seq (rs_asg (re_call (ra_cons re_var (ra_cons re_int (ra_cons re_var ra_nil)))) rg_name)
      (rs_seq (rs_asg (re_call (ra_cons re_var (ra_cons re_int (ra_cons re_var ra_nil)))) rg_name)
      (rs_seq (rs_asg (re_op ro_ix (re_lst (ra_cons re_int (ra_cons re_int (ra_cons re_int (ra_cons re_int (ra_cons re_int (ra_cons re_int (ra_cons re_int (ra_cons re_int ra_nil))))))))) (re_call (ra_cons re_var (ra_cons re_int ra_nil)))) rg_name)
      (rs_seq (rs_asg (re_un ru_int (re_op ro_intC (re_op ro_intC (re_un ru_int re_var) re_var) re_var)) rg_name)
      (rs_seq (rs_asg (re_tup (ra_cons re_var (ra_cons (re_op ro_int (re_cb rcb_max2 (ra_cons re_int (ra_cons (re_op ro_int re_var re_var) ra_nil))) (re_op ro_intC (re_call (ra_cons re_var (ra_cons re_int ra_nil))) re_int)) (ra_cons re_var (ra_cons re_var ra_nil))))) rg_name)
      (rs_seq (rs_if (rt_or (rt_test (re_op ro_bool (re_op ro_ix re_var re_int) re_int)) (rt_test (re_op ro_bool (re_op ro_intC (re_op ro_ix re_var re_int) (re_call (ra_cons re_var ra_nil))) re_int))) (rs_ret (re_tup (ra_cons re_int (ra_cons (re_cb rcb_max2 (ra_cons re_int (ra_cons (re_op ro_int re_int re_var) ra_nil))) (ra_cons re_var (ra_cons re_var ra_nil)))))) rs_next)
      (rs_ret re_var)))))))
  case u =>
    clear h1 h2 h5 h6 hr
    obtain ⟨m, rfl, m0, m1, hk⟩ := hc
    (try simp only [mVar, mC, mOp, mUn, mNil, mCons, mTup, mLst, mCall, mCallX, mCallKX, mCB, mTest, mAnd, mOr, mNot, mYes, mAndV, mOrV, mNotV, mIf, mIsN, mNotN, mChain, mSeq, mNext, mBrk, mCnt, mRet, mRetN, mIfS, mDrop, mAsg, mOwn, mLstO, mListC, mLcO, oCatO, mShr, mApp, mPutI, mFrz, frz_w, mFor, mPar, mAug, mRaise, mTry, tryM, mKind, mLc, mList, mTupl, mListOwn, mRng1, mRng2, mEnum, mZip, mRev, mgName, mLenV, mIxV, mNoPart, mPart, mSl, wipeE, lcTurn, startE, oI_w, oB_w, oIC_w, oU_w, isB_w, oEq_w, oNe_w, exS_w, oIx_w, items_l, items_t, oLen_w, oAbs_w, oInt_i, oInt_b, oGcd_w, oMax_w, oMax3_w, oMin_w, oDivmod_w, oStr_w, oType_w, oIs1_w, oIs2_w, oIsTy_w, oCat_w, oIsN_w, oNotN_w, exD_w, exO_w, exD2_w, exO2_w, exL_w, exT_w, exI_w, ex1_w, ex1i_w, mSeqV_w, exX_w, seqOf_o, seqOf_d, mgCons_w, mgNil_w, mgTup_w, exPar_w, listC_w, putI_w, ixV_w, rng1_w, rng2_w, lcGo_n, lcGo_c, forGo_n, forGo_c, scEq_i, scEq_b, scEq_s, scEq_n, tyT, isNon, k_ii, k_ib, k_is, k_il, k_it, k_bi, k_bb, k_bs, k_bl, k_bt, k_ni, k_nb, k_ns, k_nl, k_nt, k_si, k_sb, k_ss, k_sl, k_st, k_li, k_lb, k_ls, k_ll, k_lt, k_ti, k_tb, k_ts, k_tl, k_tt, List.map_cons, List.map_nil, List.length_cons, List.length_nil, List.replicate, List.cons_append, List.nil_append, List.append_nil, List.getElem?_cons_zero, List.getElem?_cons_succ, List.set_cons_zero, List.set_cons_succ, Nat.sub_self, Nat.reduceAdd, Nat.reduceSub, List.replicate_zero, decide_eq_true_eq, Bool.true_eq_false, Bool.false_eq_true, if_true, if_false, reduceIte, Bool.not_eq_true', decide_eq_false_iff_not, Bool.not_true, Bool.not_false, exists_eq_left', true_and, and_true, Option.some.injEq, reduceCtorEq, decide_true, decide_false, not_true_eq_false, not_false_eq_true, Nat.reduceLT, Bool.or_false, Bool.or_true, Bool.false_or, Bool.true_or, Bool.and_true, Bool.true_and, Bool.and_false, Bool.false_and, true_implies, mFld, mFldS, mFldO, mProp, mMeth, mMethX, mInW, mCallXD, exOb_w, exOb2_w, exObD_w, exObD2_w, exObj_w, exObj0_w, exObjC_w, oIsNTy_w, mLcnt, eqD_ii, mJoin, oTupOf_w, oIsBl_w, cCalm])
    refine ⟨1, m, rfl, by omega, by omega, fun d d0 d1 => ?_⟩
    (try simp only [mVar, mC, mOp, mUn, mNil, mCons, mTup, mLst, mCall, mCallX, mCallKX, mCB, mTest, mAnd, mOr, mNot, mYes, mAndV, mOrV, mNotV, mIf, mIsN, mNotN, mChain, mSeq, mNext, mBrk, mCnt, mRet, mRetN, mIfS, mDrop, mAsg, mOwn, mLstO, mListC, mLcO, oCatO, mShr, mApp, mPutI, mFrz, frz_w, mFor, mPar, mAug, mRaise, mTry, tryM, mKind, mLc, mList, mTupl, mListOwn, mRng1, mRng2, mEnum, mZip, mRev, mgName, mLenV, mIxV, mNoPart, mPart, mSl, wipeE, lcTurn, startE, oI_w, oB_w, oIC_w, oU_w, isB_w, oEq_w, oNe_w, exS_w, oIx_w, items_l, items_t, oLen_w, oAbs_w, oInt_i, oInt_b, oGcd_w, oMax_w, oMax3_w, oMin_w, oDivmod_w, oStr_w, oType_w, oIs1_w, oIs2_w, oIsTy_w, oCat_w, oIsN_w, oNotN_w, exD_w, exO_w, exD2_w, exO2_w, exL_w, exT_w, exI_w, ex1_w, ex1i_w, mSeqV_w, exX_w, seqOf_o, seqOf_d, mgCons_w, mgNil_w, mgTup_w, exPar_w, listC_w, putI_w, ixV_w, rng1_w, rng2_w, lcGo_n, lcGo_c, forGo_n, forGo_c, scEq_i, scEq_b, scEq_s, scEq_n, tyT, isNon, k_ii, k_ib, k_is, k_il, k_it, k_bi, k_bb, k_bs, k_bl, k_bt, k_ni, k_nb, k_ns, k_nl, k_nt, k_si, k_sb, k_ss, k_sl, k_st, k_li, k_lb, k_ls, k_ll, k_lt, k_ti, k_tb, k_ts, k_tl, k_tt, List.map_cons, List.map_nil, List.length_cons, List.length_nil, List.replicate, List.cons_append, List.nil_append, List.append_nil, List.getElem?_cons_zero, List.getElem?_cons_succ, List.set_cons_zero, List.set_cons_succ, Nat.sub_self, Nat.reduceAdd, Nat.reduceSub, List.replicate_zero, decide_eq_true_eq, Bool.true_eq_false, Bool.false_eq_true, if_true, if_false, reduceIte, Bool.not_eq_true', decide_eq_false_iff_not, Bool.not_true, Bool.not_false, exists_eq_left', true_and, and_true, Option.some.injEq, reduceCtorEq, decide_true, decide_false, not_true_eq_false, not_false_eq_true, Nat.reduceLT, Bool.or_false, Bool.or_true, Bool.false_or, Bool.true_or, Bool.and_true, Bool.true_and, Bool.and_false, Bool.false_and, true_implies, mFld, mFldS, mFldO, mProp, mMeth, mMethX, mInW, mCallXD, exOb_w, exOb2_w, exObD_w, exObD2_w, exObj_w, exObj0_w, exObjC_w, oIsNTy_w, mLcnt, eqD_ii, mJoin, oTupOf_w, oIsBl_w, cCalm])
    refine ⟨0, d, rfl, by omega, by omega, fun b b0 b1 => ⟨8, rfl, by decide, fun r r0 r1 => ?_⟩⟩
    have lt : ∃ x : Int, atI [T.int 0, T.int 1, T.int 1, T.int 1, T.int 2, T.int 2, T.int 2, T.int 2] r = some (.int x) ∧ 0 ≤ x ∧ x ≤ 2 := by
      rcases (by omega : r = 0 ∨ r = 1 ∨ r = 2 ∨ r = 3 ∨ r = 4 ∨ r = 5 ∨ r = 6 ∨ r = 7) with rfl | rfl | rfl | rfl | rfl | rfl | rfl | rfl
      · exact ⟨0, rfl, by decide, by decide⟩
      · exact ⟨1, rfl, by decide, by decide⟩
      · exact ⟨1, rfl, by decide, by decide⟩
      · exact ⟨1, rfl, by decide, by decide⟩
      · exact ⟨2, rfl, by decide, by decide⟩
      · exact ⟨2, rfl, by decide, by decide⟩
      · exact ⟨2, rfl, by decide, by decide⟩
      · exact ⟨2, rfl, by decide, by decide⟩
    obtain ⟨x, ex, x0, x1⟩ := lt
    have i1 : ∀ {α : Type} {x y z t : α}, atI [x, y, z, t] 1 = some y := rfl
    have xb : 0 ≤ x * b := Int.mul_nonneg x0 b0
    have qd : (-x * b) / d ≤ 0 := by
      have e := Int.emod_add_mul_ediv (-x * b) d
      have r0 := Int.emod_nonneg (-x * b) (show d ≠ 0 by omega)
      rw [Int.neg_mul] at e r0 ⊢
      generalize -(x * b) / d = q at *
      by_cases z : q ≤ 0
      · exact z
      · have := Int.mul_le_mul_of_nonneg_left (a := 1) (b := q) (c := d) (by omega) (by omega)
        omega
    (try simp only [mVar, mC, mOp, mUn, mNil, mCons, mTup, mLst, mCall, mCallX, mCallKX, mCB, mTest, mAnd, mOr, mNot, mYes, mAndV, mOrV, mNotV, mIf, mIsN, mNotN, mChain, mSeq, mNext, mBrk, mCnt, mRet, mRetN, mIfS, mDrop, mAsg, mOwn, mLstO, mListC, mLcO, oCatO, mShr, mApp, mPutI, mFrz, frz_w, mFor, mPar, mAug, mRaise, mTry, tryM, mKind, mLc, mList, mTupl, mListOwn, mRng1, mRng2, mEnum, mZip, mRev, mgName, mLenV, mIxV, mNoPart, mPart, mSl, wipeE, lcTurn, startE, oI_w, oB_w, oIC_w, oU_w, isB_w, oEq_w, oNe_w, exS_w, oIx_w, items_l, items_t, oLen_w, oAbs_w, oInt_i, oInt_b, oGcd_w, oMax_w, oMax3_w, oMin_w, oDivmod_w, oStr_w, oType_w, oIs1_w, oIs2_w, oIsTy_w, oCat_w, oIsN_w, oNotN_w, exD_w, exO_w, exD2_w, exO2_w, exL_w, exT_w, exI_w, ex1_w, ex1i_w, mSeqV_w, exX_w, seqOf_o, seqOf_d, mgCons_w, mgNil_w, mgTup_w, exPar_w, listC_w, putI_w, ixV_w, rng1_w, rng2_w, lcGo_n, lcGo_c, forGo_n, forGo_c, scEq_i, scEq_b, scEq_s, scEq_n, tyT, isNon, k_ii, k_ib, k_is, k_il, k_it, k_bi, k_bb, k_bs, k_bl, k_bt, k_ni, k_nb, k_ns, k_nl, k_nt, k_si, k_sb, k_ss, k_sl, k_st, k_li, k_lb, k_ls, k_ll, k_lt, k_ti, k_tb, k_ts, k_tl, k_tt, List.map_cons, List.map_nil, List.length_cons, List.length_nil, List.replicate, List.cons_append, List.nil_append, List.append_nil, List.getElem?_cons_zero, List.getElem?_cons_succ, List.set_cons_zero, List.set_cons_succ, Nat.sub_self, Nat.reduceAdd, Nat.reduceSub, List.replicate_zero, decide_eq_true_eq, Bool.true_eq_false, Bool.false_eq_true, if_true, if_false, reduceIte, Bool.not_eq_true', decide_eq_false_iff_not, Bool.not_true, Bool.not_false, exists_eq_left', true_and, and_true, Option.some.injEq, reduceCtorEq, decide_true, decide_false, not_true_eq_false, not_false_eq_true, Nat.reduceLT, Bool.or_false, Bool.or_true, Bool.false_or, Bool.true_or, Bool.and_true, Bool.true_and, Bool.and_false, Bool.false_and, true_implies, mFld, mFldS, mFldO, mProp, mMeth, mMethX, mInW, mCallXD, exOb_w, exOb2_w, exObD_w, exObD2_w, exObj_w, exObj0_w, exObjC_w, oIsNTy_w, mLcnt, eqD_ii, mJoin, oTupOf_w, oIsBl_w, cCalm, ex, i1])
    refine ⟨Or.inl ⟨by omega, by omega⟩, wide_div (b := 20) (by omega) (by omega) (by decide) (by decide), 3, rfl, by decide, fun v v0 v1 => ?_⟩
    (try simp only [mVar, mC, mOp, mUn, mNil, mCons, mTup, mLst, mCall, mCallX, mCallKX, mCB, mTest, mAnd, mOr, mNot, mYes, mAndV, mOrV, mNotV, mIf, mIsN, mNotN, mChain, mSeq, mNext, mBrk, mCnt, mRet, mRetN, mIfS, mDrop, mAsg, mOwn, mLstO, mListC, mLcO, oCatO, mShr, mApp, mPutI, mFrz, frz_w, mFor, mPar, mAug, mRaise, mTry, tryM, mKind, mLc, mList, mTupl, mListOwn, mRng1, mRng2, mEnum, mZip, mRev, mgName, mLenV, mIxV, mNoPart, mPart, mSl, wipeE, lcTurn, startE, oI_w, oB_w, oIC_w, oU_w, isB_w, oEq_w, oNe_w, exS_w, oIx_w, items_l, items_t, oLen_w, oAbs_w, oInt_i, oInt_b, oGcd_w, oMax_w, oMax3_w, oMin_w, oDivmod_w, oStr_w, oType_w, oIs1_w, oIs2_w, oIsTy_w, oCat_w, oIsN_w, oNotN_w, exD_w, exO_w, exD2_w, exO2_w, exL_w, exT_w, exI_w, ex1_w, ex1i_w, mSeqV_w, exX_w, seqOf_o, seqOf_d, mgCons_w, mgNil_w, mgTup_w, exPar_w, listC_w, putI_w, ixV_w, rng1_w, rng2_w, lcGo_n, lcGo_c, forGo_n, forGo_c, scEq_i, scEq_b, scEq_s, scEq_n, tyT, isNon, k_ii, k_ib, k_is, k_il, k_it, k_bi, k_bb, k_bs, k_bl, k_bt, k_ni, k_nb, k_ns, k_nl, k_nt, k_si, k_sb, k_ss, k_sl, k_st, k_li, k_lb, k_ls, k_ll, k_lt, k_ti, k_tb, k_ts, k_tl, k_tt, List.map_cons, List.map_nil, List.length_cons, List.length_nil, List.replicate, List.cons_append, List.nil_append, List.append_nil, List.getElem?_cons_zero, List.getElem?_cons_succ, List.set_cons_zero, List.set_cons_succ, Nat.sub_self, Nat.reduceAdd, Nat.reduceSub, List.replicate_zero, decide_eq_true_eq, Bool.true_eq_false, Bool.false_eq_true, if_true, if_false, reduceIte, Bool.not_eq_true', decide_eq_false_iff_not, Bool.not_true, Bool.not_false, exists_eq_left', true_and, and_true, Option.some.injEq, reduceCtorEq, decide_true, decide_false, not_true_eq_false, not_false_eq_true, Nat.reduceLT, Bool.or_false, Bool.or_true, Bool.false_or, Bool.true_or, Bool.and_true, Bool.true_and, Bool.and_false, Bool.false_and, true_implies, mFld, mFldS, mFldO, mProp, mMeth, mMethX, mInW, mCallXD, exOb_w, exOb2_w, exObD_w, exObD2_w, exObj_w, exObj0_w, exObjC_w, oIsNTy_w, mLcnt, eqD_ii, mJoin, oTupOf_w, oIsBl_w, cCalm, i1])
    refine ⟨wide_div (b := 20) (by decide) (by decide) (by decide) (by decide), ?_⟩
    have v2 : 0 ≤ v / 2 ∧ v / 2 ≤ 1 := by omega
    generalize v / 2 = u at *
    have alt : k (.tup [.int 1, .int (max 1 (1 + b)), .int b, .int d]) := hk _ _ _ _ ⟨by decide, by decide, by omega, by omega, b0, by omega, d0, by omega⟩ (fit_one b0 d0 b1)
    refine ite2 (fun _ => alt) (fun z => ?_)
    refine ⟨x, _, b, d, rfl, ⟨x0, by omega, by omega, by omega, b0, by omega, d0, by omega⟩, fun y y0 y1 => ?_⟩
    (try simp only [mVar, mC, mOp, mUn, mNil, mCons, mTup, mLst, mCall, mCallX, mCallKX, mCB, mTest, mAnd, mOr, mNot, mYes, mAndV, mOrV, mNotV, mIf, mIsN, mNotN, mChain, mSeq, mNext, mBrk, mCnt, mRet, mRetN, mIfS, mDrop, mAsg, mOwn, mLstO, mListC, mLcO, oCatO, mShr, mApp, mPutI, mFrz, frz_w, mFor, mPar, mAug, mRaise, mTry, tryM, mKind, mLc, mList, mTupl, mListOwn, mRng1, mRng2, mEnum, mZip, mRev, mgName, mLenV, mIxV, mNoPart, mPart, mSl, wipeE, lcTurn, startE, oI_w, oB_w, oIC_w, oU_w, isB_w, oEq_w, oNe_w, exS_w, oIx_w, items_l, items_t, oLen_w, oAbs_w, oInt_i, oInt_b, oGcd_w, oMax_w, oMax3_w, oMin_w, oDivmod_w, oStr_w, oType_w, oIs1_w, oIs2_w, oIsTy_w, oCat_w, oIsN_w, oNotN_w, exD_w, exO_w, exD2_w, exO2_w, exL_w, exT_w, exI_w, ex1_w, ex1i_w, mSeqV_w, exX_w, seqOf_o, seqOf_d, mgCons_w, mgNil_w, mgTup_w, exPar_w, listC_w, putI_w, ixV_w, rng1_w, rng2_w, lcGo_n, lcGo_c, forGo_n, forGo_c, scEq_i, scEq_b, scEq_s, scEq_n, tyT, isNon, k_ii, k_ib, k_is, k_il, k_it, k_bi, k_bb, k_bs, k_bl, k_bt, k_ni, k_nb, k_ns, k_nl, k_nt, k_si, k_sb, k_ss, k_sl, k_st, k_li, k_lb, k_ls, k_ll, k_lt, k_ti, k_tb, k_ts, k_tl, k_tt, List.map_cons, List.map_nil, List.length_cons, List.length_nil, List.replicate, List.cons_append, List.nil_append, List.append_nil, List.getElem?_cons_zero, List.getElem?_cons_succ, List.set_cons_zero, List.set_cons_succ, Nat.sub_self, Nat.reduceAdd, Nat.reduceSub, List.replicate_zero, decide_eq_true_eq, Bool.true_eq_false, Bool.false_eq_true, if_true, if_false, reduceIte, Bool.not_eq_true', decide_eq_false_iff_not, Bool.not_true, Bool.not_false, exists_eq_left', true_and, and_true, Option.some.injEq, reduceCtorEq, decide_true, decide_false, not_true_eq_false, not_false_eq_true, Nat.reduceLT, Bool.or_false, Bool.or_true, Bool.false_or, Bool.true_or, Bool.and_true, Bool.true_and, Bool.and_false, Bool.false_and, true_implies, mFld, mFldS, mFldO, mProp, mMeth, mMethX, mInW, mCallXD, exOb_w, exOb2_w, exObD_w, exObD2_w, exObj_w, exObj0_w, exObjC_w, oIsNTy_w, mLcnt, eqD_ii, mJoin, oTupOf_w, oIsBl_w, cCalm])
    refine ⟨Or.inr ⟨by omega, by omega⟩, ite2 (fun _ => alt) (fun _ => hk _ _ _ _ ⟨x0, by omega, by omega, by omega, b0, by omega, d0, by omega⟩ (fit_of b1 (ceil_le d0 (by omega))))⟩
end
end Mt
namespace Mt
open PySem PySem.Spec PyProof.Rows L2 L2H
section
variable {P : Program} {w : World} {K : PySem.W.Frag} {mg : Str → Option Value} {base : Heap} {f : Addr} {fd : FuncData} {A : Ad} {tk : Nat → Tok} {aBurstRule : Addr}
theorem ok_law_unfit (F : Fun K "_law_unfit" "_law_unfit" s_law_unfit f fd) (Tx : Txt K mg A tk aBurstRule) (C_law_edge : Cal P w K mg base "_law_edge" 3 ["store", "low", "high"] (SpU A 3 c_law_edge)) (C_law_small : Cal P w K mg base "_law_small" 4 ["store", "low", "usual", "high"] (SpU A 4 c_law_small)) :
    FnOk P w K mg base CX0 5 f fd ["store"] (SpU A 1 c_law_unfit) := by
  refine F.ok sc_law_unfit (fun vs H Q E h => h.len) (fun cdv Ar outer s H vs Q E hr h => ?_)
  obtain ⟨st, P0, ds, k, XA, h1, h2, h3, hc, h5, h6⟩ := h
  refine ⟨_, (pss_cons (ps_set (i := 1) sc_law_unfit.nd rfl (.inl rfl) (p_call C_law_small hr (pa_cons (pv 0) (pa_cons pe_int (pa_cons pe_int (pa_cons pe_int pa_nil)))) (by omega)))
      (pss_cons (ps_set (i := 2) sc_law_unfit.nd rfl (.inl rfl) (p_call C_law_small hr (pa_cons (pv 0) (pa_cons pe_int (pa_cons pe_int (pa_cons pe_int pa_nil)))) (by omega)))
      (pss_cons (ps_set (i := 3) sc_law_unfit.nd rfl (.inl rfl) (p_call C_law_small hr (pa_cons (pv 0) (pa_cons pe_int (pa_cons pe_int (pa_cons pe_int pa_nil)))) (by omega)))
      (pss_cons (ps_set (i := 4) sc_law_unfit.nd rfl (.inl rfl) pe_int)
      (pss_cons (ps_if (pt_cmpR op_le (pv 2) (pv 3) (nomark _)) (pss_one (ps_set (i := 4) sc_law_unfit.nd rfl (.inl rfl) (pe_callB (call_min2H rfl) (by rfl) Tx.m_min (by decide +kernel) (pa_cons pe_int (pa_cons (pe_op op_fdivW (pe_op op_sub (pe_op op_mul (pv 1) (pe_op op_add (pv 3) (pv 2))) pe_int) (pv 3)) pa_nil))))) pss_nil)
      (pss_one (ps_ret (pe_tup (pa_cons (pv 1) (pa_cons (p_call C_law_edge hr (pa_cons (pv 0) (pa_cons (pv 1) (pa_cons (pv 4) pa_nil))) (by omega)) (pa_cons (pv 2) (pa_cons (pv 3) pa_nil)))))))))))), ?_⟩
  refine run0 (A := A) (ms := ?ms) (XA := XA) h1 h2 h5 ?r ?u
  case r => exact (rs_seq (rs_asg (re_call (ra_cons re_var (ra_cons re_int (ra_cons re_int (ra_cons re_int ra_nil))))) rg_name)
      (rs_seq (rs_asg (re_call (ra_cons re_var (ra_cons re_int (ra_cons re_int (ra_cons re_int ra_nil))))) rg_name)
      (rs_seq (rs_asg (re_call (ra_cons re_var (ra_cons re_int (ra_cons re_int (ra_cons re_int ra_nil))))) rg_name)
      (rs_seq (rs_asg re_int rg_name)
      (rs_seq (rs_if (rt_test (re_op ro_bool re_var re_var)) (rs_asg (re_cb rcb_min2 (ra_cons re_int (ra_cons (re_op ro_intC (re_op ro_int (re_op ro_intC re_var (re_op ro_int re_var re_var)) re_int) re_var) ra_nil))) rg_name) rs_next)
      (rs_ret (re_tup (ra_cons re_var (ra_cons (re_call (ra_cons re_var (ra_cons re_var (ra_cons re_var ra_nil)))) (ra_cons re_var (ra_cons re_var ra_nil)))))))))))
  case u =>
    clear h1 h2 h5 h6 hr
    obtain ⟨rfl, hk⟩ := hc
    (try simp only [mVar, mC, mOp, mUn, mNil, mCons, mTup, mLst, mCall, mCallX, mCallKX, mCB, mTest, mAnd, mOr, mNot, mYes, mAndV, mOrV, mNotV, mIf, mIsN, mNotN, mChain, mSeq, mNext, mBrk, mCnt, mRet, mRetN, mIfS, mDrop, mAsg, mOwn, mLstO, mListC, mLcO, oCatO, mShr, mApp, mPutI, mFrz, frz_w, mFor, mPar, mAug, mRaise, mTry, tryM, mKind, mLc, mList, mTupl, mListOwn, mRng1, mRng2, mEnum, mZip, mRev, mgName, mLenV, mIxV, mNoPart, mPart, mSl, wipeE, lcTurn, startE, oI_w, oB_w, oIC_w, oU_w, isB_w, oEq_w, oNe_w, exS_w, oIx_w, items_l, items_t, oLen_w, oAbs_w, oInt_i, oInt_b, oGcd_w, oMax_w, oMax3_w, oMin_w, oDivmod_w, oStr_w, oType_w, oIs1_w, oIs2_w, oIsTy_w, oCat_w, oIsN_w, oNotN_w, exD_w, exO_w, exD2_w, exO2_w, exL_w, exT_w, exI_w, ex1_w, ex1i_w, mSeqV_w, exX_w, seqOf_o, seqOf_d, mgCons_w, mgNil_w, mgTup_w, exPar_w, listC_w, putI_w, ixV_w, rng1_w, rng2_w, lcGo_n, lcGo_c, forGo_n, forGo_c, scEq_i, scEq_b, scEq_s, scEq_n, tyT, isNon, k_ii, k_ib, k_is, k_il, k_it, k_bi, k_bb, k_bs, k_bl, k_bt, k_ni, k_nb, k_ns, k_nl, k_nt, k_si, k_sb, k_ss, k_sl, k_st, k_li, k_lb, k_ls, k_ll, k_lt, k_ti, k_tb, k_ts, k_tl, k_tt, List.map_cons, List.map_nil, List.length_cons, List.length_nil, List.replicate, List.cons_append, List.nil_append, List.append_nil, List.getElem?_cons_zero, List.getElem?_cons_succ, List.set_cons_zero, List.set_cons_succ, Nat.sub_self, Nat.reduceAdd, Nat.reduceSub, List.replicate_zero, decide_eq_true_eq, Bool.true_eq_false, Bool.false_eq_true, if_true, if_false, reduceIte, Bool.not_eq_true', decide_eq_false_iff_not, Bool.not_true, Bool.not_false, exists_eq_left', true_and, and_true, Option.some.injEq, reduceCtorEq, decide_true, decide_false, not_true_eq_false, not_false_eq_true, Nat.reduceLT, Bool.or_false, Bool.or_true, Bool.false_or, Bool.true_or, Bool.and_true, Bool.true_and, Bool.and_false, Bool.false_and, true_implies, mFld, mFldS, mFldO, mProp, mMeth, mMethX, mInW, mCallXD, exOb_w, exOb2_w, exObD_w, exObD2_w, exObj_w, exObj0_w, exObjC_w, oIsNTy_w, mLcnt, eqD_ii, mJoin, oTupOf_w, oIsBl_w, cCalm])
    refine ⟨1, 2, 8, rfl, by omega, by omega, by omega, by omega, fun l l0 l1 => ?_⟩
    refine ⟨1, 2, 8, rfl, by omega, by omega, by omega, by omega, fun b b0 b1 => ?_⟩
    refine ⟨1, 3, 6, rfl, by omega, by omega, by omega, by omega, fun d d0 d1 => ?_⟩
    (try simp only [mVar, mC, mOp, mUn, mNil, mCons, mTup, mLst, mCall, mCallX, mCallKX, mCB, mTest, mAnd, mOr, mNot, mYes, mAndV, mOrV, mNotV, mIf, mIsN, mNotN, mChain, mSeq, mNext, mBrk, mCnt, mRet, mRetN, mIfS, mDrop, mAsg, mOwn, mLstO, mListC, mLcO, oCatO, mShr, mApp, mPutI, mFrz, frz_w, mFor, mPar, mAug, mRaise, mTry, tryM, mKind, mLc, mList, mTupl, mListOwn, mRng1, mRng2, mEnum, mZip, mRev, mgName, mLenV, mIxV, mNoPart, mPart, mSl, wipeE, lcTurn, startE, oI_w, oB_w, oIC_w, oU_w, isB_w, oEq_w, oNe_w, exS_w, oIx_w, items_l, items_t, oLen_w, oAbs_w, oInt_i, oInt_b, oGcd_w, oMax_w, oMax3_w, oMin_w, oDivmod_w, oStr_w, oType_w, oIs1_w, oIs2_w, oIsTy_w, oCat_w, oIsN_w, oNotN_w, exD_w, exO_w, exD2_w, exO2_w, exL_w, exT_w, exI_w, ex1_w, ex1i_w, mSeqV_w, exX_w, seqOf_o, seqOf_d, mgCons_w, mgNil_w, mgTup_w, exPar_w, listC_w, putI_w, ixV_w, rng1_w, rng2_w, lcGo_n, lcGo_c, forGo_n, forGo_c, scEq_i, scEq_b, scEq_s, scEq_n, tyT, isNon, k_ii, k_ib, k_is, k_il, k_it, k_bi, k_bb, k_bs, k_bl, k_bt, k_ni, k_nb, k_ns, k_nl, k_nt, k_si, k_sb, k_ss, k_sl, k_st, k_li, k_lb, k_ls, k_ll, k_lt, k_ti, k_tb, k_ts, k_tl, k_tt, List.map_cons, List.map_nil, List.length_cons, List.length_nil, List.replicate, List.cons_append, List.nil_append, List.append_nil, List.getElem?_cons_zero, List.getElem?_cons_succ, List.set_cons_zero, List.set_cons_succ, Nat.sub_self, Nat.reduceAdd, Nat.reduceSub, List.replicate_zero, decide_eq_true_eq, Bool.true_eq_false, Bool.false_eq_true, if_true, if_false, reduceIte, Bool.not_eq_true', decide_eq_false_iff_not, Bool.not_true, Bool.not_false, exists_eq_left', true_and, and_true, Option.some.injEq, reduceCtorEq, decide_true, decide_false, not_true_eq_false, not_false_eq_true, Nat.reduceLT, Bool.or_false, Bool.or_true, Bool.false_or, Bool.true_or, Bool.and_true, Bool.true_and, Bool.and_false, Bool.false_and, true_implies, mFld, mFldS, mFldO, mProp, mMeth, mMethX, mInW, mCallXD, exOb_w, exOb2_w, exObD_w, exObD2_w, exObj_w, exObj0_w, exObjC_w, oIsNTy_w, mLcnt, eqD_ii, mJoin, oTupOf_w, oIsBl_w, cCalm])
    have fin : ∀ hi : Int, l ≤ hi → hi ≤ 8 → (b ≤ d → hi ≤ (l * (d + b) - 1) / d) → c_law_edge [.sto, .int l, .int hi] (fun d_1 => k (.tup [.int l, d_1, .int b, .int d])) fun _ => False := fun hi h1 h2 h3 => ⟨l, hi, rfl, h1, by omega, fun w w0 w1 => hk l w b d ⟨by omega, l1, by omega, by omega, by omega, b1, d0, d1⟩ l0 b0 (unfit_of l0 fun z => by
      have := (Int.le_ediv_iff_mul_le (show (0 : Int) < d by omega)).mp (Int.le_trans w1 (h3 z))
      omega)⟩
    refine ite2 (fun z => ?_) (fun z => fin 8 l1 (by omega) fun y => absurd y z)
    have lb : 1 ≤ l * b := by
      have := Int.mul_le_mul (a := 1) (b := 1) (c := l) (d := b) l0 b0 (by omega) (by omega)
      omega
    have h3 : l ≤ (l * (d + b) - 1) / d := (Int.le_ediv_iff_mul_le (by omega)).mpr (by rw [Int.mul_add]; omega)
    refine ⟨Or.inl ⟨by omega, by omega⟩, wide_div (b := 20) (by omega) (by omega) (by decide) (by decide), fin _ (by omega) (by omega) (fun _ => by omega)⟩
end
end Mt
namespace Mt
open PySem PySem.Spec PyProof.Rows L2 L2H
section
variable {P : Program} {w : World} {K : PySem.W.Frag} {mg : Str → Option Value} {base : Heap} {f : Addr} {fd : FuncData} {A : Ad} {tk : Nat → Tok} {aBurstRule : Addr}
theorem ok_law_losses (F : Fun K "_law_losses" "_law_losses" s_law_losses f fd) (Tx : Txt K mg A tk aBurstRule) (C_law_take : Cal P w K mg base "_law_take" 2 ["store", "many"] (SpU A 2 c_law_take)) :
    FnOk P w K mg base CX0 3 f fd ["store", "burst", "gap", "beats"] (SpU A 4 c_law_losses) := by
  refine F.ok sc_law_losses (fun vs H Q E h => h.len) (fun cdv Ar outer s H vs Q E hr h => ?_)
  obtain ⟨st, P0, ds, k, XA, h1, h2, h3, hc, h5, h6⟩ := h
  refine ⟨_, (pss_cons (ps_set (i := 4) sc_law_losses.nd rfl (.inl rfl) (pe_ix ix_H (pe_lst (pa_cons pe_int (pa_cons pe_int (pa_cons pe_int (pa_cons pe_int (pa_cons pe_int pa_nil)))))) (p_call C_law_take hr (pa_cons (pv 0) (pa_cons pe_int pa_nil)) (by omega)) (fun _ _ => rfl)))
      (pss_cons (ps_set (i := 5) sc_law_losses.nd rfl (.inl rfl) (pe_lst pa_nil))
      (pss_cons (ps_set (i := 6) sc_law_losses.nd rfl (.inl rfl) pe_int)
      (pss_cons (ps_set (i := 7) sc_law_losses.nd rfl (.inl rfl) (pv 2))
      (pss_cons (ps_for PassesOwn.never rfl (pi_range1 (by rfl) Tx.m_range (pa_cons (pv 3) pa_nil)) (pg_name (i := 8) sc_law_losses.nd rfl (.inl rfl)) (pss_cons (ps_set (i := 9) sc_law_losses.nd rfl (.inl rfl) (pe_or (pe_chain op_lt op_lt pe_int (pv 6) (pv 1)) (pe_one (pe_and (pe_cmpR op_eq (pv 6) pe_int (nomark _)) (pe_and (pe_cmpR op_gt (pv 1) pe_int (nomark _)) (pe_one (pe_cmpR op_ge (pv 7) (pv 2) (nomark _))))))))
      (pss_one (ps_if (PW.pt (pw_and (pt_val (pv 9)) (pw_and1 (pt_cmpR op_eq (p_call C_law_take hr (pa_cons (pv 0) (pa_cons (pv 4) pa_nil)) (by omega)) pe_int (nomark _))))) (pss_cons (ps_expr (pe_bm PySem.F.plainAttrs_list PySem.F.slot_list_append PySem.F.type_list_append mt_append (pv 5) (pa_cons pe_int pa_nil)))
      (pss_cons (ps_set (i := 6) sc_law_losses.nd rfl (.inl rfl) (pe_op op_add (pv 6) pe_int))
      (pss_one (ps_set (i := 7) sc_law_losses.nd rfl (.inl rfl) pe_int)))) (pss_cons (ps_expr (pe_bm PySem.F.plainAttrs_list PySem.F.slot_list_append PySem.F.type_list_append mt_append (pv 5) (pa_cons pe_int pa_nil)))
      (pss_cons (ps_set (i := 6) sc_law_losses.nd rfl (.inl rfl) pe_int)
      (pss_one (ps_set (i := 7) sc_law_losses.nd rfl (.inl rfl) (pe_op op_add (pv 7) pe_int)))))))))
      (pss_one (ps_ret (pv 5)))))))), ?_⟩
  refine run0 (A := A) (ms := ?ms) (XA := XA) h1 h2 h5 ?r ?u
  case r => exact (rs_seq (rs_asg (re_op ro_ix (re_lst (ra_cons re_int (ra_cons re_int (ra_cons re_int (ra_cons re_int (ra_cons re_int ra_nil)))))) (re_call (ra_cons re_var (ra_cons re_int ra_nil)))) rg_name)
      (rs_seq (rs_own (row_lst ra_nil))
      (rs_seq (rs_asg re_int rg_name)
      (rs_seq (rs_asg re_var rg_name)
      (rs_seq (rs_for (ri_rng1 (ra_cons re_var ra_nil)) rg_name (rs_seq (rs_asg (re_orV (re_chain ro_bool ro_bool re_int re_var re_var) (re_andV (re_op ro_eq re_var re_int) (re_andV (re_op ro_bool re_var re_int) (re_op ro_bool re_var re_var)))) rg_name)
      (rs_if (rt_and (rt_B re_var) (rt_test (re_op ro_eq (re_call (ra_cons re_var (ra_cons re_var ra_nil))) re_int))) (rs_seq (rs_app re_int)
      (rs_seq (rs_asg (re_op ro_int re_var re_int) rg_name)
      (rs_asg re_int rg_name))) (rs_seq (rs_app re_int)
      (rs_seq (rs_asg re_int rg_name)
      (rs_asg (re_op ro_int re_var re_int) rg_name))))))
      (rs_frz 5 (rs_ret re_var)))))))
  case u =>
    clear h1 h2 h5 h6 hr
    obtain ⟨b, g, n, rfl, n1, hk⟩ := hc
    (try simp only [mVar, mC, mOp, mUn, mNil, mCons, mTup, mLst, mCall, mCallX, mCallKX, mCB, mTest, mAnd, mOr, mNot, mYes, mAndV, mOrV, mNotV, mIf, mIsN, mNotN, mChain, mSeq, mNext, mBrk, mCnt, mRet, mRetN, mIfS, mDrop, mAsg, mOwn, mLstO, mListC, mLcO, oCatO, mShr, mApp, mPutI, mFrz, frz_w, mFor, mPar, mAug, mRaise, mTry, tryM, mKind, mLc, mList, mTupl, mListOwn, mRng1, mRng2, mEnum, mZip, mRev, mgName, mLenV, mIxV, mNoPart, mPart, mSl, wipeE, lcTurn, startE, oI_w, oB_w, oIC_w, oU_w, isB_w, oEq_w, oNe_w, exS_w, oIx_w, items_l, items_t, oLen_w, oAbs_w, oInt_i, oInt_b, oGcd_w, oMax_w, oMax3_w, oMin_w, oDivmod_w, oStr_w, oType_w, oIs1_w, oIs2_w, oIsTy_w, oCat_w, oIsN_w, oNotN_w, exD_w, exO_w, exD2_w, exO2_w, exL_w, exT_w, exI_w, ex1_w, ex1i_w, mSeqV_w, exX_w, seqOf_o, seqOf_d, mgCons_w, mgNil_w, mgTup_w, exPar_w, listC_w, putI_w, ixV_w, rng1_w, rng2_w, lcGo_n, lcGo_c, forGo_n, forGo_c, scEq_i, scEq_b, scEq_s, scEq_n, tyT, isNon, k_ii, k_ib, k_is, k_il, k_it, k_bi, k_bb, k_bs, k_bl, k_bt, k_ni, k_nb, k_ns, k_nl, k_nt, k_si, k_sb, k_ss, k_sl, k_st, k_li, k_lb, k_ls, k_ll, k_lt, k_ti, k_tb, k_ts, k_tl, k_tt, List.map_cons, List.map_nil, List.length_cons, List.length_nil, List.replicate, List.cons_append, List.nil_append, List.append_nil, List.getElem?_cons_zero, List.getElem?_cons_succ, List.set_cons_zero, List.set_cons_succ, Nat.sub_self, Nat.reduceAdd, Nat.reduceSub, List.replicate_zero, decide_eq_true_eq, Bool.true_eq_false, Bool.false_eq_true, if_true, if_false, reduceIte, Bool.not_eq_true', decide_eq_false_iff_not, Bool.not_true, Bool.not_false, exists_eq_left', true_and, and_true, Option.some.injEq, reduceCtorEq, decide_true, decide_false, not_true_eq_false, not_false_eq_true, Nat.reduceLT, Bool.or_false, Bool.or_true, Bool.false_or, Bool.true_or, Bool.and_true, Bool.true_and, Bool.and_false, Bool.false_and, true_implies, mFld, mFldS, mFldO, mProp, mMeth, mMethX, mInW, mCallXD, exOb_w, exOb2_w, exObD_w, exObD2_w, exObj_w, exObj0_w, exObjC_w, oIsNTy_w, mLcnt, eqD_ii, mJoin, oTupOf_w, oIsBl_w, cCalm])
    refine ⟨5, rfl, by decide, fun r r0 r1 => ?_⟩
    have lt : ∃ x : Int, atI [T.int 1, T.int 1, T.int 2, T.int 2, T.int 4] r = some (.int x) ∧ 0 ≤ x ∧ x ≤ 4 := by
      rcases (by omega : r = 0 ∨ r = 1 ∨ r = 2 ∨ r = 3 ∨ r = 4) with rfl | rfl | rfl | rfl | rfl
      · exact ⟨1, rfl, by decide, by decide⟩
      · exact ⟨1, rfl, by decide, by decide⟩
      · exact ⟨2, rfl, by decide, by decide⟩
      · exact ⟨2, rfl, by decide, by decide⟩
      · exact ⟨4, rfl, by decide, by decide⟩
    obtain ⟨x, ex, x0, x1⟩ := lt
    (try simp only [mVar, mC, mOp, mUn, mNil, mCons, mTup, mLst, mCall, mCallX, mCallKX, mCB, mTest, mAnd, mOr, mNot, mYes, mAndV, mOrV, mNotV, mIf, mIsN, mNotN, mChain, mSeq, mNext, mBrk, mCnt, mRet, mRetN, mIfS, mDrop, mAsg, mOwn, mLstO, mListC, mLcO, oCatO, mShr, mApp, mPutI, mFrz, frz_w, mFor, mPar, mAug, mRaise, mTry, tryM, mKind, mLc, mList, mTupl, mListOwn, mRng1, mRng2, mEnum, mZip, mRev, mgName, mLenV, mIxV, mNoPart, mPart, mSl, wipeE, lcTurn, startE, oI_w, oB_w, oIC_w, oU_w, isB_w, oEq_w, oNe_w, exS_w, oIx_w, items_l, items_t, oLen_w, oAbs_w, oInt_i, oInt_b, oGcd_w, oMax_w, oMax3_w, oMin_w, oDivmod_w, oStr_w, oType_w, oIs1_w, oIs2_w, oIsTy_w, oCat_w, oIsN_w, oNotN_w, exD_w, exO_w, exD2_w, exO2_w, exL_w, exT_w, exI_w, ex1_w, ex1i_w, mSeqV_w, exX_w, seqOf_o, seqOf_d, mgCons_w, mgNil_w, mgTup_w, exPar_w, listC_w, putI_w, ixV_w, rng1_w, rng2_w, lcGo_n, lcGo_c, forGo_n, forGo_c, scEq_i, scEq_b, scEq_s, scEq_n, tyT, isNon, k_ii, k_ib, k_is, k_il, k_it, k_bi, k_bb, k_bs, k_bl, k_bt, k_ni, k_nb, k_ns, k_nl, k_nt, k_si, k_sb, k_ss, k_sl, k_st, k_li, k_lb, k_ls, k_ll, k_lt, k_ti, k_tb, k_ts, k_tl, k_tt, List.map_cons, List.map_nil, List.length_cons, List.length_nil, List.replicate, List.cons_append, List.nil_append, List.append_nil, List.getElem?_cons_zero, List.getElem?_cons_succ, List.set_cons_zero, List.set_cons_succ, Nat.sub_self, Nat.reduceAdd, Nat.reduceSub, List.replicate_zero, decide_eq_true_eq, Bool.true_eq_false, Bool.false_eq_true, if_true, if_false, reduceIte, Bool.not_eq_true', decide_eq_false_iff_not, Bool.not_true, Bool.not_false, exists_eq_left', true_and, and_true, Option.some.injEq, reduceCtorEq, decide_true, decide_false, not_true_eq_false, not_false_eq_true, Nat.reduceLT, Bool.or_false, Bool.or_true, Bool.false_or, Bool.true_or, Bool.and_true, Bool.true_and, Bool.and_false, Bool.false_and, true_implies, mFld, mFldS, mFldO, mProp, mMeth, mMethX, mInW, mCallXD, exOb_w, exOb2_w, exObD_w, exObD2_w, exObj_w, exObj0_w, exObjC_w, oIsNTy_w, mLcnt, eqD_ii, mJoin, oTupOf_w, oIsBl_w, cCalm, ex])
    refine ⟨by omega, by omega, fun i env => ∃ (fs : List Bool) (run beh : Int) (z1 z2 : Option Sl), env = [some (Sl.d T.sto), some (Sl.d (T.int b)), some (Sl.d (T.int g)), some (Sl.d (T.int (n : Int))), some (Sl.d (T.int x)), some (Sl.own (fs.map flagT)), some (Sl.d (T.int run)), some (Sl.d (T.int beh)), z1, z2] ∧ fs.length = i, ⟨[], _, _, _, _, rfl, rfl⟩, ?_, ?_⟩
    · rintro i v env hv ⟨fs, run, beh, z1, z2, rfl, hl⟩
      obtain ⟨hi, rfl⟩ := rng_at hv
      have hl2 : (fs.map flagT).length + 1 < 1000000 := by rw [List.length_map]; omega
      have p1 : fs.map flagT ++ [T.int 1] = (fs ++ [true]).map flagT := by rw [List.map_append]; rfl
      have p0 : fs.map flagT ++ [T.int 0] = (fs ++ [false]).map flagT := by rw [List.map_append]; rfl
      have hl1 : (fs ++ [true]).length = i + 1 := by rw [List.length_append, hl]; rfl
      have hl0 : (fs ++ [false]).length = i + 1 := by rw [List.length_append, hl]; rfl
      (try simp only [mVar, mC, mOp, mUn, mNil, mCons, mTup, mLst, mCall, mCallX, mCallKX, mCB, mTest, mAnd, mOr, mNot, mYes, mAndV, mOrV, mNotV, mIf, mIsN, mNotN, mChain, mSeq, mNext, mBrk, mCnt, mRet, mRetN, mIfS, mDrop, mAsg, mOwn, mLstO, mListC, mLcO, oCatO, mShr, mApp, mPutI, mFrz, frz_w, mFor, mPar, mAug, mRaise, mTry, tryM, mKind, mLc, mList, mTupl, mListOwn, mRng1, mRng2, mEnum, mZip, mRev, mgName, mLenV, mIxV, mNoPart, mPart, mSl, wipeE, lcTurn, startE, oI_w, oB_w, oIC_w, oU_w, isB_w, oEq_w, oNe_w, exS_w, oIx_w, items_l, items_t, oLen_w, oAbs_w, oInt_i, oInt_b, oGcd_w, oMax_w, oMax3_w, oMin_w, oDivmod_w, oStr_w, oType_w, oIs1_w, oIs2_w, oIsTy_w, oCat_w, oIsN_w, oNotN_w, exD_w, exO_w, exD2_w, exO2_w, exL_w, exT_w, exI_w, ex1_w, ex1i_w, mSeqV_w, exX_w, seqOf_o, seqOf_d, mgCons_w, mgNil_w, mgTup_w, exPar_w, listC_w, putI_w, ixV_w, rng1_w, rng2_w, lcGo_n, lcGo_c, forGo_n, forGo_c, scEq_i, scEq_b, scEq_s, scEq_n, tyT, isNon, k_ii, k_ib, k_is, k_il, k_it, k_bi, k_bb, k_bs, k_bl, k_bt, k_ni, k_nb, k_ns, k_nl, k_nt, k_si, k_sb, k_ss, k_sl, k_st, k_li, k_lb, k_ls, k_ll, k_lt, k_ti, k_tb, k_ts, k_tl, k_tt, List.map_cons, List.map_nil, List.length_cons, List.length_nil, List.replicate, List.cons_append, List.nil_append, List.append_nil, List.getElem?_cons_zero, List.getElem?_cons_succ, List.set_cons_zero, List.set_cons_succ, Nat.sub_self, Nat.reduceAdd, Nat.reduceSub, List.replicate_zero, decide_eq_true_eq, Bool.true_eq_false, Bool.false_eq_true, if_true, if_false, reduceIte, Bool.not_eq_true', decide_eq_false_iff_not, Bool.not_true, Bool.not_false, exists_eq_left', true_and, and_true, Option.some.injEq, reduceCtorEq, decide_true, decide_false, not_true_eq_false, not_false_eq_true, Nat.reduceLT, Bool.or_false, Bool.or_true, Bool.false_or, Bool.true_or, Bool.and_true, Bool.true_and, Bool.and_false, Bool.false_and, true_implies, mFld, mFldS, mFldO, mProp, mMeth, mMethX, mInW, mCallXD, exOb_w, exOb2_w, exObD_w, exObD2_w, exObj_w, exObj0_w, exObjC_w, oIsNTy_w, mLcnt, eqD_ii, mJoin, oTupOf_w, oIsBl_w, cCalm, hl2, p1, p0])
      refine ite2 (fun _ => ite2 (fun _ => ?_) (fun _ => ite2 (fun _ => ite2 (fun _ => ite2 (fun _ => ?_) (fun _ => ?_)) (fun _ => ?_)) (fun _ => ?_))) (fun _ => ite2 (fun _ => ite2 (fun _ => ite2 (fun _ => ?_) (fun _ => ?_)) (fun _ => ?_)) (fun _ => ?_))
      all_goals first
        | exact ⟨fs ++ [false], _, _, _, _, rfl, hl0⟩
        | (refine ⟨x, rfl, by omega, fun r r0 r1 => ?_⟩
           (try simp only [mVar, mC, mOp, mUn, mNil, mCons, mTup, mLst, mCall, mCallX, mCallKX, mCB, mTest, mAnd, mOr, mNot, mYes, mAndV, mOrV, mNotV, mIf, mIsN, mNotN, mChain, mSeq, mNext, mBrk, mCnt, mRet, mRetN, mIfS, mDrop, mAsg, mOwn, mLstO, mListC, mLcO, oCatO, mShr, mApp, mPutI, mFrz, frz_w, mFor, mPar, mAug, mRaise, mTry, tryM, mKind, mLc, mList, mTupl, mListOwn, mRng1, mRng2, mEnum, mZip, mRev, mgName, mLenV, mIxV, mNoPart, mPart, mSl, wipeE, lcTurn, startE, oI_w, oB_w, oIC_w, oU_w, isB_w, oEq_w, oNe_w, exS_w, oIx_w, items_l, items_t, oLen_w, oAbs_w, oInt_i, oInt_b, oGcd_w, oMax_w, oMax3_w, oMin_w, oDivmod_w, oStr_w, oType_w, oIs1_w, oIs2_w, oIsTy_w, oCat_w, oIsN_w, oNotN_w, exD_w, exO_w, exD2_w, exO2_w, exL_w, exT_w, exI_w, ex1_w, ex1i_w, mSeqV_w, exX_w, seqOf_o, seqOf_d, mgCons_w, mgNil_w, mgTup_w, exPar_w, listC_w, putI_w, ixV_w, rng1_w, rng2_w, lcGo_n, lcGo_c, forGo_n, forGo_c, scEq_i, scEq_b, scEq_s, scEq_n, tyT, isNon, k_ii, k_ib, k_is, k_il, k_it, k_bi, k_bb, k_bs, k_bl, k_bt, k_ni, k_nb, k_ns, k_nl, k_nt, k_si, k_sb, k_ss, k_sl, k_st, k_li, k_lb, k_ls, k_ll, k_lt, k_ti, k_tb, k_ts, k_tl, k_tt, List.map_cons, List.map_nil, List.length_cons, List.length_nil, List.replicate, List.cons_append, List.nil_append, List.append_nil, List.getElem?_cons_zero, List.getElem?_cons_succ, List.set_cons_zero, List.set_cons_succ, Nat.sub_self, Nat.reduceAdd, Nat.reduceSub, List.replicate_zero, decide_eq_true_eq, Bool.true_eq_false, Bool.false_eq_true, if_true, if_false, reduceIte, Bool.not_eq_true', decide_eq_false_iff_not, Bool.not_true, Bool.not_false, exists_eq_left', true_and, and_true, Option.some.injEq, reduceCtorEq, decide_true, decide_false, not_true_eq_false, not_false_eq_true, Nat.reduceLT, Bool.or_false, Bool.or_true, Bool.false_or, Bool.true_or, Bool.and_true, Bool.true_and, Bool.and_false, Bool.false_and, true_implies, mFld, mFldS, mFldO, mProp, mMeth, mMethX, mInW, mCallXD, exOb_w, exOb2_w, exObD_w, exObD2_w, exObj_w, exObj0_w, exObjC_w, oIsNTy_w, mLcnt, eqD_ii, mJoin, oTupOf_w, oIsBl_w, cCalm])
           exact ite2 (fun _ => ⟨fs ++ [true], _, _, _, _, rfl, hl1⟩) (fun _ => ⟨fs ++ [false], _, _, _, _, rfl, hl0⟩))
    · rintro env ⟨fs, run, beh, z1, z2, rfl, hl⟩
      rw [rngT_len, Int.toNat_natCast] at hl
      exact ⟨_, rfl, hk fs hl⟩
end
end Mt
namespace Mt
open PySem PySem.Spec PyProof.Rows L2 L2H
section
variable {P : Program} {w : World} {K : PySem.W.Frag} {mg : Str → Option Value} {base : Heap} {f : Addr} {fd : FuncData} {A : Ad} {tk : Nat → Tok} {aBurstRule : Addr}
theorem ok_law_makeable (F : Fun K "_law_makeable" "_law_makeable" s_law_makeable f fd) (Tx : Txt K mg A tk aBurstRule) (C_law_fit : Cal P w K mg base "_law_fit" 4 ["store", "most"] (SpU A 2 c_law_fit)) (C_law_setting : Cal P w K mg base "_law_setting" 5 ["store"] (SpU A 1 c_law_setting)) (C_law_take : Cal P w K mg base "_law_take" 2 ["store", "many"] (SpU A 2 c_law_take)) :
    FnOk P w K mg base CX0 6 f fd ["store"] (SpU A 1 c_law_makeable) := by
  refine F.ok sc_law_makeable (fun vs H Q E h => h.len) (fun cdv Ar outer s H vs Q E hr h => ?_)
  obtain ⟨st, P0, ds, k, XA, h1, h2, h3, hc, h5, h6⟩ := h
  refine ⟨_, (pss_cons (ps_if (pt_cmpR op_eq (p_call C_law_take hr (pa_cons (pv 0) (pa_cons pe_int pa_nil)) (by omega)) pe_int (nomark _)) (pss_one (ps_ret (p_call C_law_fit hr (pa_cons (pv 0) (pa_cons pe_int pa_nil)) (by omega)))) pss_nil)
      (pss_cons (ps_asg (p_call C_law_setting hr (pa_cons (pv 0) pa_nil) (by omega)) (pg_tup rfl (pgs_cons (pg_name (i := 3) sc_law_makeable.nd rfl (.inl rfl)) (pgs_cons (pg_name (i := 4) sc_law_makeable.nd rfl (.inl rfl)) (pgs_cons (pg_name (i := 1) sc_law_makeable.nd rfl (.inl rfl)) (pgs_cons (pg_name (i := 5) sc_law_makeable.nd rfl (.inl rfl)) pgs_nil))))))
      (pss_cons (ps_set (i := 1) sc_law_makeable.nd rfl (.inl rfl) (pe_callB (call_min2H rfl) (by rfl) Tx.m_min (by decide +kernel) (pa_cons (pv 1) (pa_cons (pv 5) pa_nil))))
      (pss_cons (ps_set (i := 2) sc_law_makeable.nd rfl (.inl rfl) (pe_un un_neg (pe_op op_fdivW (pe_op op_mul (pe_un un_neg (pv 3)) (pv 1)) (pv 5))))
      (pss_cons (ps_if (pt_cmpR op_gt (pe_op op_add (pv 3) (pv 2)) pe_int (nomark _)) (pss_one (ps_ret (pe_tup (pa_cons (pv 3) (pa_cons (pe_callB (call_max2H rfl) (by rfl) Tx.m_max (by decide +kernel) (pa_cons pe_int (pa_cons (pv 3) pa_nil))) (pa_cons pe_int (pa_cons (pv 5) pa_nil))))))) pss_nil)
      (pss_one (ps_ret (pe_tup (pa_cons (pv 3) (pa_cons (pe_callB (call_max2H rfl) (by rfl) Tx.m_max (by decide +kernel) (pa_cons (pv 4) (pa_cons (pe_op op_add (pv 3) (pv 2)) pa_nil))) (pa_cons (pv 1) (pa_cons (pv 5) pa_nil)))))))))))), ?_⟩
  refine run0 (A := A) (ms := ?ms) (XA := XA) h1 h2 h5 ?r ?u
  case r => exact (rs_seq (rs_if (rt_test (re_op ro_eq (re_call (ra_cons re_var (ra_cons re_int ra_nil))) re_int)) (rs_ret (re_call (ra_cons re_var (ra_cons re_int ra_nil)))) rs_next)
      (rs_seq (rs_asg (re_call (ra_cons re_var ra_nil)) (rg_tup (n := 4) (rgs_cons rg_name (rgs_cons rg_name (rgs_cons rg_name (rgs_cons rg_name rgs_nil))))))
      (rs_seq (rs_asg (re_cb rcb_min2 (ra_cons re_var (ra_cons re_var ra_nil))) rg_name)
      (rs_seq (rs_asg (re_un ru_int (re_op ro_intC (re_op ro_intC (re_un ru_int re_var) re_var) re_var)) rg_name)
      (rs_seq (rs_if (rt_test (re_op ro_bool (re_op ro_int re_var re_var) re_int)) (rs_ret (re_tup (ra_cons re_var (ra_cons (re_cb rcb_max2 (ra_cons re_int (ra_cons re_var ra_nil))) (ra_cons re_int (ra_cons re_var ra_nil)))))) rs_next)
      (rs_ret (re_tup (ra_cons re_var (ra_cons (re_cb rcb_max2 (ra_cons re_var (ra_cons (re_op ro_int re_var re_var) ra_nil))) (ra_cons re_var (ra_cons re_var ra_nil)))))))))))
  case u =>
    clear h1 h2 h5 h6 hr
    obtain ⟨rfl, hk⟩ := hc
    (try simp only [mVar, mC, mOp, mUn, mNil, mCons, mTup, mLst, mCall, mCallX, mCallKX, mCB, mTest, mAnd, mOr, mNot, mYes, mAndV, mOrV, mNotV, mIf, mIsN, mNotN, mChain, mSeq, mNext, mBrk, mCnt, mRet, mRetN, mIfS, mDrop, mAsg, mOwn, mLstO, mListC, mLcO, oCatO, mShr, mApp, mPutI, mFrz, frz_w, mFor, mPar, mAug, mRaise, mTry, tryM, mKind, mLc, mList, mTupl, mListOwn, mRng1, mRng2, mEnum, mZip, mRev, mgName, mLenV, mIxV, mNoPart, mPart, mSl, wipeE, lcTurn, startE, oI_w, oB_w, oIC_w, oU_w, isB_w, oEq_w, oNe_w, exS_w, oIx_w, items_l, items_t, oLen_w, oAbs_w, oInt_i, oInt_b, oGcd_w, oMax_w, oMax3_w, oMin_w, oDivmod_w, oStr_w, oType_w, oIs1_w, oIs2_w, oIsTy_w, oCat_w, oIsN_w, oNotN_w, exD_w, exO_w, exD2_w, exO2_w, exL_w, exT_w, exI_w, ex1_w, ex1i_w, mSeqV_w, exX_w, seqOf_o, seqOf_d, mgCons_w, mgNil_w, mgTup_w, exPar_w, listC_w, putI_w, ixV_w, rng1_w, rng2_w, lcGo_n, lcGo_c, forGo_n, forGo_c, scEq_i, scEq_b, scEq_s, scEq_n, tyT, isNon, k_ii, k_ib, k_is, k_il, k_it, k_bi, k_bb, k_bs, k_bl, k_bt, k_ni, k_nb, k_ns, k_nl, k_nt, k_si, k_sb, k_ss, k_sl, k_st, k_li, k_lb, k_ls, k_ll, k_lt, k_ti, k_tb, k_ts, k_tl, k_tt, List.map_cons, List.map_nil, List.length_cons, List.length_nil, List.replicate, List.cons_append, List.nil_append, List.append_nil, List.getElem?_cons_zero, List.getElem?_cons_succ, List.set_cons_zero, List.set_cons_succ, Nat.sub_self, Nat.reduceAdd, Nat.reduceSub, List.replicate_zero, decide_eq_true_eq, Bool.true_eq_false, Bool.false_eq_true, if_true, if_false, reduceIte, Bool.not_eq_true', decide_eq_false_iff_not, Bool.not_true, Bool.not_false, exists_eq_left', true_and, and_true, Option.some.injEq, reduceCtorEq, decide_true, decide_false, not_true_eq_false, not_false_eq_true, Nat.reduceLT, Bool.or_false, Bool.or_true, Bool.false_or, Bool.true_or, Bool.and_true, Bool.true_and, Bool.and_false, Bool.false_and, true_implies, mFld, mFldS, mFldO, mProp, mMeth, mMethX, mInW, mCallXD, exOb_w, exOb2_w, exObD_w, exObD2_w, exObj_w, exObj0_w, exObjC_w, oIsNTy_w, mLcnt, eqD_ii, mJoin, oTupOf_w, oIsBl_w, cCalm])
    refine ⟨2, rfl, by decide, fun r r0 r1 => ?_⟩
    (try simp only [mVar, mC, mOp, mUn, mNil, mCons, mTup, mLst, mCall, mCallX, mCallKX, mCB, mTest, mAnd, mOr, mNot, mYes, mAndV, mOrV, mNotV, mIf, mIsN, mNotN, mChain, mSeq, mNext, mBrk, mCnt, mRet, mRetN, mIfS, mDrop, mAsg, mOwn, mLstO, mListC, mLcO, oCatO, mShr, mApp, mPutI, mFrz, frz_w, mFor, mPar, mAug, mRaise, mTry, tryM, mKind, mLc, mList, mTupl, mListOwn, mRng1, mRng2, mEnum, mZip, mRev, mgName, mLenV, mIxV, mNoPart, mPart, mSl, wipeE, lcTurn, startE, oI_w, oB_w, oIC_w, oU_w, isB_w, oEq_w, oNe_w, exS_w, oIx_w, items_l, items_t, oLen_w, oAbs_w, oInt_i, oInt_b, oGcd_w, oMax_w, oMax3_w, oMin_w, oDivmod_w, oStr_w, oType_w, oIs1_w, oIs2_w, oIsTy_w, oCat_w, oIsN_w, oNotN_w, exD_w, exO_w, exD2_w, exO2_w, exL_w, exT_w, exI_w, ex1_w, ex1i_w, mSeqV_w, exX_w, seqOf_o, seqOf_d, mgCons_w, mgNil_w, mgTup_w, exPar_w, listC_w, putI_w, ixV_w, rng1_w, rng2_w, lcGo_n, lcGo_c, forGo_n, forGo_c, scEq_i, scEq_b, scEq_s, scEq_n, tyT, isNon, k_ii, k_ib, k_is, k_il, k_it, k_bi, k_bb, k_bs, k_bl, k_bt, k_ni, k_nb, k_ns, k_nl, k_nt, k_si, k_sb, k_ss, k_sl, k_st, k_li, k_lb, k_ls, k_ll, k_lt, k_ti, k_tb, k_ts, k_tl, k_tt, List.map_cons, List.map_nil, List.length_cons, List.length_nil, List.replicate, List.cons_append, List.nil_append, List.append_nil, List.getElem?_cons_zero, List.getElem?_cons_succ, List.set_cons_zero, List.set_cons_succ, Nat.sub_self, Nat.reduceAdd, Nat.reduceSub, List.replicate_zero, decide_eq_true_eq, Bool.true_eq_false, Bool.false_eq_true, if_true, if_false, reduceIte, Bool.not_eq_true', decide_eq_false_iff_not, Bool.not_true, Bool.not_false, exists_eq_left', true_and, and_true, Option.some.injEq, reduceCtorEq, decide_true, decide_false, not_true_eq_false, not_false_eq_true, Nat.reduceLT, Bool.or_false, Bool.or_true, Bool.false_or, Bool.true_or, Bool.and_true, Bool.true_and, Bool.and_false, Bool.false_and, true_implies, mFld, mFldS, mFldO, mProp, mMeth, mMethX, mInW, mCallXD, exOb_w, exOb2_w, exObD_w, exObD2_w, exObj_w, exObj0_w, exObjC_w, oIsNTy_w, mLcnt, eqD_ii, mJoin, oTupOf_w, oIsBl_w, cCalm])
    refine ite2 (fun _ => ⟨6, rfl, by decide, by decide, hk⟩) (fun _ => ⟨rfl, fun l w b d ok => ?_⟩)
    have l0 := ok.l0
    have l1 := ok.l1
    have w0 := ok.w0
    have w1 := ok.w1
    have b0 := ok.b0
    have b1 := ok.b1
    have d0 := ok.d0
    have d1 := ok.d1
    (try simp only [mVar, mC, mOp, mUn, mNil, mCons, mTup, mLst, mCall, mCallX, mCallKX, mCB, mTest, mAnd, mOr, mNot, mYes, mAndV, mOrV, mNotV, mIf, mIsN, mNotN, mChain, mSeq, mNext, mBrk, mCnt, mRet, mRetN, mIfS, mDrop, mAsg, mOwn, mLstO, mListC, mLcO, oCatO, mShr, mApp, mPutI, mFrz, frz_w, mFor, mPar, mAug, mRaise, mTry, tryM, mKind, mLc, mList, mTupl, mListOwn, mRng1, mRng2, mEnum, mZip, mRev, mgName, mLenV, mIxV, mNoPart, mPart, mSl, wipeE, lcTurn, startE, oI_w, oB_w, oIC_w, oU_w, isB_w, oEq_w, oNe_w, exS_w, oIx_w, items_l, items_t, oLen_w, oAbs_w, oInt_i, oInt_b, oGcd_w, oMax_w, oMax3_w, oMin_w, oDivmod_w, oStr_w, oType_w, oIs1_w, oIs2_w, oIsTy_w, oCat_w, oIsN_w, oNotN_w, exD_w, exO_w, exD2_w, exO2_w, exL_w, exT_w, exI_w, ex1_w, ex1i_w, mSeqV_w, exX_w, seqOf_o, seqOf_d, mgCons_w, mgNil_w, mgTup_w, exPar_w, listC_w, putI_w, ixV_w, rng1_w, rng2_w, lcGo_n, lcGo_c, forGo_n, forGo_c, scEq_i, scEq_b, scEq_s, scEq_n, tyT, isNon, k_ii, k_ib, k_is, k_il, k_it, k_bi, k_bb, k_bs, k_bl, k_bt, k_ni, k_nb, k_ns, k_nl, k_nt, k_si, k_sb, k_ss, k_sl, k_st, k_li, k_lb, k_ls, k_ll, k_lt, k_ti, k_tb, k_ts, k_tl, k_tt, List.map_cons, List.map_nil, List.length_cons, List.length_nil, List.replicate, List.cons_append, List.nil_append, List.append_nil, List.getElem?_cons_zero, List.getElem?_cons_succ, List.set_cons_zero, List.set_cons_succ, Nat.sub_self, Nat.reduceAdd, Nat.reduceSub, List.replicate_zero, decide_eq_true_eq, Bool.true_eq_false, Bool.false_eq_true, if_true, if_false, reduceIte, Bool.not_eq_true', decide_eq_false_iff_not, Bool.not_true, Bool.not_false, exists_eq_left', true_and, and_true, Option.some.injEq, reduceCtorEq, decide_true, decide_false, not_true_eq_false, not_false_eq_true, Nat.reduceLT, Bool.or_false, Bool.or_true, Bool.false_or, Bool.true_or, Bool.and_true, Bool.true_and, Bool.and_false, Bool.false_and, true_implies, mFld, mFldS, mFldO, mProp, mMeth, mMethX, mInW, mCallXD, exOb_w, exOb2_w, exObD_w, exObD2_w, exObj_w, exObj0_w, exObjC_w, oIsNTy_w, mLcnt, eqD_ii, mJoin, oTupOf_w, oIsBl_w, cCalm])
    have m0 : 0 ≤ min b d := by omega
    have m1 : min b d ≤ 8 := by omega
    have e : -l * min b d = -(l * min b d) := Int.neg_mul _ _
    have p0 : 0 ≤ l * min b d := Int.mul_nonneg l0 m0
    have p1 : l * min b d ≤ 8 * 8 := Int.mul_le_mul l1 m1 m0 (by decide)
    refine ⟨Or.inl ⟨by omega, by omega⟩, wide_div (b := 20) (by omega) (by omega) (by decide) (by decide), ite2 (fun _ => hk _ _ _ _ ⟨l0, l1, by omega, by omega, by decide, by decide, d0, d1⟩ (fit_of (by omega) ?_)) (fun z => hk _ _ _ _ ⟨l0, l1, by omega, by omega, m0, m1, d0, d1⟩ (fit_of (by omega) (ceil_le d0 (by omega))))⟩
    rw [Int.mul_zero]
    exact Int.mul_nonneg (by omega) (by omega)
end
end Mt
namespace Mt
open PySem PySem.Spec PyProof.Rows L2 L2H
section
variable {P : Program} {w : World} {K : PySem.W.Frag} {mg : Str → Option Value} {base : Heap} {f : Addr} {fd : FuncData} {A : Ad} {tk : Nat → Tok} {aBurstRule : Addr}
theorem ok_law_counted (F : Fun K "_law_counted" "_law_counted" s_law_counted f fd) (Tx : Txt K mg A tk aBurstRule)  :
    FnOk P w K mg base CX0 1 f fd ["setting", "pattern"] (SpU A 2 c_law_counted) := by
  refine F.ok sc_law_counted (fun vs H Q E h => h.len) (fun cdv Ar outer s H vs Q E hr h => ?_)
  obtain ⟨st, P0, ds, k, XA, h1, h2, h3, hc, h5, h6⟩ := h
  refine ⟨_, (pss_cons (ps_set (i := 2) sc_law_counted.nd rfl (.inl rfl) (pe_op op_mul (pe_ix ix_H (pv 0) pe_int (fun _ _ => rfl)) (pe_callB (call_max2H rfl) (by rfl) Tx.m_max (by decide +kernel) (pa_cons pe_int (pa_cons (pe_op op_sub (pe_callB call_lenH (by rfl) Tx.m_len (by decide +kernel) (pa_cons (pv 1) pa_nil)) (pe_ix ix_H (pv 0) pe_int (fun _ _ => rfl))) pa_nil)))))
      (pss_one (ps_ret (pe_tup (pa_cons (pv 1) (pa_cons (pv 2) (pa_cons (pe_op op_mul (pe_ix ix_H (pv 0) pe_int (fun _ _ => rfl)) (pe_callB call_lenH (by rfl) Tx.m_len (by decide +kernel) (pa_cons (pe_lc (own := [("k", 3)]) (g := gName 3) rfl sc_law_counted.nd (pi_list (pv 1)) (blkOk_by (N := ["setting", "pattern", "due", "k"]) (sc := defScope s_law_counted) (by decide +kernel)) (fun _ _ _ _ _ => pg_name (i := 3) sc_law_counted.nd rfl (.inl rfl)) (fun _ _ _ _ _ => (pts_one (pt_cmpR op_eq (pv 3) pe_int (nomark _)))) (fun _ _ _ _ _ => (pv 3))) pa_nil))) pa_nil))))))), ?_⟩
  refine run0 (A := A) (ms := ?ms) (XA := XA) h1 h2 h5 ?r ?u
  case r => exact (rs_seq (rs_asg (re_op ro_intC (re_op ro_ix re_var re_int) (re_cb rcb_max2 (ra_cons re_int (ra_cons (re_op ro_int (re_cb rcb_len (ra_cons re_var ra_nil)) (re_op ro_ix re_var re_int)) ra_nil)))) rg_name)
      (rs_ret (re_tup (ra_cons re_var (ra_cons re_var (ra_cons (re_op ro_intC (re_op ro_ix re_var re_int) (re_cb rcb_len (ra_cons (re_lc (vs := [3]) (is := [3]) ric_var rg_name (rt_test (re_op ro_eq re_var re_int)) re_var) ra_nil))) ra_nil))))))
  case u =>
    clear h1 h2 h5 h6 hr
    obtain ⟨l, w, b, d, fs, rfl, ok, hl, hk⟩ := hc
    have i0 : ∀ {α : Type} {x y z t : α}, atI [x, y, z, t] 0 = some x := rfl
    have i1 : ∀ {α : Type} {x y z t : α}, atI [x, y, z, t] 1 = some y := rfl
    have i3 : ∀ {α : Type} {x y z t : α}, atI [x, y, z, t] 3 = some t := rfl
    (try simp only [mVar, mC, mOp, mUn, mNil, mCons, mTup, mLst, mCall, mCallX, mCallKX, mCB, mTest, mAnd, mOr, mNot, mYes, mAndV, mOrV, mNotV, mIf, mIsN, mNotN, mChain, mSeq, mNext, mBrk, mCnt, mRet, mRetN, mIfS, mDrop, mAsg, mOwn, mLstO, mListC, mLcO, oCatO, mShr, mApp, mPutI, mFrz, frz_w, mFor, mPar, mAug, mRaise, mTry, tryM, mKind, mLc, mList, mTupl, mListOwn, mRng1, mRng2, mEnum, mZip, mRev, mgName, mLenV, mIxV, mNoPart, mPart, mSl, wipeE, lcTurn, startE, oI_w, oB_w, oIC_w, oU_w, isB_w, oEq_w, oNe_w, exS_w, oIx_w, items_l, items_t, oLen_w, oAbs_w, oInt_i, oInt_b, oGcd_w, oMax_w, oMax3_w, oMin_w, oDivmod_w, oStr_w, oType_w, oIs1_w, oIs2_w, oIsTy_w, oCat_w, oIsN_w, oNotN_w, exD_w, exO_w, exD2_w, exO2_w, exL_w, exT_w, exI_w, ex1_w, ex1i_w, mSeqV_w, exX_w, seqOf_o, seqOf_d, mgCons_w, mgNil_w, mgTup_w, exPar_w, listC_w, putI_w, ixV_w, rng1_w, rng2_w, lcGo_n, lcGo_c, forGo_n, forGo_c, scEq_i, scEq_b, scEq_s, scEq_n, tyT, isNon, k_ii, k_ib, k_is, k_il, k_it, k_bi, k_bb, k_bs, k_bl, k_bt, k_ni, k_nb, k_ns, k_nl, k_nt, k_si, k_sb, k_ss, k_sl, k_st, k_li, k_lb, k_ls, k_ll, k_lt, k_ti, k_tb, k_ts, k_tl, k_tt, List.map_cons, List.map_nil, List.length_cons, List.length_nil, List.replicate, List.cons_append, List.nil_append, List.append_nil, List.getElem?_cons_zero, List.getElem?_cons_succ, List.set_cons_zero, List.set_cons_succ, Nat.sub_self, Nat.reduceAdd, Nat.reduceSub, List.replicate_zero, decide_eq_true_eq, Bool.true_eq_false, Bool.false_eq_true, if_true, if_false, reduceIte, Bool.not_eq_true', decide_eq_false_iff_not, Bool.not_true, Bool.not_false, exists_eq_left', true_and, and_true, Option.some.injEq, reduceCtorEq, decide_true, decide_false, not_true_eq_false, not_false_eq_true, Nat.reduceLT, Bool.or_false, Bool.or_true, Bool.false_or, Bool.true_or, Bool.and_true, Bool.true_and, Bool.and_false, Bool.false_and, true_implies, mFld, mFldS, mFldO, mProp, mMeth, mMethX, mInW, mCallXD, exOb_w, exOb2_w, exObD_w, exObD2_w, exObj_w, exObj0_w, exObjC_w, oIsNTy_w, mLcnt, eqD_ii, mJoin, oTupOf_w, oIsBl_w, cCalm, i0, i1, i3])
    intro _
    rw [List.length_map]
    refine ⟨Or.inl ⟨by have := ok.l0; omega, by have := ok.l1; omega⟩, _, Or.inr rfl, lc_pure (fun t => if scEq t (.int 0) = some true then some t else none) (fun i x r hx hr => ?_) ?_⟩
    · rw [List.getElem?_map] at hx
      cases hf : fs[i]? with
      | none => rw [hf] at hx; cases hx
      | some f =>
        rw [hf] at hx
        cases hx
        cases f
        · (try simp only [mVar, mC, mOp, mUn, mNil, mCons, mTup, mLst, mCall, mCallX, mCallKX, mCB, mTest, mAnd, mOr, mNot, mYes, mAndV, mOrV, mNotV, mIf, mIsN, mNotN, mChain, mSeq, mNext, mBrk, mCnt, mRet, mRetN, mIfS, mDrop, mAsg, mOwn, mLstO, mListC, mLcO, oCatO, mShr, mApp, mPutI, mFrz, frz_w, mFor, mPar, mAug, mRaise, mTry, tryM, mKind, mLc, mList, mTupl, mListOwn, mRng1, mRng2, mEnum, mZip, mRev, mgName, mLenV, mIxV, mNoPart, mPart, mSl, wipeE, lcTurn, startE, oI_w, oB_w, oIC_w, oU_w, isB_w, oEq_w, oNe_w, exS_w, oIx_w, items_l, items_t, oLen_w, oAbs_w, oInt_i, oInt_b, oGcd_w, oMax_w, oMax3_w, oMin_w, oDivmod_w, oStr_w, oType_w, oIs1_w, oIs2_w, oIsTy_w, oCat_w, oIsN_w, oNotN_w, exD_w, exO_w, exD2_w, exO2_w, exL_w, exT_w, exI_w, ex1_w, ex1i_w, mSeqV_w, exX_w, seqOf_o, seqOf_d, mgCons_w, mgNil_w, mgTup_w, exPar_w, listC_w, putI_w, ixV_w, rng1_w, rng2_w, lcGo_n, lcGo_c, forGo_n, forGo_c, scEq_i, scEq_b, scEq_s, scEq_n, tyT, isNon, k_ii, k_ib, k_is, k_il, k_it, k_bi, k_bb, k_bs, k_bl, k_bt, k_ni, k_nb, k_ns, k_nl, k_nt, k_si, k_sb, k_ss, k_sl, k_st, k_li, k_lb, k_ls, k_ll, k_lt, k_ti, k_tb, k_ts, k_tl, k_tt, List.map_cons, List.map_nil, List.length_cons, List.length_nil, List.replicate, List.cons_append, List.nil_append, List.append_nil, List.getElem?_cons_zero, List.getElem?_cons_succ, List.set_cons_zero, List.set_cons_succ, Nat.sub_self, Nat.reduceAdd, Nat.reduceSub, List.replicate_zero, decide_eq_true_eq, Bool.true_eq_false, Bool.false_eq_true, if_true, if_false, reduceIte, Bool.not_eq_true', decide_eq_false_iff_not, Bool.not_true, Bool.not_false, exists_eq_left', true_and, and_true, Option.some.injEq, reduceCtorEq, decide_true, decide_false, not_true_eq_false, not_false_eq_true, Nat.reduceLT, Bool.or_false, Bool.or_true, Bool.false_or, Bool.true_or, Bool.and_true, Bool.true_and, Bool.and_false, Bool.false_and, true_implies, mFld, mFldS, mFldO, mProp, mMeth, mMethX, mInW, mCallXD, exOb_w, exOb2_w, exObD_w, exObD2_w, exObj_w, exObj0_w, exObjC_w, oIsNTy_w, mLcnt, eqD_ii, mJoin, oTupOf_w, oIsBl_w, cCalm, flagT])
          exact hr
        · (try simp only [mVar, mC, mOp, mUn, mNil, mCons, mTup, mLst, mCall, mCallX, mCallKX, mCB, mTest, mAnd, mOr, mNot, mYes, mAndV, mOrV, mNotV, mIf, mIsN, mNotN, mChain, mSeq, mNext, mBrk, mCnt, mRet, mRetN, mIfS, mDrop, mAsg, mOwn, mLstO, mListC, mLcO, oCatO, mShr, mApp, mPutI, mFrz, frz_w, mFor, mPar, mAug, mRaise, mTry, tryM, mKind, mLc, mList, mTupl, mListOwn, mRng1, mRng2, mEnum, mZip, mRev, mgName, mLenV, mIxV, mNoPart, mPart, mSl, wipeE, lcTurn, startE, oI_w, oB_w, oIC_w, oU_w, isB_w, oEq_w, oNe_w, exS_w, oIx_w, items_l, items_t, oLen_w, oAbs_w, oInt_i, oInt_b, oGcd_w, oMax_w, oMax3_w, oMin_w, oDivmod_w, oStr_w, oType_w, oIs1_w, oIs2_w, oIsTy_w, oCat_w, oIsN_w, oNotN_w, exD_w, exO_w, exD2_w, exO2_w, exL_w, exT_w, exI_w, ex1_w, ex1i_w, mSeqV_w, exX_w, seqOf_o, seqOf_d, mgCons_w, mgNil_w, mgTup_w, exPar_w, listC_w, putI_w, ixV_w, rng1_w, rng2_w, lcGo_n, lcGo_c, forGo_n, forGo_c, scEq_i, scEq_b, scEq_s, scEq_n, tyT, isNon, k_ii, k_ib, k_is, k_il, k_it, k_bi, k_bb, k_bs, k_bl, k_bt, k_ni, k_nb, k_ns, k_nl, k_nt, k_si, k_sb, k_ss, k_sl, k_st, k_li, k_lb, k_ls, k_ll, k_lt, k_ti, k_tb, k_ts, k_tl, k_tt, List.map_cons, List.map_nil, List.length_cons, List.length_nil, List.replicate, List.cons_append, List.nil_append, List.append_nil, List.getElem?_cons_zero, List.getElem?_cons_succ, List.set_cons_zero, List.set_cons_succ, Nat.sub_self, Nat.reduceAdd, Nat.reduceSub, List.replicate_zero, decide_eq_true_eq, Bool.true_eq_false, Bool.false_eq_true, if_true, if_false, reduceIte, Bool.not_eq_true', decide_eq_false_iff_not, Bool.not_true, Bool.not_false, exists_eq_left', true_and, and_true, Option.some.injEq, reduceCtorEq, decide_true, decide_false, not_true_eq_false, not_false_eq_true, Nat.reduceLT, Bool.or_false, Bool.or_true, Bool.false_or, Bool.true_or, Bool.and_true, Bool.true_and, Bool.and_false, Bool.false_and, true_implies, mFld, mFldS, mFldO, mProp, mMeth, mMethX, mInW, mCallXD, exOb_w, exOb2_w, exObD_w, exObD2_w, exObj_w, exObj0_w, exObjC_w, oIsNTy_w, mLcnt, eqD_ii, mJoin, oTupOf_w, oIsBl_w, cCalm, flagT])
          exact hr
    · rw [heard_filter]
      intro _
      exact ⟨Or.inl ⟨by have := ok.w0; omega, by have := ok.w1; omega⟩, hk⟩
end
end Mt
namespace Mt
open PySem PySem.Spec PyProof.Rows L2 L2H
section
variable {P : Program} {w : World} {K : PySem.W.Frag} {mg : Str → Option Value} {base : Heap} {f : Addr} {fd : FuncData} {A : Ad} {tk : Nat → Tok} {aBurstRule : Addr}
theorem ok_law_papers (F : Fun K "_law_papers" "_law_papers" s_law_papers f fd) (Tx : Txt K mg A tk aBurstRule) (C_law_counted : Cal P w K mg base "_law_counted" 1 ["setting", "pattern"] (SpU A 2 c_law_counted)) (C_law_edge : Cal P w K mg base "_law_edge" 3 ["store", "low", "high"] (SpU A 3 c_law_edge)) (C_law_losses : Cal P w K mg base "_law_losses" 3 ["store", "burst", "gap", "beats"] (SpU A 4 c_law_losses)) (C_law_plain : Cal P w K mg base "_law_plain" 9 ["store", "depth"] (SpU A 2 (c_law_plain 3))) (C_law_round : Cal P w K mg base "_law_round" 1 ["lost", "heard", "beats"] (SpU A 3 c_law_round)) (C_law_take : Cal P w K mg base "_law_take" 2 ["store", "many"] (SpU A 2 c_law_take)) :
    FnOk P w K mg base CX0 10 f fd ["store", "setting"] (SpU A 2 c_law_papers) := by
  refine F.ok sc_law_papers (fun vs H Q E h => h.len) (fun cdv Ar outer s H vs Q E hr h => ?_)
  obtain ⟨st, P0, ds, k, XA, h1, h2, h3, hc, h5, h6⟩ := h
  refine ⟨_, (pss_cons (ps_set (i := 2) sc_law_papers.nd rfl (.inl rfl) (p_call C_law_edge hr (pa_cons (pv 0) (pa_cons pe_int (pa_cons pe_int pa_nil))) (by omega)))
      (pss_cons (ps_if (pt_cmpR op_eq (p_call C_law_take hr (pa_cons (pv 0) (pa_cons pe_int pa_nil)) (by omega)) pe_int (nomark _)) (pss_one (ps_set (i := 2) sc_law_papers.nd rfl (.inl rfl) (pe_op op_add pe_int (p_call C_law_take hr (pa_cons (pv 0) (pa_cons pe_int pa_nil)) (by omega))))) pss_nil)
      (pss_cons (ps_set (i := 3) sc_law_papers.nd rfl (.inl rfl) (p_call C_law_losses hr (pa_cons (pv 0) (pa_cons (pe_ix ix_H (pv 1) pe_int (fun _ _ => rfl)) (pa_cons (pe_ix ix_H (pv 1) pe_int (fun _ _ => rfl)) (pa_cons (pv 2) pa_nil)))) (by omega)))
      (pss_cons (ps_setLc (i := 4) (own := [("k", 8)]) (g := gName 8) rfl sc_law_papers.nd rfl rfl (sw_true rfl rfl rfl (by decide +kernel)) (pi_range1 (by rfl) Tx.m_range (pa_cons (p_call C_law_edge hr (pa_cons (pv 0) (pa_cons pe_int (pa_cons pe_int pa_nil))) (by omega)) pa_nil)) (blkOk_by (N := ["store", "setting", "beats", "kept", "loose", "found", "pattern", "right", "k"]) (sc := defScope s_law_papers) (by decide +kernel)) (fun _ _ _ _ _ => pg_name (i := 8) sc_law_papers.nd rfl (.inl rfl)) (fun _ _ _ _ _ => pts_nil) (fun _ _ _ _ _ => (pe_callB (call_min2H rfl) (by rfl) Tx.m_min (by decide +kernel) (pa_cons pe_int (pa_cons (p_call C_law_take hr (pa_cons (pv 0) (pa_cons pe_int pa_nil)) (by omega)) pa_nil)))))
      (pss_cons (ps_set (i := 5) sc_law_papers.nd rfl (.inl rfl) (pe_lst (pa_cons (p_call C_law_plain hr (pa_cons (pv 0) (pa_cons pe_int pa_nil)) (by omega)) pa_nil)))
      (pss_cons (ps_for PassesOwn.never rfl (pi_list (pe_lst (pa_cons (pv 3) (pa_cons (p_call C_law_round hr (pa_cons (pe_ix ix_H (pv 1) pe_int (fun _ _ => rfl)) (pa_cons (pe_ix ix_H (pv 1) pe_int (fun _ _ => rfl)) (pa_cons (pv 2) pa_nil))) (by omega)) (pa_cons (pv 4) pa_nil))))) (pg_name (i := 6) sc_law_papers.nd rfl (.inl rfl)) (pss_cons (ps_set (i := 7) sc_law_papers.nd rfl (.inl rfl) (p_call C_law_counted hr (pa_cons (pv 1) (pa_cons (pv 6) pa_nil)) (by omega)))
      (pss_cons (ps_expr (pe_bm PySem.F.plainAttrs_list PySem.F.slot_list_append PySem.F.type_list_append mt_append (pv 5) (pa_cons (pv 7) pa_nil)))
      (pss_cons (ps_expr (pe_bm PySem.F.plainAttrs_list PySem.F.slot_list_append PySem.F.type_list_append mt_append (pv 5) (pa_cons (pe_tup (pa_cons (pv 6) (pa_cons (pe_op op_add (pe_op op_add (pe_ix ix_H (pv 7) pe_int (fun _ _ => rfl)) pe_int) (p_call C_law_take hr (pa_cons (pv 0) (pa_cons pe_int pa_nil)) (by omega))) (pa_cons (pe_ix ix_H (pv 7) pe_int (fun _ _ => rfl)) pa_nil)))) pa_nil)))
      (pss_cons (ps_expr (pe_bm PySem.F.plainAttrs_list PySem.F.slot_list_append PySem.F.type_list_append mt_append (pv 5) (pa_cons (pe_tup (pa_cons (pv 6) (pa_cons (pe_ix ix_H (pv 7) pe_int (fun _ _ => rfl)) (pa_cons (pe_callB (call_min2H rfl) (by rfl) Tx.m_min (by decide +kernel) (pa_cons (pe_op op_sub (pe_ix ix_H (pv 7) pe_int (fun _ _ => rfl)) pe_int) (pa_cons (pe_ix ix_H (pv 7) pe_int (fun _ _ => rfl)) pa_nil))) pa_nil)))) pa_nil)))
      (pss_one (ps_expr (pe_bm PySem.F.plainAttrs_list PySem.F.slot_list_append PySem.F.type_list_append mt_append (pv 5) (pa_cons (pe_tup (pa_cons (pv 6) (pa_cons (p_call C_law_take hr (pa_cons (pv 0) (pa_cons pe_int pa_nil)) (by omega)) (pa_cons (p_call C_law_take hr (pa_cons (pv 0) (pa_cons pe_int pa_nil)) (by omega)) pa_nil)))) pa_nil)))))))))
      (pss_one (ps_ret (pv 5))))))))), ?_⟩
  refine run0 (A := A) (ms := ?ms) (XA := XA) h1 h2 h5 ?r ?u
  case r => exact (rs_seq (rs_asg (re_call (ra_cons re_var (ra_cons re_int (ra_cons re_int ra_nil)))) rg_name)
      (rs_seq (rs_if (rt_test (re_op ro_eq (re_call (ra_cons re_var (ra_cons re_int ra_nil))) re_int)) (rs_asg (re_op ro_int re_int (re_call (ra_cons re_var (ra_cons re_int ra_nil)))) rg_name) rs_next)
      (rs_seq (rs_asg (re_call (ra_cons re_var (ra_cons (re_op ro_ix re_var re_int) (ra_cons (re_op ro_ix re_var re_int) (ra_cons re_var ra_nil))))) rg_name)
      (rs_seq (rs_asg (re_lc (vs := [8]) (is := [8]) (ric_of (ri_rng1 (ra_cons (re_call (ra_cons re_var (ra_cons re_int (ra_cons re_int ra_nil)))) ra_nil))) rg_name rt_yes (re_cb rcb_min2 (ra_cons re_int (ra_cons (re_call (ra_cons re_var (ra_cons re_int ra_nil))) ra_nil)))) rg_name)
      (rs_seq (rs_own (row_lst (ra_cons (re_call (ra_cons re_var (ra_cons re_int ra_nil))) ra_nil)))
      (rs_seq (rs_for (ri_list (re_lst (ra_cons re_var (ra_cons (re_call (ra_cons (re_op ro_ix re_var re_int) (ra_cons (re_op ro_ix re_var re_int) (ra_cons re_var ra_nil)))) (ra_cons re_var ra_nil))))) rg_name (rs_seq (rs_asg (re_call (ra_cons re_var (ra_cons re_var ra_nil))) rg_name)
      (rs_seq (rs_app re_var)
      (rs_seq (rs_app (re_tup (ra_cons re_var (ra_cons (re_op ro_int (re_op ro_int (re_op ro_ix re_var re_int) re_int) (re_call (ra_cons re_var (ra_cons re_int ra_nil)))) (ra_cons (re_op ro_ix re_var re_int) ra_nil)))))
      (rs_seq (rs_app (re_tup (ra_cons re_var (ra_cons (re_op ro_ix re_var re_int) (ra_cons (re_cb rcb_min2 (ra_cons (re_op ro_int (re_op ro_ix re_var re_int) re_int) (ra_cons (re_op ro_ix re_var re_int) ra_nil))) ra_nil)))))
      (rs_app (re_tup (ra_cons re_var (ra_cons (re_call (ra_cons re_var (ra_cons re_int ra_nil))) (ra_cons (re_call (ra_cons re_var (ra_cons re_int ra_nil))) ra_nil))))))))))
      (rs_frz 5 (rs_ret re_var))))))))
  case u =>
    clear h1 h2 h5 h6 hr
    obtain ⟨l, w, b, d, rfl, ok, hk⟩ := hc
    have i0 : ∀ {α : Type} {x y z t : α}, atI [x, y, z, t] 0 = some x := rfl
    have i1 : ∀ {α : Type} {x y z t : α}, atI [x, y, z, t] 1 = some y := rfl
    have i2 : ∀ {α : Type} {x y z t : α}, atI [x, y, z, t] 2 = some z := rfl
    have i3 : ∀ {α : Type} {x y z t : α}, atI [x, y, z, t] 3 = some t := rfl
    have b0 := ok.b0
    have b1 := ok.b1
    have d0 := ok.d0
    have d1 := ok.d1
    (try simp only [mVar, mC, mOp, mUn, mNil, mCons, mTup, mLst, mCall, mCallX, mCallKX, mCB, mTest, mAnd, mOr, mNot, mYes, mAndV, mOrV, mNotV, mIf, mIsN, mNotN, mChain, mSeq, mNext, mBrk, mCnt, mRet, mRetN, mIfS, mDrop, mAsg, mOwn, mLstO, mListC, mLcO, oCatO, mShr, mApp, mPutI, mFrz, frz_w, mFor, mPar, mAug, mRaise, mTry, tryM, mKind, mLc, mList, mTupl, mListOwn, mRng1, mRng2, mEnum, mZip, mRev, mgName, mLenV, mIxV, mNoPart, mPart, mSl, wipeE, lcTurn, startE, oI_w, oB_w, oIC_w, oU_w, isB_w, oEq_w, oNe_w, exS_w, oIx_w, items_l, items_t, oLen_w, oAbs_w, oInt_i, oInt_b, oGcd_w, oMax_w, oMax3_w, oMin_w, oDivmod_w, oStr_w, oType_w, oIs1_w, oIs2_w, oIsTy_w, oCat_w, oIsN_w, oNotN_w, exD_w, exO_w, exD2_w, exO2_w, exL_w, exT_w, exI_w, ex1_w, ex1i_w, mSeqV_w, exX_w, seqOf_o, seqOf_d, mgCons_w, mgNil_w, mgTup_w, exPar_w, listC_w, putI_w, ixV_w, rng1_w, rng2_w, lcGo_n, lcGo_c, forGo_n, forGo_c, scEq_i, scEq_b, scEq_s, scEq_n, tyT, isNon, k_ii, k_ib, k_is, k_il, k_it, k_bi, k_bb, k_bs, k_bl, k_bt, k_ni, k_nb, k_ns, k_nl, k_nt, k_si, k_sb, k_ss, k_sl, k_st, k_li, k_lb, k_ls, k_ll, k_lt, k_ti, k_tb, k_ts, k_tl, k_tt, List.map_cons, List.map_nil, List.length_cons, List.length_nil, List.replicate, List.cons_append, List.nil_append, List.append_nil, List.getElem?_cons_zero, List.getElem?_cons_succ, List.set_cons_zero, List.set_cons_succ, Nat.sub_self, Nat.reduceAdd, Nat.reduceSub, List.replicate_zero, decide_eq_true_eq, Bool.true_eq_false, Bool.false_eq_true, if_true, if_false, reduceIte, Bool.not_eq_true', decide_eq_false_iff_not, Bool.not_true, Bool.not_false, exists_eq_left', true_and, and_true, Option.some.injEq, reduceCtorEq, decide_true, decide_false, not_true_eq_false, not_false_eq_true, Nat.reduceLT, Bool.or_false, Bool.or_true, Bool.false_or, Bool.true_or, Bool.and_true, Bool.true_and, Bool.and_false, Bool.false_and, true_implies, mFld, mFldS, mFldO, mProp, mMeth, mMethX, mInW, mCallXD, exOb_w, exOb2_w, exObD_w, exObD2_w, exObj_w, exObj0_w, exObjC_w, oIsNTy_w, mLcnt, eqD_ii, mJoin, oTupOf_w, oIsBl_w, cCalm, i0, i1, i2, i3])
    refine ⟨0, 30, rfl, by decide, by decide, fun n n0 n1 => ⟨12, rfl, by decide, fun r r0 r1 => ?_⟩⟩
    (try simp only [mVar, mC, mOp, mUn, mNil, mCons, mTup, mLst, mCall, mCallX, mCallKX, mCB, mTest, mAnd, mOr, mNot, mYes, mAndV, mOrV, mNotV, mIf, mIsN, mNotN, mChain, mSeq, mNext, mBrk, mCnt, mRet, mRetN, mIfS, mDrop, mAsg, mOwn, mLstO, mListC, mLcO, oCatO, mShr, mApp, mPutI, mFrz, frz_w, mFor, mPar, mAug, mRaise, mTry, tryM, mKind, mLc, mList, mTupl, mListOwn, mRng1, mRng2, mEnum, mZip, mRev, mgName, mLenV, mIxV, mNoPart, mPart, mSl, wipeE, lcTurn, startE, oI_w, oB_w, oIC_w, oU_w, isB_w, oEq_w, oNe_w, exS_w, oIx_w, items_l, items_t, oLen_w, oAbs_w, oInt_i, oInt_b, oGcd_w, oMax_w, oMax3_w, oMin_w, oDivmod_w, oStr_w, oType_w, oIs1_w, oIs2_w, oIsTy_w, oCat_w, oIsN_w, oNotN_w, exD_w, exO_w, exD2_w, exO2_w, exL_w, exT_w, exI_w, ex1_w, ex1i_w, mSeqV_w, exX_w, seqOf_o, seqOf_d, mgCons_w, mgNil_w, mgTup_w, exPar_w, listC_w, putI_w, ixV_w, rng1_w, rng2_w, lcGo_n, lcGo_c, forGo_n, forGo_c, scEq_i, scEq_b, scEq_s, scEq_n, tyT, isNon, k_ii, k_ib, k_is, k_il, k_it, k_bi, k_bb, k_bs, k_bl, k_bt, k_ni, k_nb, k_ns, k_nl, k_nt, k_si, k_sb, k_ss, k_sl, k_st, k_li, k_lb, k_ls, k_ll, k_lt, k_ti, k_tb, k_ts, k_tl, k_tt, List.map_cons, List.map_nil, List.length_cons, List.length_nil, List.replicate, List.cons_append, List.nil_append, List.append_nil, List.getElem?_cons_zero, List.getElem?_cons_succ, List.set_cons_zero, List.set_cons_succ, Nat.sub_self, Nat.reduceAdd, Nat.reduceSub, List.replicate_zero, decide_eq_true_eq, Bool.true_eq_false, Bool.false_eq_true, if_true, if_false, reduceIte, Bool.not_eq_true', decide_eq_false_iff_not, Bool.not_true, Bool.not_false, exists_eq_left', true_and, and_true, Option.some.injEq, reduceCtorEq, decide_true, decide_false, not_true_eq_false, not_false_eq_true, Nat.reduceLT, Bool.or_false, Bool.or_true, Bool.false_or, Bool.true_or, Bool.and_true, Bool.true_and, Bool.and_false, Bool.false_and, true_implies, mFld, mFldS, mFldO, mProp, mMeth, mMethX, mInW, mCallXD, exOb_w, exOb2_w, exObD_w, exObD2_w, exObj_w, exObj0_w, exObjC_w, oIsNTy_w, mLcnt, eqD_ii, mJoin, oTupOf_w, oIsBl_w, cCalm, i0, i1, i2, i3])
    refine ite2 (fun _ => ⟨3, rfl, by decide, fun q q0 q1 => ?_⟩) (fun _ => ?_)
    case' refine_1 =>
      (try simp only [mVar, mC, mOp, mUn, mNil, mCons, mTup, mLst, mCall, mCallX, mCallKX, mCB, mTest, mAnd, mOr, mNot, mYes, mAndV, mOrV, mNotV, mIf, mIsN, mNotN, mChain, mSeq, mNext, mBrk, mCnt, mRet, mRetN, mIfS, mDrop, mAsg, mOwn, mLstO, mListC, mLcO, oCatO, mShr, mApp, mPutI, mFrz, frz_w, mFor, mPar, mAug, mRaise, mTry, tryM, mKind, mLc, mList, mTupl, mListOwn, mRng1, mRng2, mEnum, mZip, mRev, mgName, mLenV, mIxV, mNoPart, mPart, mSl, wipeE, lcTurn, startE, oI_w, oB_w, oIC_w, oU_w, isB_w, oEq_w, oNe_w, exS_w, oIx_w, items_l, items_t, oLen_w, oAbs_w, oInt_i, oInt_b, oGcd_w, oMax_w, oMax3_w, oMin_w, oDivmod_w, oStr_w, oType_w, oIs1_w, oIs2_w, oIsTy_w, oCat_w, oIsN_w, oNotN_w, exD_w, exO_w, exD2_w, exO2_w, exL_w, exT_w, exI_w, ex1_w, ex1i_w, mSeqV_w, exX_w, seqOf_o, seqOf_d, mgCons_w, mgNil_w, mgTup_w, exPar_w, listC_w, putI_w, ixV_w, rng1_w, rng2_w, lcGo_n, lcGo_c, forGo_n, forGo_c, scEq_i, scEq_b, scEq_s, scEq_n, tyT, isNon, k_ii, k_ib, k_is, k_il, k_it, k_bi, k_bb, k_bs, k_bl, k_bt, k_ni, k_nb, k_ns, k_nl, k_nt, k_si, k_sb, k_ss, k_sl, k_st, k_li, k_lb, k_ls, k_ll, k_lt, k_ti, k_tb, k_ts, k_tl, k_tt, List.map_cons, List.map_nil, List.length_cons, List.length_nil, List.replicate, List.cons_append, List.nil_append, List.append_nil, List.getElem?_cons_zero, List.getElem?_cons_succ, List.set_cons_zero, List.set_cons_succ, Nat.sub_self, Nat.reduceAdd, Nat.reduceSub, List.replicate_zero, decide_eq_true_eq, Bool.true_eq_false, Bool.false_eq_true, if_true, if_false, reduceIte, Bool.not_eq_true', decide_eq_false_iff_not, Bool.not_true, Bool.not_false, exists_eq_left', true_and, and_true, Option.some.injEq, reduceCtorEq, decide_true, decide_false, not_true_eq_false, not_false_eq_true, Nat.reduceLT, Bool.or_false, Bool.or_true, Bool.false_or, Bool.true_or, Bool.and_true, Bool.true_and, Bool.and_false, Bool.false_and, true_implies, mFld, mFldS, mFldO, mProp, mMeth, mMethX, mInW, mCallXD, exOb_w, exOb2_w, exObD_w, exObD2_w, exObj_w, exObj0_w, exObjC_w, oIsNTy_w, mLcnt, eqD_ii, mJoin, oTupOf_w, oIsBl_w, cCalm, i0, i1, i2, i3])
      obtain ⟨m, hm, hm1⟩ : ∃ m : Nat, 799 + q = (m : Int) ∧ m ≤ 801 := ⟨(799 + q).toNat, by omega, by omega⟩
      rw [hm]
    case' refine_2 =>
      obtain ⟨m, rfl⟩ := Int.eq_ofNat_of_zero_le n0
      have hm1 : m ≤ 801 := by omega
    all_goals
      refine ⟨b, d, m, rfl, by omega, fun fs hl => ⟨0, 9, rfl, by decide, by decide, fun j j0 j1 => ?_⟩⟩
      (try simp only [mVar, mC, mOp, mUn, mNil, mCons, mTup, mLst, mCall, mCallX, mCallKX, mCB, mTest, mAnd, mOr, mNot, mYes, mAndV, mOrV, mNotV, mIf, mIsN, mNotN, mChain, mSeq, mNext, mBrk, mCnt, mRet, mRetN, mIfS, mDrop, mAsg, mOwn, mLstO, mListC, mLcO, oCatO, mShr, mApp, mPutI, mFrz, frz_w, mFor, mPar, mAug, mRaise, mTry, tryM, mKind, mLc, mList, mTupl, mListOwn, mRng1, mRng2, mEnum, mZip, mRev, mgName, mLenV, mIxV, mNoPart, mPart, mSl, wipeE, lcTurn, startE, oI_w, oB_w, oIC_w, oU_w, isB_w, oEq_w, oNe_w, exS_w, oIx_w, items_l, items_t, oLen_w, oAbs_w, oInt_i, oInt_b, oGcd_w, oMax_w, oMax3_w, oMin_w, oDivmod_w, oStr_w, oType_w, oIs1_w, oIs2_w, oIsTy_w, oCat_w, oIsN_w, oNotN_w, exD_w, exO_w, exD2_w, exO2_w, exL_w, exT_w, exI_w, ex1_w, ex1i_w, mSeqV_w, exX_w, seqOf_o, seqOf_d, mgCons_w, mgNil_w, mgTup_w, exPar_w, listC_w, putI_w, ixV_w, rng1_w, rng2_w, lcGo_n, lcGo_c, forGo_n, forGo_c, scEq_i, scEq_b, scEq_s, scEq_n, tyT, isNon, k_ii, k_ib, k_is, k_il, k_it, k_bi, k_bb, k_bs, k_bl, k_bt, k_ni, k_nb, k_ns, k_nl, k_nt, k_si, k_sb, k_ss, k_sl, k_st, k_li, k_lb, k_ls, k_ll, k_lt, k_ti, k_tb, k_ts, k_tl, k_tt, List.map_cons, List.map_nil, List.length_cons, List.length_nil, List.replicate, List.cons_append, List.nil_append, List.append_nil, List.getElem?_cons_zero, List.getElem?_cons_succ, List.set_cons_zero, List.set_cons_succ, Nat.sub_self, Nat.reduceAdd, Nat.reduceSub, List.replicate_zero, decide_eq_true_eq, Bool.true_eq_false, Bool.false_eq_true, if_true, if_false, reduceIte, Bool.not_eq_true', decide_eq_false_iff_not, Bool.not_true, Bool.not_false, exists_eq_left', true_and, and_true, Option.some.injEq, reduceCtorEq, decide_true, decide_false, not_true_eq_false, not_false_eq_true, Nat.reduceLT, Bool.or_false, Bool.or_true, Bool.false_or, Bool.true_or, Bool.and_true, Bool.true_and, Bool.and_false, Bool.false_and, true_implies, mFld, mFldS, mFldO, mProp, mMeth, mMethX, mInW, mCallXD, exOb_w, exOb2_w, exObD_w, exObD2_w, exObj_w, exObj0_w, exObjC_w, oIsNTy_w, mLcnt, eqD_ii, mJoin, oTupOf_w, oIsBl_w, cCalm, i0, i1, i2, i3])
      refine ⟨by omega, by omega, fun i acc => ∃ gs : List Bool, acc = gs.map flagT ∧ gs.length = i, ⟨[], rfl, rfl⟩, ?_, ?_⟩
      · rintro i x acc hx ⟨gs, rfl, hg⟩
        (try simp only [mVar, mC, mOp, mUn, mNil, mCons, mTup, mLst, mCall, mCallX, mCallKX, mCB, mTest, mAnd, mOr, mNot, mYes, mAndV, mOrV, mNotV, mIf, mIsN, mNotN, mChain, mSeq, mNext, mBrk, mCnt, mRet, mRetN, mIfS, mDrop, mAsg, mOwn, mLstO, mListC, mLcO, oCatO, mShr, mApp, mPutI, mFrz, frz_w, mFor, mPar, mAug, mRaise, mTry, tryM, mKind, mLc, mList, mTupl, mListOwn, mRng1, mRng2, mEnum, mZip, mRev, mgName, mLenV, mIxV, mNoPart, mPart, mSl, wipeE, lcTurn, startE, oI_w, oB_w, oIC_w, oU_w, isB_w, oEq_w, oNe_w, exS_w, oIx_w, items_l, items_t, oLen_w, oAbs_w, oInt_i, oInt_b, oGcd_w, oMax_w, oMax3_w, oMin_w, oDivmod_w, oStr_w, oType_w, oIs1_w, oIs2_w, oIsTy_w, oCat_w, oIsN_w, oNotN_w, exD_w, exO_w, exD2_w, exO2_w, exL_w, exT_w, exI_w, ex1_w, ex1i_w, mSeqV_w, exX_w, seqOf_o, seqOf_d, mgCons_w, mgNil_w, mgTup_w, exPar_w, listC_w, putI_w, ixV_w, rng1_w, rng2_w, lcGo_n, lcGo_c, forGo_n, forGo_c, scEq_i, scEq_b, scEq_s, scEq_n, tyT, isNon, k_ii, k_ib, k_is, k_il, k_it, k_bi, k_bb, k_bs, k_bl, k_bt, k_ni, k_nb, k_ns, k_nl, k_nt, k_si, k_sb, k_ss, k_sl, k_st, k_li, k_lb, k_ls, k_ll, k_lt, k_ti, k_tb, k_ts, k_tl, k_tt, List.map_cons, List.map_nil, List.length_cons, List.length_nil, List.replicate, List.cons_append, List.nil_append, List.append_nil, List.getElem?_cons_zero, List.getElem?_cons_succ, List.set_cons_zero, List.set_cons_succ, Nat.sub_self, Nat.reduceAdd, Nat.reduceSub, List.replicate_zero, decide_eq_true_eq, Bool.true_eq_false, Bool.false_eq_true, if_true, if_false, reduceIte, Bool.not_eq_true', decide_eq_false_iff_not, Bool.not_true, Bool.not_false, exists_eq_left', true_and, and_true, Option.some.injEq, reduceCtorEq, decide_true, decide_false, not_true_eq_false, not_false_eq_true, Nat.reduceLT, Bool.or_false, Bool.or_true, Bool.false_or, Bool.true_or, Bool.and_true, Bool.true_and, Bool.and_false, Bool.false_and, true_implies, mFld, mFldS, mFldO, mProp, mMeth, mMethX, mInW, mCallXD, exOb_w, exOb2_w, exObD_w, exObD2_w, exObj_w, exObj0_w, exObjC_w, oIsNTy_w, mLcnt, eqD_ii, mJoin, oTupOf_w, oIsBl_w, cCalm])
        refine ⟨3, rfl, by decide, fun r r0 r1 => ?_⟩
        (try simp only [mVar, mC, mOp, mUn, mNil, mCons, mTup, mLst, mCall, mCallX, mCallKX, mCB, mTest, mAnd, mOr, mNot, mYes, mAndV, mOrV, mNotV, mIf, mIsN, mNotN, mChain, mSeq, mNext, mBrk, mCnt, mRet, mRetN, mIfS, mDrop, mAsg, mOwn, mLstO, mListC, mLcO, oCatO, mShr, mApp, mPutI, mFrz, frz_w, mFor, mPar, mAug, mRaise, mTry, tryM, mKind, mLc, mList, mTupl, mListOwn, mRng1, mRng2, mEnum, mZip, mRev, mgName, mLenV, mIxV, mNoPart, mPart, mSl, wipeE, lcTurn, startE, oI_w, oB_w, oIC_w, oU_w, isB_w, oEq_w, oNe_w, exS_w, oIx_w, items_l, items_t, oLen_w, oAbs_w, oInt_i, oInt_b, oGcd_w, oMax_w, oMax3_w, oMin_w, oDivmod_w, oStr_w, oType_w, oIs1_w, oIs2_w, oIsTy_w, oCat_w, oIsN_w, oNotN_w, exD_w, exO_w, exD2_w, exO2_w, exL_w, exT_w, exI_w, ex1_w, ex1i_w, mSeqV_w, exX_w, seqOf_o, seqOf_d, mgCons_w, mgNil_w, mgTup_w, exPar_w, listC_w, putI_w, ixV_w, rng1_w, rng2_w, lcGo_n, lcGo_c, forGo_n, forGo_c, scEq_i, scEq_b, scEq_s, scEq_n, tyT, isNon, k_ii, k_ib, k_is, k_il, k_it, k_bi, k_bb, k_bs, k_bl, k_bt, k_ni, k_nb, k_ns, k_nl, k_nt, k_si, k_sb, k_ss, k_sl, k_st, k_li, k_lb, k_ls, k_ll, k_lt, k_ti, k_tb, k_ts, k_tl, k_tt, List.map_cons, List.map_nil, List.length_cons, List.length_nil, List.replicate, List.cons_append, List.nil_append, List.append_nil, List.getElem?_cons_zero, List.getElem?_cons_succ, List.set_cons_zero, List.set_cons_succ, Nat.sub_self, Nat.reduceAdd, Nat.reduceSub, List.replicate_zero, decide_eq_true_eq, Bool.true_eq_false, Bool.false_eq_true, if_true, if_false, reduceIte, Bool.not_eq_true', decide_eq_false_iff_not, Bool.not_true, Bool.not_false, exists_eq_left', true_and, and_true, Option.some.injEq, reduceCtorEq, decide_true, decide_false, not_true_eq_false, not_false_eq_true, Nat.reduceLT, Bool.or_false, Bool.or_true, Bool.false_or, Bool.true_or, Bool.and_true, Bool.true_and, Bool.and_false, Bool.false_and, true_implies, mFld, mFldS, mFldO, mProp, mMeth, mMethX, mInW, mCallXD, exOb_w, exOb2_w, exObD_w, exObD2_w, exObj_w, exObj0_w, exObjC_w, oIsNTy_w, mLcnt, eqD_ii, mJoin, oTupOf_w, oIsBl_w, cCalm])
        by_cases z : r = 0
        · subst z
          exact ⟨gs ++ [false], by rw [List.map_append]; rfl, by rw [List.length_append, hg]; rfl⟩
        · rw [show min 1 r = 1 by omega]
          exact ⟨gs ++ [true], by rw [List.map_append]; rfl, by rw [List.length_append, hg]; rfl⟩
      · rintro acc ⟨gs, rfl, hg⟩
        rw [rngT_len] at hg
        refine ⟨3, rfl, by omega, fun pv hp => ⟨b, d, m, rfl, b0, b1, by omega, by omega, by omega, by omega, ?_⟩⟩
        refine ⟨fun i env => ∃ (vs : List T) (z6 z7 : Option Sl), env = [some (Sl.d .sto), some (Sl.d (.tup [.int l, .int w, .int b, .int d])), some (Sl.d (.int (m : Int))), some (Sl.d (.lst (fs.map flagT))), some (Sl.d (.lst (gs.map flagT))), some (Sl.own vs), z6, z7, none] ∧ (∀ v ∈ vs, okT 7 v = true) ∧ vs.length = 1 + 4 * i, ⟨[pv], none, none, rfl, ?_, rfl⟩, ?_, ?_⟩
        · intro v hv
          rw [List.mem_singleton.mp hv]
          exact okT_le hp (by decide)
        · rintro i x env hx ⟨vs, z6, z7, rfl, hv, hn⟩
          have hi : i < 3 := (List.getElem?_eq_some_iff.mp hx).1
          have hs : ∃ hs : List Bool, x = .lst (hs.map flagT) ∧ hs.length ≤ 801 := by
            match i, hx with
            | 0, h =>
              cases h
              exact ⟨fs, rfl, by omega⟩
            | 1, h =>
              cases h
              exact ⟨(List.range m).map fun i => decide (((i : Nat) : Int).fmod (b + d) < b), by rw [List.map_map]; rfl, by rw [List.length_map, List.length_range]; exact hm1⟩
            | 2, h =>
              cases h
              exact ⟨gs, rfl, by omega⟩
          obtain ⟨hs, rfl, hsl⟩ := hs
          have okf : okTs 5 (hs.map flagT) = true := okTs_flags
          have okp : ∀ a c : Int, okT 7 (.tup [.lst (hs.map flagT), .int a, .int c]) = true := fun a c => by simp [okT, okTs, okf]
          have t1 : ∀ {α : Type} {x y z : α}, atI [x, y, z] 1 = some y := rfl
          have t2 : ∀ {α : Type} {x y z : α}, atI [x, y, z] 2 = some z := rfl
          (try simp only [mVar, mC, mOp, mUn, mNil, mCons, mTup, mLst, mCall, mCallX, mCallKX, mCB, mTest, mAnd, mOr, mNot, mYes, mAndV, mOrV, mNotV, mIf, mIsN, mNotN, mChain, mSeq, mNext, mBrk, mCnt, mRet, mRetN, mIfS, mDrop, mAsg, mOwn, mLstO, mListC, mLcO, oCatO, mShr, mApp, mPutI, mFrz, frz_w, mFor, mPar, mAug, mRaise, mTry, tryM, mKind, mLc, mList, mTupl, mListOwn, mRng1, mRng2, mEnum, mZip, mRev, mgName, mLenV, mIxV, mNoPart, mPart, mSl, wipeE, lcTurn, startE, oI_w, oB_w, oIC_w, oU_w, isB_w, oEq_w, oNe_w, exS_w, oIx_w, items_l, items_t, oLen_w, oAbs_w, oInt_i, oInt_b, oGcd_w, oMax_w, oMax3_w, oMin_w, oDivmod_w, oStr_w, oType_w, oIs1_w, oIs2_w, oIsTy_w, oCat_w, oIsN_w, oNotN_w, exD_w, exO_w, exD2_w, exO2_w, exL_w, exT_w, exI_w, ex1_w, ex1i_w, mSeqV_w, exX_w, seqOf_o, seqOf_d, mgCons_w, mgNil_w, mgTup_w, exPar_w, listC_w, putI_w, ixV_w, rng1_w, rng2_w, lcGo_n, lcGo_c, forGo_n, forGo_c, scEq_i, scEq_b, scEq_s, scEq_n, tyT, isNon, k_ii, k_ib, k_is, k_il, k_it, k_bi, k_bb, k_bs, k_bl, k_bt, k_ni, k_nb, k_ns, k_nl, k_nt, k_si, k_sb, k_ss, k_sl, k_st, k_li, k_lb, k_ls, k_ll, k_lt, k_ti, k_tb, k_ts, k_tl, k_tt, List.map_cons, List.map_nil, List.length_cons, List.length_nil, List.replicate, List.cons_append, List.nil_append, List.append_nil, List.getElem?_cons_zero, List.getElem?_cons_succ, List.set_cons_zero, List.set_cons_succ, Nat.sub_self, Nat.reduceAdd, Nat.reduceSub, List.replicate_zero, decide_eq_true_eq, Bool.true_eq_false, Bool.false_eq_true, if_true, if_false, reduceIte, Bool.not_eq_true', decide_eq_false_iff_not, Bool.not_true, Bool.not_false, exists_eq_left', true_and, and_true, Option.some.injEq, reduceCtorEq, decide_true, decide_false, not_true_eq_false, not_false_eq_true, Nat.reduceLT, Bool.or_false, Bool.or_true, Bool.false_or, Bool.true_or, Bool.and_true, Bool.true_and, Bool.and_false, Bool.false_and, true_implies, mFld, mFldS, mFldO, mProp, mMeth, mMethX, mInW, mCallXD, exOb_w, exOb2_w, exObD_w, exObD2_w, exObj_w, exObj0_w, exObjC_w, oIsNTy_w, mLcnt, eqD_ii, mJoin, oTupOf_w, oIsBl_w, cCalm, t1, t2])
          refine ⟨l, w, b, d, hs, rfl, ok, by omega, ?_⟩
          (try simp only [mVar, mC, mOp, mUn, mNil, mCons, mTup, mLst, mCall, mCallX, mCallKX, mCB, mTest, mAnd, mOr, mNot, mYes, mAndV, mOrV, mNotV, mIf, mIsN, mNotN, mChain, mSeq, mNext, mBrk, mCnt, mRet, mRetN, mIfS, mDrop, mAsg, mOwn, mLstO, mListC, mLcO, oCatO, mShr, mApp, mPutI, mFrz, frz_w, mFor, mPar, mAug, mRaise, mTry, tryM, mKind, mLc, mList, mTupl, mListOwn, mRng1, mRng2, mEnum, mZip, mRev, mgName, mLenV, mIxV, mNoPart, mPart, mSl, wipeE, lcTurn, startE, oI_w, oB_w, oIC_w, oU_w, isB_w, oEq_w, oNe_w, exS_w, oIx_w, items_l, items_t, oLen_w, oAbs_w, oInt_i, oInt_b, oGcd_w, oMax_w, oMax3_w, oMin_w, oDivmod_w, oStr_w, oType_w, oIs1_w, oIs2_w, oIsTy_w, oCat_w, oIsN_w, oNotN_w, exD_w, exO_w, exD2_w, exO2_w, exL_w, exT_w, exI_w, ex1_w, ex1i_w, mSeqV_w, exX_w, seqOf_o, seqOf_d, mgCons_w, mgNil_w, mgTup_w, exPar_w, listC_w, putI_w, ixV_w, rng1_w, rng2_w, lcGo_n, lcGo_c, forGo_n, forGo_c, scEq_i, scEq_b, scEq_s, scEq_n, tyT, isNon, k_ii, k_ib, k_is, k_il, k_it, k_bi, k_bb, k_bs, k_bl, k_bt, k_ni, k_nb, k_ns, k_nl, k_nt, k_si, k_sb, k_ss, k_sl, k_st, k_li, k_lb, k_ls, k_ll, k_lt, k_ti, k_tb, k_ts, k_tl, k_tt, List.map_cons, List.map_nil, List.length_cons, List.length_nil, List.replicate, List.cons_append, List.nil_append, List.append_nil, List.getElem?_cons_zero, List.getElem?_cons_succ, List.set_cons_zero, List.set_cons_succ, Nat.sub_self, Nat.reduceAdd, Nat.reduceSub, List.replicate_zero, decide_eq_true_eq, Bool.true_eq_false, Bool.false_eq_true, if_true, if_false, reduceIte, Bool.not_eq_true', decide_eq_false_iff_not, Bool.not_true, Bool.not_false, exists_eq_left', true_and, and_true, Option.some.injEq, reduceCtorEq, decide_true, decide_false, not_true_eq_false, not_false_eq_true, Nat.reduceLT, Bool.or_false, Bool.or_true, Bool.false_or, Bool.true_or, Bool.and_true, Bool.true_and, Bool.and_false, Bool.false_and, true_implies, mFld, mFldS, mFldO, mProp, mMeth, mMethX, mInW, mCallXD, exOb_w, exOb2_w, exObD_w, exObD2_w, exObj_w, exObj0_w, exObjC_w, oIsNTy_w, mLcnt, eqD_ii, mJoin, oTupOf_w, oIsBl_w, cCalm, t1, t2])
          refine ⟨by omega, 9, rfl, by decide, fun q _ _ => ?_⟩
          (try simp only [mVar, mC, mOp, mUn, mNil, mCons, mTup, mLst, mCall, mCallX, mCallKX, mCB, mTest, mAnd, mOr, mNot, mYes, mAndV, mOrV, mNotV, mIf, mIsN, mNotN, mChain, mSeq, mNext, mBrk, mCnt, mRet, mRetN, mIfS, mDrop, mAsg, mOwn, mLstO, mListC, mLcO, oCatO, mShr, mApp, mPutI, mFrz, frz_w, mFor, mPar, mAug, mRaise, mTry, tryM, mKind, mLc, mList, mTupl, mListOwn, mRng1, mRng2, mEnum, mZip, mRev, mgName, mLenV, mIxV, mNoPart, mPart, mSl, wipeE, lcTurn, startE, oI_w, oB_w, oIC_w, oU_w, isB_w, oEq_w, oNe_w, exS_w, oIx_w, items_l, items_t, oLen_w, oAbs_w, oInt_i, oInt_b, oGcd_w, oMax_w, oMax3_w, oMin_w, oDivmod_w, oStr_w, oType_w, oIs1_w, oIs2_w, oIsTy_w, oCat_w, oIsN_w, oNotN_w, exD_w, exO_w, exD2_w, exO2_w, exL_w, exT_w, exI_w, ex1_w, ex1i_w, mSeqV_w, exX_w, seqOf_o, seqOf_d, mgCons_w, mgNil_w, mgTup_w, exPar_w, listC_w, putI_w, ixV_w, rng1_w, rng2_w, lcGo_n, lcGo_c, forGo_n, forGo_c, scEq_i, scEq_b, scEq_s, scEq_n, tyT, isNon, k_ii, k_ib, k_is, k_il, k_it, k_bi, k_bb, k_bs, k_bl, k_bt, k_ni, k_nb, k_ns, k_nl, k_nt, k_si, k_sb, k_ss, k_sl, k_st, k_li, k_lb, k_ls, k_ll, k_lt, k_ti, k_tb, k_ts, k_tl, k_tt, List.map_cons, List.map_nil, List.length_cons, List.length_nil, List.replicate, List.cons_append, List.nil_append, List.append_nil, List.getElem?_cons_zero, List.getElem?_cons_succ, List.set_cons_zero, List.set_cons_succ, Nat.sub_self, Nat.reduceAdd, Nat.reduceSub, List.replicate_zero, decide_eq_true_eq, Bool.true_eq_false, Bool.false_eq_true, if_true, if_false, reduceIte, Bool.not_eq_true', decide_eq_false_iff_not, Bool.not_true, Bool.not_false, exists_eq_left', true_and, and_true, Option.some.injEq, reduceCtorEq, decide_true, decide_false, not_true_eq_false, not_false_eq_true, Nat.reduceLT, Bool.or_false, Bool.or_true, Bool.false_or, Bool.true_or, Bool.and_true, Bool.true_and, Bool.and_false, Bool.false_and, true_implies, mFld, mFldS, mFldO, mProp, mMeth, mMethX, mInW, mCallXD, exOb_w, exOb2_w, exObD_w, exObD2_w, exObj_w, exObj0_w, exObjC_w, oIsNTy_w, mLcnt, eqD_ii, mJoin, oTupOf_w, oIsBl_w, cCalm, t1, t2])
          refine ⟨by simp only [List.length_append, List.length_cons, List.length_nil]; omega, by simp only [List.length_append, List.length_cons, List.length_nil]; omega, 40, rfl, by decide, fun a1 _ _ => ⟨40, rfl, by decide, fun a2 _ _ => ?_⟩⟩
          (try simp only [mVar, mC, mOp, mUn, mNil, mCons, mTup, mLst, mCall, mCallX, mCallKX, mCB, mTest, mAnd, mOr, mNot, mYes, mAndV, mOrV, mNotV, mIf, mIsN, mNotN, mChain, mSeq, mNext, mBrk, mCnt, mRet, mRetN, mIfS, mDrop, mAsg, mOwn, mLstO, mListC, mLcO, oCatO, mShr, mApp, mPutI, mFrz, frz_w, mFor, mPar, mAug, mRaise, mTry, tryM, mKind, mLc, mList, mTupl, mListOwn, mRng1, mRng2, mEnum, mZip, mRev, mgName, mLenV, mIxV, mNoPart, mPart, mSl, wipeE, lcTurn, startE, oI_w, oB_w, oIC_w, oU_w, isB_w, oEq_w, oNe_w, exS_w, oIx_w, items_l, items_t, oLen_w, oAbs_w, oInt_i, oInt_b, oGcd_w, oMax_w, oMax3_w, oMin_w, oDivmod_w, oStr_w, oType_w, oIs1_w, oIs2_w, oIsTy_w, oCat_w, oIsN_w, oNotN_w, exD_w, exO_w, exD2_w, exO2_w, exL_w, exT_w, exI_w, ex1_w, ex1i_w, mSeqV_w, exX_w, seqOf_o, seqOf_d, mgCons_w, mgNil_w, mgTup_w, exPar_w, listC_w, putI_w, ixV_w, rng1_w, rng2_w, lcGo_n, lcGo_c, forGo_n, forGo_c, scEq_i, scEq_b, scEq_s, scEq_n, tyT, isNon, k_ii, k_ib, k_is, k_il, k_it, k_bi, k_bb, k_bs, k_bl, k_bt, k_ni, k_nb, k_ns, k_nl, k_nt, k_si, k_sb, k_ss, k_sl, k_st, k_li, k_lb, k_ls, k_ll, k_lt, k_ti, k_tb, k_ts, k_tl, k_tt, List.map_cons, List.map_nil, List.length_cons, List.length_nil, List.replicate, List.cons_append, List.nil_append, List.append_nil, List.getElem?_cons_zero, List.getElem?_cons_succ, List.set_cons_zero, List.set_cons_succ, Nat.sub_self, Nat.reduceAdd, Nat.reduceSub, List.replicate_zero, decide_eq_true_eq, Bool.true_eq_false, Bool.false_eq_true, if_true, if_false, reduceIte, Bool.not_eq_true', decide_eq_false_iff_not, Bool.not_true, Bool.not_false, exists_eq_left', true_and, and_true, Option.some.injEq, reduceCtorEq, decide_true, decide_false, not_true_eq_false, not_false_eq_true, Nat.reduceLT, Bool.or_false, Bool.or_true, Bool.false_or, Bool.true_or, Bool.and_true, Bool.true_and, Bool.and_false, Bool.false_and, true_implies, mFld, mFldS, mFldO, mProp, mMeth, mMethX, mInW, mCallXD, exOb_w, exOb2_w, exObD_w, exObD2_w, exObj_w, exObj0_w, exObjC_w, oIsNTy_w, mLcnt, eqD_ii, mJoin, oTupOf_w, oIsBl_w, cCalm])
          refine ⟨by simp only [List.length_append, List.length_cons, List.length_nil]; omega, _, _, _, rfl, fun v hm => ?_, by simp only [List.length_append, List.length_cons, List.length_nil]; omega⟩
          simp only [List.mem_append, List.mem_singleton] at hm
          rcases hm with (((h | h) | h) | h) | h
          · exact hv v h
          all_goals
            rw [h]
            exact okp _ _
        · rintro env ⟨vs, z6, z7, rfl, hv, hn⟩
          exact ⟨_, rfl, hk _ hv (by rw [hn]; simp)⟩
end
end Mt
namespace Mt
open PySem PySem.Spec PyProof.Rows L2 L2H
section
variable {P : Program} {w : World} {K : PySem.W.Frag} {mg : Str → Option Value} {base : Heap} {f : Addr} {fd : FuncData} {A : Ad} {tk : Nat → Tok} {aBurstRule : Addr}
theorem ok_law_is_bar (F : Fun K "_law_is_bar" "_law_is_bar" s_law_is_bar f fd) (Tx : Txt K mg A tk aBurstRule) (C_law_copy : Cal P w K mg base "_law_copy" 8 ["value"] (SpU A 1 (c_law_copy 7))) (C_law_same : Cal P w K mg base "_law_same" 8 ["left", "right"] (SpU A 2 (c_law_same 7))) (C_is_bar_paper : CalX P w K mg base "is_bar_paper" 9 ["letters", "signs", "burst", "delay", "paper"] (SpU A 5 (c_is_bar_paper aBurstRule))) :
    FnOk P w K mg base (CN P w) 10 f fd ["setting", "paper", "due"] (SpU A 3 (c_law_is_bar aBurstRule)) := by
  refine okN F sc_law_is_bar (fun vs H Q E h => h.len) (fun cdv Ar outer s H vs Q E hr h => ?_)
  obtain ⟨st, P0, ds, k, XA, h1, h2, h3, hc, h5, h6⟩ := h
  refine ⟨_, (pss_cons (ps_set (i := 3) sc_law_is_bar.nd rfl (.inl rfl) (p_call C_law_copy hr (pa_cons (pv 1) pa_nil) (by omega)))
      (pss_cons (ps_set (i := 4) sc_law_is_bar.nd rfl (.inl rfl) (p_callX C_is_bar_paper hr (L2N.takes_of rfl rfl rfl rfl) (pa_cons (pe_ix ix_H (pv 0) pe_int (fun _ _ => rfl)) (pa_cons (pe_ix ix_H (pv 0) pe_int (fun _ _ => rfl)) (pa_cons (pe_ix ix_H (pv 0) pe_int (fun _ _ => rfl)) (pa_cons (pe_ix ix_H (pv 0) pe_int (fun _ _ => rfl)) (pa_cons (pv 3) pa_nil))))) (by omega)))
      (pss_one (ps_ret (pe_and (p_call C_law_same hr (pa_cons (pv 4) (pa_cons (pv 2) pa_nil)) (by omega)) (pe_one (p_call C_law_same hr (pa_cons (pv 3) (pa_cons (pv 1) pa_nil)) (by omega)))))))), ?_⟩
  refine runX (ms := ?ms) h1 h2 h5 h6 (fun _ _ _ _ h => h) ?r ?u
  case r => exact (rs_seq (rs_asg (re_call (ra_cons re_var ra_nil)) rg_name)
      (rs_seq (rs_asg (re_callX (ra_cons (re_op ro_ix re_var re_int) (ra_cons (re_op ro_ix re_var re_int) (ra_cons (re_op ro_ix re_var re_int) (ra_cons (re_op ro_ix re_var re_int) (ra_cons re_var ra_nil)))))) rg_name)
      (rs_ret (re_andV (re_call (ra_cons re_var (ra_cons re_var ra_nil))) (re_call (ra_cons re_var (ra_cons re_var ra_nil)))))))
  case u =>
    clear h1 h2 h5 h6 hr
    obtain ⟨l, w, b, d, v, due, rfl, ok, hv, hd, hk⟩ := hc
    have i0 : ∀ {α : Type} {x y z t : α}, atI [x, y, z, t] 0 = some x := rfl
    have i1 : ∀ {α : Type} {x y z t : α}, atI [x, y, z, t] 1 = some y := rfl
    have i2 : ∀ {α : Type} {x y z t : α}, atI [x, y, z, t] 2 = some z := rfl
    have i3 : ∀ {α : Type} {x y z t : α}, atI [x, y, z, t] 3 = some t := rfl
    (try simp only [mVar, mC, mOp, mUn, mNil, mCons, mTup, mLst, mCall, mCallX, mCallKX, mCB, mTest, mAnd, mOr, mNot, mYes, mAndV, mOrV, mNotV, mIf, mIsN, mNotN, mChain, mSeq, mNext, mBrk, mCnt, mRet, mRetN, mIfS, mDrop, mAsg, mOwn, mLstO, mListC, mLcO, oCatO, mShr, mApp, mPutI, mFrz, frz_w, mFor, mPar, mAug, mRaise, mTry, tryM, mKind, mLc, mList, mTupl, mListOwn, mRng1, mRng2, mEnum, mZip, mRev, mgName, mLenV, mIxV, mNoPart, mPart, mSl, wipeE, lcTurn, startE, oI_w, oB_w, oIC_w, oU_w, isB_w, oEq_w, oNe_w, exS_w, oIx_w, items_l, items_t, oLen_w, oAbs_w, oInt_i, oInt_b, oGcd_w, oMax_w, oMax3_w, oMin_w, oDivmod_w, oStr_w, oType_w, oIs1_w, oIs2_w, oIsTy_w, oCat_w, oIsN_w, oNotN_w, exD_w, exO_w, exD2_w, exO2_w, exL_w, exT_w, exI_w, ex1_w, ex1i_w, mSeqV_w, exX_w, seqOf_o, seqOf_d, mgCons_w, mgNil_w, mgTup_w, exPar_w, listC_w, putI_w, ixV_w, rng1_w, rng2_w, lcGo_n, lcGo_c, forGo_n, forGo_c, scEq_i, scEq_b, scEq_s, scEq_n, tyT, isNon, k_ii, k_ib, k_is, k_il, k_it, k_bi, k_bb, k_bs, k_bl, k_bt, k_ni, k_nb, k_ns, k_nl, k_nt, k_si, k_sb, k_ss, k_sl, k_st, k_li, k_lb, k_ls, k_ll, k_lt, k_ti, k_tb, k_ts, k_tl, k_tt, List.map_cons, List.map_nil, List.length_cons, List.length_nil, List.replicate, List.cons_append, List.nil_append, List.append_nil, List.getElem?_cons_zero, List.getElem?_cons_succ, List.set_cons_zero, List.set_cons_succ, Nat.sub_self, Nat.reduceAdd, Nat.reduceSub, List.replicate_zero, decide_eq_true_eq, Bool.true_eq_false, Bool.false_eq_true, if_true, if_false, reduceIte, Bool.not_eq_true', decide_eq_false_iff_not, Bool.not_true, Bool.not_false, exists_eq_left', true_and, and_true, Option.some.injEq, reduceCtorEq, decide_true, decide_false, not_true_eq_false, not_false_eq_true, Nat.reduceLT, Bool.or_false, Bool.or_true, Bool.false_or, Bool.true_or, Bool.and_true, Bool.true_and, Bool.and_false, Bool.false_and, true_implies, mFld, mFldS, mFldO, mProp, mMeth, mMethX, mInW, mCallXD, exOb_w, exOb2_w, exObD_w, exObD2_w, exObj_w, exObj0_w, exObjC_w, oIsNTy_w, mLcnt, eqD_ii, mJoin, oTupOf_w, oIsBl_w, cCalm, i0, i1, i2, i3])
    obtain ⟨n, ht⟩ := okT_ty hv
    refine ⟨v, rfl, hv, l, w, b, d, v, n, rfl, ok, okT_le hv (by decide), ht, fun r hr => ?_⟩
    have er : r = due := by
      cases r <;> cases due <;> first | rfl | (exfalso; first | exact nomatch (hr.mpr (hd.mp rfl)) | exact nomatch (hd.mpr (hr.mp rfl)))
    subst er
    refine same_yes rfl rfl ⟨true, rfl, ?_⟩
    (try simp only [mVar, mC, mOp, mUn, mNil, mCons, mTup, mLst, mCall, mCallX, mCallKX, mCB, mTest, mAnd, mOr, mNot, mYes, mAndV, mOrV, mNotV, mIf, mIsN, mNotN, mChain, mSeq, mNext, mBrk, mCnt, mRet, mRetN, mIfS, mDrop, mAsg, mOwn, mLstO, mListC, mLcO, oCatO, mShr, mApp, mPutI, mFrz, frz_w, mFor, mPar, mAug, mRaise, mTry, tryM, mKind, mLc, mList, mTupl, mListOwn, mRng1, mRng2, mEnum, mZip, mRev, mgName, mLenV, mIxV, mNoPart, mPart, mSl, wipeE, lcTurn, startE, oI_w, oB_w, oIC_w, oU_w, isB_w, oEq_w, oNe_w, exS_w, oIx_w, items_l, items_t, oLen_w, oAbs_w, oInt_i, oInt_b, oGcd_w, oMax_w, oMax3_w, oMin_w, oDivmod_w, oStr_w, oType_w, oIs1_w, oIs2_w, oIsTy_w, oCat_w, oIsN_w, oNotN_w, exD_w, exO_w, exD2_w, exO2_w, exL_w, exT_w, exI_w, ex1_w, ex1i_w, mSeqV_w, exX_w, seqOf_o, seqOf_d, mgCons_w, mgNil_w, mgTup_w, exPar_w, listC_w, putI_w, ixV_w, rng1_w, rng2_w, lcGo_n, lcGo_c, forGo_n, forGo_c, scEq_i, scEq_b, scEq_s, scEq_n, tyT, isNon, k_ii, k_ib, k_is, k_il, k_it, k_bi, k_bb, k_bs, k_bl, k_bt, k_ni, k_nb, k_ns, k_nl, k_nt, k_si, k_sb, k_ss, k_sl, k_st, k_li, k_lb, k_ls, k_ll, k_lt, k_ti, k_tb, k_ts, k_tl, k_tt, List.map_cons, List.map_nil, List.length_cons, List.length_nil, List.replicate, List.cons_append, List.nil_append, List.append_nil, List.getElem?_cons_zero, List.getElem?_cons_succ, List.set_cons_zero, List.set_cons_succ, Nat.sub_self, Nat.reduceAdd, Nat.reduceSub, List.replicate_zero, decide_eq_true_eq, Bool.true_eq_false, Bool.false_eq_true, if_true, if_false, reduceIte, Bool.not_eq_true', decide_eq_false_iff_not, Bool.not_true, Bool.not_false, exists_eq_left', true_and, and_true, Option.some.injEq, reduceCtorEq, decide_true, decide_false, not_true_eq_false, not_false_eq_true, Nat.reduceLT, Bool.or_false, Bool.or_true, Bool.false_or, Bool.true_or, Bool.and_true, Bool.true_and, Bool.and_false, Bool.false_and, true_implies, mFld, mFldS, mFldO, mProp, mMeth, mMethX, mInW, mCallXD, exOb_w, exOb2_w, exObD_w, exObD2_w, exObj_w, exObj0_w, exObjC_w, oIsNTy_w, mLcnt, eqD_ii, mJoin, oTupOf_w, oIsBl_w, cCalm])
    exact same_yes rfl hv hk
end
end Mt
namespace Mt
open PySem PySem.Spec PyProof.Rows L2 L2H
section
variable {P : Program} {w : World} {K : PySem.W.Frag} {mg : Str → Option Value} {base : Heap} {f : Addr} {fd : FuncData} {A : Ad} {tk : Nat → Tok} {aBurstRule : Addr}
theorem ok_law_refuses_all (F : Fun K "_law_refuses_all" "_law_refuses_all" s_law_refuses_all f fd) (Tx : Txt K mg A tk aBurstRule) (C_law_is_bar : CalX P w K mg base "_law_is_bar" 10 ["setting", "paper", "due"] (SpU A 3 (c_law_is_bar aBurstRule))) (C_law_same : Cal P w K mg base "_law_same" 8 ["left", "right"] (SpU A 2 (c_law_same 7))) (C_can_make : CalX P w K mg base "can_make" 5 ["letters", "signs", "burst", "delay"] (SpU A 4 c_can_make)) :
    FnOk P w K mg base (CN P w) 11 f fd ["setting", "papers"] (SpU A 2 (c_law_refuses_all aBurstRule)) := by
  refine okN F sc_law_refuses_all (fun vs H Q E h => h.len) (fun cdv Ar outer s H vs Q E hr h => ?_)
  obtain ⟨st, P0, ds, k, XA, h1, h2, h3, hc, h5, h6⟩ := h
  refine ⟨_, (pss_cons (ps_if (pt_not (pt_val (p_call C_law_same hr (pa_cons (p_callX C_can_make hr (L2N.takes_of rfl rfl rfl rfl) (pa_cons (pe_ix ix_H (pv 0) pe_int (fun _ _ => rfl)) (pa_cons (pe_ix ix_H (pv 0) pe_int (fun _ _ => rfl)) (pa_cons (pe_ix ix_H (pv 0) pe_int (fun _ _ => rfl)) (pa_cons (pe_ix ix_H (pv 0) pe_int (fun _ _ => rfl)) pa_nil)))) (by omega)) (pa_cons pe_bl pa_nil)) (by omega)))) (pss_one (ps_ret pe_bl)) pss_nil)
      (pss_cons (ps_for (passes_of rfl) rfl (pi_list (pv 1)) (pg_name (i := 2) sc_law_refuses_all.nd rfl (.inl rfl)) (pss_one (ps_if (pt_not (pt_val (p_callX C_law_is_bar hr (L2N.takes_of rfl rfl rfl rfl) (pa_cons (pv 0) (pa_cons (pv 2) (pa_cons pe_bl pa_nil))) (by omega)))) (pss_one (ps_ret pe_bl)) pss_nil)))
      (pss_one (ps_ret pe_bl)))), ?_⟩
  refine runX (ms := ?ms) h1 h2 h5 h6 (fun _ _ _ _ h => h) ?r ?u
  case r => exact (rs_seq (rs_if (rt_not (rt_B (re_call (ra_cons (re_callX (ra_cons (re_op ro_ix re_var re_int) (ra_cons (re_op ro_ix re_var re_int) (ra_cons (re_op ro_ix re_var re_int) (ra_cons (re_op ro_ix re_var re_int) ra_nil))))) (ra_cons re_bl ra_nil))))) (rs_ret re_bl) rs_next)
      (rs_seq (rs_for (ri_list re_var) rg_name (rs_if (rt_not (rt_B (re_callX (ra_cons re_var (ra_cons re_var (ra_cons re_bl ra_nil)))))) (rs_ret re_bl) rs_next))
      (rs_ret re_bl)))
  case u =>
    clear h1 h2 h5 h6 hr
    obtain ⟨l, w, b, d, vs, rfl, ok, ft, hv, hk⟩ := hc
    have i0 : ∀ {α : Type} {x y z t : α}, atI [x, y, z, t] 0 = some x := rfl
    have i1 : ∀ {α : Type} {x y z t : α}, atI [x, y, z, t] 1 = some y := rfl
    have i2 : ∀ {α : Type} {x y z t : α}, atI [x, y, z, t] 2 = some z := rfl
    have i3 : ∀ {α : Type} {x y z t : α}, atI [x, y, z, t] 3 = some t := rfl
    (try simp only [mVar, mC, mOp, mUn, mNil, mCons, mTup, mLst, mCall, mCallX, mCallKX, mCB, mTest, mAnd, mOr, mNot, mYes, mAndV, mOrV, mNotV, mIf, mIsN, mNotN, mChain, mSeq, mNext, mBrk, mCnt, mRet, mRetN, mIfS, mDrop, mAsg, mOwn, mLstO, mListC, mLcO, oCatO, mShr, mApp, mPutI, mFrz, frz_w, mFor, mPar, mAug, mRaise, mTry, tryM, mKind, mLc, mList, mTupl, mListOwn, mRng1, mRng2, mEnum, mZip, mRev, mgName, mLenV, mIxV, mNoPart, mPart, mSl, wipeE, lcTurn, startE, oI_w, oB_w, oIC_w, oU_w, isB_w, oEq_w, oNe_w, exS_w, oIx_w, items_l, items_t, oLen_w, oAbs_w, oInt_i, oInt_b, oGcd_w, oMax_w, oMax3_w, oMin_w, oDivmod_w, oStr_w, oType_w, oIs1_w, oIs2_w, oIsTy_w, oCat_w, oIsN_w, oNotN_w, exD_w, exO_w, exD2_w, exO2_w, exL_w, exT_w, exI_w, ex1_w, ex1i_w, mSeqV_w, exX_w, seqOf_o, seqOf_d, mgCons_w, mgNil_w, mgTup_w, exPar_w, listC_w, putI_w, ixV_w, rng1_w, rng2_w, lcGo_n, lcGo_c, forGo_n, forGo_c, scEq_i, scEq_b, scEq_s, scEq_n, tyT, isNon, k_ii, k_ib, k_is, k_il, k_it, k_bi, k_bb, k_bs, k_bl, k_bt, k_ni, k_nb, k_ns, k_nl, k_nt, k_si, k_sb, k_ss, k_sl, k_st, k_li, k_lb, k_ls, k_ll, k_lt, k_ti, k_tb, k_ts, k_tl, k_tt, List.map_cons, List.map_nil, List.length_cons, List.length_nil, List.replicate, List.cons_append, List.nil_append, List.append_nil, List.getElem?_cons_zero, List.getElem?_cons_succ, List.set_cons_zero, List.set_cons_succ, Nat.sub_self, Nat.reduceAdd, Nat.reduceSub, List.replicate_zero, decide_eq_true_eq, Bool.true_eq_false, Bool.false_eq_true, if_true, if_false, reduceIte, Bool.not_eq_true', decide_eq_false_iff_not, Bool.not_true, Bool.not_false, exists_eq_left', true_and, and_true, Option.some.injEq, reduceCtorEq, decide_true, decide_false, not_true_eq_false, not_false_eq_true, Nat.reduceLT, Bool.or_false, Bool.or_true, Bool.false_or, Bool.true_or, Bool.and_true, Bool.true_and, Bool.and_false, Bool.false_and, true_implies, mFld, mFldS, mFldO, mProp, mMeth, mMethX, mInW, mCallXD, exOb_w, exOb2_w, exObD_w, exObD2_w, exObj_w, exObj0_w, exObjC_w, oIsNTy_w, mLcnt, eqD_ii, mJoin, oTupOf_w, oIsBl_w, cCalm, i0, i1, i2, i3])
    refine ⟨l, w, b, d, rfl, ok, ?_⟩
    rw [ft]
    refine same_yes rfl rfl ?_
    (try simp only [mVar, mC, mOp, mUn, mNil, mCons, mTup, mLst, mCall, mCallX, mCallKX, mCB, mTest, mAnd, mOr, mNot, mYes, mAndV, mOrV, mNotV, mIf, mIsN, mNotN, mChain, mSeq, mNext, mBrk, mCnt, mRet, mRetN, mIfS, mDrop, mAsg, mOwn, mLstO, mListC, mLcO, oCatO, mShr, mApp, mPutI, mFrz, frz_w, mFor, mPar, mAug, mRaise, mTry, tryM, mKind, mLc, mList, mTupl, mListOwn, mRng1, mRng2, mEnum, mZip, mRev, mgName, mLenV, mIxV, mNoPart, mPart, mSl, wipeE, lcTurn, startE, oI_w, oB_w, oIC_w, oU_w, isB_w, oEq_w, oNe_w, exS_w, oIx_w, items_l, items_t, oLen_w, oAbs_w, oInt_i, oInt_b, oGcd_w, oMax_w, oMax3_w, oMin_w, oDivmod_w, oStr_w, oType_w, oIs1_w, oIs2_w, oIsTy_w, oCat_w, oIsN_w, oNotN_w, exD_w, exO_w, exD2_w, exO2_w, exL_w, exT_w, exI_w, ex1_w, ex1i_w, mSeqV_w, exX_w, seqOf_o, seqOf_d, mgCons_w, mgNil_w, mgTup_w, exPar_w, listC_w, putI_w, ixV_w, rng1_w, rng2_w, lcGo_n, lcGo_c, forGo_n, forGo_c, scEq_i, scEq_b, scEq_s, scEq_n, tyT, isNon, k_ii, k_ib, k_is, k_il, k_it, k_bi, k_bb, k_bs, k_bl, k_bt, k_ni, k_nb, k_ns, k_nl, k_nt, k_si, k_sb, k_ss, k_sl, k_st, k_li, k_lb, k_ls, k_ll, k_lt, k_ti, k_tb, k_ts, k_tl, k_tt, List.map_cons, List.map_nil, List.length_cons, List.length_nil, List.replicate, List.cons_append, List.nil_append, List.append_nil, List.getElem?_cons_zero, List.getElem?_cons_succ, List.set_cons_zero, List.set_cons_succ, Nat.sub_self, Nat.reduceAdd, Nat.reduceSub, List.replicate_zero, decide_eq_true_eq, Bool.true_eq_false, Bool.false_eq_true, if_true, if_false, reduceIte, Bool.not_eq_true', decide_eq_false_iff_not, Bool.not_true, Bool.not_false, exists_eq_left', true_and, and_true, Option.some.injEq, reduceCtorEq, decide_true, decide_false, not_true_eq_false, not_false_eq_true, Nat.reduceLT, Bool.or_false, Bool.or_true, Bool.false_or, Bool.true_or, Bool.and_true, Bool.true_and, Bool.and_false, Bool.false_and, true_implies, mFld, mFldS, mFldO, mProp, mMeth, mMethX, mInW, mCallXD, exOb_w, exOb2_w, exObD_w, exObD2_w, exObj_w, exObj0_w, exObjC_w, oIsNTy_w, mLcnt, eqD_ii, mJoin, oTupOf_w, oIsBl_w, cCalm])
    refine ⟨fun i env => ∃ z, env = [some (Sl.d (.tup [.int l, .int w, .int b, .int d])), some (Sl.d (.lst vs)), z], ⟨_, rfl⟩, ?_, ?_⟩
    · rintro i v env hi ⟨z, rfl⟩
      (try simp only [mVar, mC, mOp, mUn, mNil, mCons, mTup, mLst, mCall, mCallX, mCallKX, mCB, mTest, mAnd, mOr, mNot, mYes, mAndV, mOrV, mNotV, mIf, mIsN, mNotN, mChain, mSeq, mNext, mBrk, mCnt, mRet, mRetN, mIfS, mDrop, mAsg, mOwn, mLstO, mListC, mLcO, oCatO, mShr, mApp, mPutI, mFrz, frz_w, mFor, mPar, mAug, mRaise, mTry, tryM, mKind, mLc, mList, mTupl, mListOwn, mRng1, mRng2, mEnum, mZip, mRev, mgName, mLenV, mIxV, mNoPart, mPart, mSl, wipeE, lcTurn, startE, oI_w, oB_w, oIC_w, oU_w, isB_w, oEq_w, oNe_w, exS_w, oIx_w, items_l, items_t, oLen_w, oAbs_w, oInt_i, oInt_b, oGcd_w, oMax_w, oMax3_w, oMin_w, oDivmod_w, oStr_w, oType_w, oIs1_w, oIs2_w, oIsTy_w, oCat_w, oIsN_w, oNotN_w, exD_w, exO_w, exD2_w, exO2_w, exL_w, exT_w, exI_w, ex1_w, ex1i_w, mSeqV_w, exX_w, seqOf_o, seqOf_d, mgCons_w, mgNil_w, mgTup_w, exPar_w, listC_w, putI_w, ixV_w, rng1_w, rng2_w, lcGo_n, lcGo_c, forGo_n, forGo_c, scEq_i, scEq_b, scEq_s, scEq_n, tyT, isNon, k_ii, k_ib, k_is, k_il, k_it, k_bi, k_bb, k_bs, k_bl, k_bt, k_ni, k_nb, k_ns, k_nl, k_nt, k_si, k_sb, k_ss, k_sl, k_st, k_li, k_lb, k_ls, k_ll, k_lt, k_ti, k_tb, k_ts, k_tl, k_tt, List.map_cons, List.map_nil, List.length_cons, List.length_nil, List.replicate, List.cons_append, List.nil_append, List.append_nil, List.getElem?_cons_zero, List.getElem?_cons_succ, List.set_cons_zero, List.set_cons_succ, Nat.sub_self, Nat.reduceAdd, Nat.reduceSub, List.replicate_zero, decide_eq_true_eq, Bool.true_eq_false, Bool.false_eq_true, if_true, if_false, reduceIte, Bool.not_eq_true', decide_eq_false_iff_not, Bool.not_true, Bool.not_false, exists_eq_left', true_and, and_true, Option.some.injEq, reduceCtorEq, decide_true, decide_false, not_true_eq_false, not_false_eq_true, Nat.reduceLT, Bool.or_false, Bool.or_true, Bool.false_or, Bool.true_or, Bool.and_true, Bool.true_and, Bool.and_false, Bool.false_and, true_implies, mFld, mFldS, mFldO, mProp, mMeth, mMethX, mInW, mCallXD, exOb_w, exOb2_w, exObD_w, exObD2_w, exObj_w, exObj0_w, exObjC_w, oIsNTy_w, mLcnt, eqD_ii, mJoin, oTupOf_w, oIsBl_w, cCalm])
      refine ⟨l, w, b, d, v, false, rfl, ok, hv v (List.mem_of_getElem? hi), ⟨fun z => (nomatch z), fun z => absurd z (bar_none ok ft v)⟩, ?_⟩
      (try simp only [mVar, mC, mOp, mUn, mNil, mCons, mTup, mLst, mCall, mCallX, mCallKX, mCB, mTest, mAnd, mOr, mNot, mYes, mAndV, mOrV, mNotV, mIf, mIsN, mNotN, mChain, mSeq, mNext, mBrk, mCnt, mRet, mRetN, mIfS, mDrop, mAsg, mOwn, mLstO, mListC, mLcO, oCatO, mShr, mApp, mPutI, mFrz, frz_w, mFor, mPar, mAug, mRaise, mTry, tryM, mKind, mLc, mList, mTupl, mListOwn, mRng1, mRng2, mEnum, mZip, mRev, mgName, mLenV, mIxV, mNoPart, mPart, mSl, wipeE, lcTurn, startE, oI_w, oB_w, oIC_w, oU_w, isB_w, oEq_w, oNe_w, exS_w, oIx_w, items_l, items_t, oLen_w, oAbs_w, oInt_i, oInt_b, oGcd_w, oMax_w, oMax3_w, oMin_w, oDivmod_w, oStr_w, oType_w, oIs1_w, oIs2_w, oIsTy_w, oCat_w, oIsN_w, oNotN_w, exD_w, exO_w, exD2_w, exO2_w, exL_w, exT_w, exI_w, ex1_w, ex1i_w, mSeqV_w, exX_w, seqOf_o, seqOf_d, mgCons_w, mgNil_w, mgTup_w, exPar_w, listC_w, putI_w, ixV_w, rng1_w, rng2_w, lcGo_n, lcGo_c, forGo_n, forGo_c, scEq_i, scEq_b, scEq_s, scEq_n, tyT, isNon, k_ii, k_ib, k_is, k_il, k_it, k_bi, k_bb, k_bs, k_bl, k_bt, k_ni, k_nb, k_ns, k_nl, k_nt, k_si, k_sb, k_ss, k_sl, k_st, k_li, k_lb, k_ls, k_ll, k_lt, k_ti, k_tb, k_ts, k_tl, k_tt, List.map_cons, List.map_nil, List.length_cons, List.length_nil, List.replicate, List.cons_append, List.nil_append, List.append_nil, List.getElem?_cons_zero, List.getElem?_cons_succ, List.set_cons_zero, List.set_cons_succ, Nat.sub_self, Nat.reduceAdd, Nat.reduceSub, List.replicate_zero, decide_eq_true_eq, Bool.true_eq_false, Bool.false_eq_true, if_true, if_false, reduceIte, Bool.not_eq_true', decide_eq_false_iff_not, Bool.not_true, Bool.not_false, exists_eq_left', true_and, and_true, Option.some.injEq, reduceCtorEq, decide_true, decide_false, not_true_eq_false, not_false_eq_true, Nat.reduceLT, Bool.or_false, Bool.or_true, Bool.false_or, Bool.true_or, Bool.and_true, Bool.true_and, Bool.and_false, Bool.false_and, true_implies, mFld, mFldS, mFldO, mProp, mMeth, mMethX, mInW, mCallXD, exOb_w, exOb2_w, exObD_w, exObD2_w, exObj_w, exObj0_w, exObjC_w, oIsNTy_w, mLcnt, eqD_ii, mJoin, oTupOf_w, oIsBl_w, cCalm])
      exact ⟨_, rfl⟩
    · rintro env ⟨z, rfl⟩
      exact hk
end
end Mt
namespace Mt
open PySem PySem.Spec PyProof.Rows L2 L2H
section
variable {P : Program} {w : World} {K : PySem.W.Frag} {mg : Str → Option Value} {base : Heap} {f : Addr} {fd : FuncData} {A : Ad} {tk : Nat → Tok} {aBurstRule : Addr}
theorem ok_law_takes_long (F : Fun K "_law_takes_long" "_law_takes_long" s_law_takes_long f fd) (Tx : Txt K mg A tk aBurstRule) (C_law_counted : Cal P w K mg base "_law_counted" 1 ["setting", "pattern"] (SpU A 2 c_law_counted)) (C_law_edge : Cal P w K mg base "_law_edge" 3 ["store", "low", "high"] (SpU A 3 c_law_edge)) (C_law_is_bar : CalX P w K mg base "_law_is_bar" 10 ["setting", "paper", "due"] (SpU A 3 (c_law_is_bar aBurstRule))) (C_law_round : Cal P w K mg base "_law_round" 1 ["lost", "heard", "beats"] (SpU A 3 c_law_round)) (C_law_same : Cal P w K mg base "_law_same" 8 ["left", "right"] (SpU A 2 (c_law_same 7))) (C_law_take : Cal P w K mg base "_law_take" 2 ["store", "many"] (SpU A 2 c_law_take)) (C_can_make : CalX P w K mg base "can_make" 5 ["letters", "signs", "burst", "delay"] (SpU A 4 c_can_make)) :
    FnOk P w K mg base (CN P w) 11 f fd ["store", "setting"] (SpU A 2 (c_law_takes_long aBurstRule)) := by
  refine okN F sc_law_takes_long (fun vs H Q E h => h.len) (fun cdv Ar outer s H vs Q E hr h => ?_)
  obtain ⟨st, P0, ds, k, XA, h1, h2, h3, hc, h5, h6⟩ := h
  refine ⟨_, (pss_cons (ps_if (pt_not (pt_val (p_call C_law_same hr (pa_cons (p_callX C_can_make hr (L2N.takes_of rfl rfl rfl rfl) (pa_cons (pe_ix ix_H (pv 1) pe_int (fun _ _ => rfl)) (pa_cons (pe_ix ix_H (pv 1) pe_int (fun _ _ => rfl)) (pa_cons (pe_ix ix_H (pv 1) pe_int (fun _ _ => rfl)) (pa_cons (pe_ix ix_H (pv 1) pe_int (fun _ _ => rfl)) pa_nil)))) (by omega)) (pa_cons pe_bl pa_nil)) (by omega)))) (pss_one (ps_ret pe_bl)) pss_nil)
      (pss_cons (ps_set (i := 2) sc_law_takes_long.nd rfl (.inl rfl) (pe_op op_add (pe_ix ix_H (pv 1) pe_int (fun _ _ => rfl)) (pe_ix ix_H (pv 1) pe_int (fun _ _ => rfl))))
      (pss_cons (ps_if (pt_cmpR op_gt (pe_ix ix_H (pv 1) pe_int (fun _ _ => rfl)) (pe_ix ix_H (pv 1) pe_int (fun _ _ => rfl)) (nomark _)) (pss_one (ps_set (i := 5) sc_law_takes_long.nd rfl (.inl rfl) (p_call C_law_edge hr (pa_cons (pv 0) (pa_cons (pe_op op_add (pe_ix ix_H (pv 1) pe_int (fun _ _ => rfl)) pe_int) (pa_cons (pe_ix ix_H (pv 1) pe_int (fun _ _ => rfl)) pa_nil))) (by omega)))) (pss_one (ps_if (pt_cmpR op_eq (p_call C_law_take hr (pa_cons (pv 0) (pa_cons pe_int pa_nil)) (by omega)) pe_int (nomark _)) (pss_one (ps_set (i := 5) sc_law_takes_long.nd rfl (.inl rfl) (pe_op op_mul (pe_op op_fdivW pe_int (pv 2)) (pv 2)))) (pss_one (ps_set (i := 5) sc_law_takes_long.nd rfl (.inl rfl) (pe_op op_mul (pe_op op_add (pe_op op_mul (pe_ix ix_H (pv 1) pe_int (fun _ _ => rfl)) (pe_ix ix_H (pv 1) pe_int (fun _ _ => rfl))) pe_int) (pv 2)))))))
      (pss_cons (ps_set (i := 3) sc_law_takes_long.nd rfl (.inl rfl) (p_call C_law_counted hr (pa_cons (pv 1) (pa_cons (p_call C_law_round hr (pa_cons (pe_ix ix_H (pv 1) pe_int (fun _ _ => rfl)) (pa_cons (pe_ix ix_H (pv 1) pe_int (fun _ _ => rfl)) (pa_cons (pv 5) pa_nil))) (by omega)) pa_nil)) (by omega)))
      (pss_cons (ps_set (i := 4) sc_law_takes_long.nd rfl (.inl rfl) (pe_op op_sub pe_int (pe_op op_mul pe_int (p_call C_law_take hr (pa_cons (pv 0) (pa_cons pe_int pa_nil)) (by omega)))))
      (pss_cons (ps_if (pt_not (pt_val (p_callX C_law_is_bar hr (L2N.takes_of rfl rfl rfl rfl) (pa_cons (pv 1) (pa_cons (pe_tup (pa_cons (pe_ix ix_H (pv 3) pe_int (fun _ _ => rfl)) (pa_cons (pe_op op_add (pe_ix ix_H (pv 3) pe_int (fun _ _ => rfl)) (pv 4)) (pa_cons (pe_ix ix_H (pv 3) pe_int (fun _ _ => rfl)) pa_nil)))) (pa_cons pe_bl pa_nil))) (by omega)))) (pss_one (ps_ret pe_bl)) pss_nil)
      (pss_one (ps_ret (pe_and (p_callX C_law_is_bar hr (L2N.takes_of rfl rfl rfl rfl) (pa_cons (pv 1) (pa_cons (pv 3) (pa_cons pe_bl pa_nil))) (by omega)) (pe_one (p_callX C_law_is_bar hr (L2N.takes_of rfl rfl rfl rfl) (pa_cons (pv 1) (pa_cons (pe_tup (pa_cons (pe_ix ix_H (pv 3) pe_int (fun _ _ => rfl)) (pa_cons (pe_ix ix_H (pv 3) pe_int (fun _ _ => rfl)) (pa_cons (pe_op op_add (pe_ix ix_H (pv 3) pe_int (fun _ _ => rfl)) (pv 4)) pa_nil)))) (pa_cons pe_bl pa_nil))) (by omega)))))))))))), ?_⟩
  refine runX (ms := ?ms) h1 h2 h5 h6 (fun _ _ _ _ h => h) ?r ?u
  case r => exact (rs_seq (rs_if (rt_not (rt_B (re_call (ra_cons (re_callX (ra_cons (re_op ro_ix re_var re_int) (ra_cons (re_op ro_ix re_var re_int) (ra_cons (re_op ro_ix re_var re_int) (ra_cons (re_op ro_ix re_var re_int) ra_nil))))) (ra_cons re_bl ra_nil))))) (rs_ret re_bl) rs_next)
      (rs_seq (rs_asg (re_op ro_int (re_op ro_ix re_var re_int) (re_op ro_ix re_var re_int)) rg_name)
      (rs_seq (rs_if (rt_test (re_op ro_bool (re_op ro_ix re_var re_int) (re_op ro_ix re_var re_int))) (rs_asg (re_call (ra_cons re_var (ra_cons (re_op ro_int (re_op ro_ix re_var re_int) re_int) (ra_cons (re_op ro_ix re_var re_int) ra_nil)))) rg_name) (rs_if (rt_test (re_op ro_eq (re_call (ra_cons re_var (ra_cons re_int ra_nil))) re_int)) (rs_asg (re_op ro_intC (re_op ro_intC re_int re_var) re_var) rg_name) (rs_asg (re_op ro_intC (re_op ro_int (re_op ro_intC (re_op ro_ix re_var re_int) (re_op ro_ix re_var re_int)) re_int) re_var) rg_name)))
      (rs_seq (rs_asg (re_call (ra_cons re_var (ra_cons (re_call (ra_cons (re_op ro_ix re_var re_int) (ra_cons (re_op ro_ix re_var re_int) (ra_cons re_var ra_nil)))) ra_nil))) rg_name)
      (rs_seq (rs_asg (re_op ro_int re_int (re_op ro_intC re_int (re_call (ra_cons re_var (ra_cons re_int ra_nil))))) rg_name)
      (rs_seq (rs_if (rt_not (rt_B (re_callX (ra_cons re_var (ra_cons (re_tup (ra_cons (re_op ro_ix re_var re_int) (ra_cons (re_op ro_int (re_op ro_ix re_var re_int) re_var) (ra_cons (re_op ro_ix re_var re_int) ra_nil)))) (ra_cons re_bl ra_nil)))))) (rs_ret re_bl) rs_next)
      (rs_ret (re_andV (re_callX (ra_cons re_var (ra_cons re_var (ra_cons re_bl ra_nil)))) (re_callX (ra_cons re_var (ra_cons (re_tup (ra_cons (re_op ro_ix re_var re_int) (ra_cons (re_op ro_ix re_var re_int) (ra_cons (re_op ro_int (re_op ro_ix re_var re_int) re_var) ra_nil)))) (ra_cons re_bl ra_nil))))))))))))
  case u =>
    clear h1 h2 h5 h6 hr
    obtain ⟨l, w, b, d, rfl, ok, l1, b1, ft, hk⟩ := hc
    have i0 : ∀ {α : Type} {x y z t : α}, atI [x, y, z, t] 0 = some x := rfl
    have i1 : ∀ {α : Type} {x y z t : α}, atI [x, y, z, t] 1 = some y := rfl
    have i2 : ∀ {α : Type} {x y z t : α}, atI [x, y, z, t] 2 = some z := rfl
    have i3 : ∀ {α : Type} {x y z t : α}, atI [x, y, z, t] 3 = some t := rfl
    (try simp only [mVar, mC, mOp, mUn, mNil, mCons, mTup, mLst, mCall, mCallX, mCallKX, mCB, mTest, mAnd, mOr, mNot, mYes, mAndV, mOrV, mNotV, mIf, mIsN, mNotN, mChain, mSeq, mNext, mBrk, mCnt, mRet, mRetN, mIfS, mDrop, mAsg, mOwn, mLstO, mListC, mLcO, oCatO, mShr, mApp, mPutI, mFrz, frz_w, mFor, mPar, mAug, mRaise, mTry, tryM, mKind, mLc, mList, mTupl, mListOwn, mRng1, mRng2, mEnum, mZip, mRev, mgName, mLenV, mIxV, mNoPart, mPart, mSl, wipeE, lcTurn, startE, oI_w, oB_w, oIC_w, oU_w, isB_w, oEq_w, oNe_w, exS_w, oIx_w, items_l, items_t, oLen_w, oAbs_w, oInt_i, oInt_b, oGcd_w, oMax_w, oMax3_w, oMin_w, oDivmod_w, oStr_w, oType_w, oIs1_w, oIs2_w, oIsTy_w, oCat_w, oIsN_w, oNotN_w, exD_w, exO_w, exD2_w, exO2_w, exL_w, exT_w, exI_w, ex1_w, ex1i_w, mSeqV_w, exX_w, seqOf_o, seqOf_d, mgCons_w, mgNil_w, mgTup_w, exPar_w, listC_w, putI_w, ixV_w, rng1_w, rng2_w, lcGo_n, lcGo_c, forGo_n, forGo_c, scEq_i, scEq_b, scEq_s, scEq_n, tyT, isNon, k_ii, k_ib, k_is, k_il, k_it, k_bi, k_bb, k_bs, k_bl, k_bt, k_ni, k_nb, k_ns, k_nl, k_nt, k_si, k_sb, k_ss, k_sl, k_st, k_li, k_lb, k_ls, k_ll, k_lt, k_ti, k_tb, k_ts, k_tl, k_tt, List.map_cons, List.map_nil, List.length_cons, List.length_nil, List.replicate, List.cons_append, List.nil_append, List.append_nil, List.getElem?_cons_zero, List.getElem?_cons_succ, List.set_cons_zero, List.set_cons_succ, Nat.sub_self, Nat.reduceAdd, Nat.reduceSub, List.replicate_zero, decide_eq_true_eq, Bool.true_eq_false, Bool.false_eq_true, if_true, if_false, reduceIte, Bool.not_eq_true', decide_eq_false_iff_not, Bool.not_true, Bool.not_false, exists_eq_left', true_and, and_true, Option.some.injEq, reduceCtorEq, decide_true, decide_false, not_true_eq_false, not_false_eq_true, Nat.reduceLT, Bool.or_false, Bool.or_true, Bool.false_or, Bool.true_or, Bool.and_true, Bool.true_and, Bool.and_false, Bool.false_and, true_implies, mFld, mFldS, mFldO, mProp, mMeth, mMethX, mInW, mCallXD, exOb_w, exOb2_w, exObD_w, exObD2_w, exObj_w, exObj0_w, exObjC_w, oIsNTy_w, mLcnt, eqD_ii, mJoin, oTupOf_w, oIsBl_w, cCalm, i0, i1, i2, i3])
    refine ⟨l, w, b, d, rfl, ok, ?_⟩
    rw [ft]
    refine same_yes rfl rfl ?_
    (try simp only [mVar, mC, mOp, mUn, mNil, mCons, mTup, mLst, mCall, mCallX, mCallKX, mCB, mTest, mAnd, mOr, mNot, mYes, mAndV, mOrV, mNotV, mIf, mIsN, mNotN, mChain, mSeq, mNext, mBrk, mCnt, mRet, mRetN, mIfS, mDrop, mAsg, mOwn, mLstO, mListC, mLcO, oCatO, mShr, mApp, mPutI, mFrz, frz_w, mFor, mPar, mAug, mRaise, mTry, tryM, mKind, mLc, mList, mTupl, mListOwn, mRng1, mRng2, mEnum, mZip, mRev, mgName, mLenV, mIxV, mNoPart, mPart, mSl, wipeE, lcTurn, startE, oI_w, oB_w, oIC_w, oU_w, isB_w, oEq_w, oNe_w, exS_w, oIx_w, items_l, items_t, oLen_w, oAbs_w, oInt_i, oInt_b, oGcd_w, oMax_w, oMax3_w, oMin_w, oDivmod_w, oStr_w, oType_w, oIs1_w, oIs2_w, oIsTy_w, oCat_w, oIsN_w, oNotN_w, exD_w, exO_w, exD2_w, exO2_w, exL_w, exT_w, exI_w, ex1_w, ex1i_w, mSeqV_w, exX_w, seqOf_o, seqOf_d, mgCons_w, mgNil_w, mgTup_w, exPar_w, listC_w, putI_w, ixV_w, rng1_w, rng2_w, lcGo_n, lcGo_c, forGo_n, forGo_c, scEq_i, scEq_b, scEq_s, scEq_n, tyT, isNon, k_ii, k_ib, k_is, k_il, k_it, k_bi, k_bb, k_bs, k_bl, k_bt, k_ni, k_nb, k_ns, k_nl, k_nt, k_si, k_sb, k_ss, k_sl, k_st, k_li, k_lb, k_ls, k_ll, k_lt, k_ti, k_tb, k_ts, k_tl, k_tt, List.map_cons, List.map_nil, List.length_cons, List.length_nil, List.replicate, List.cons_append, List.nil_append, List.append_nil, List.getElem?_cons_zero, List.getElem?_cons_succ, List.set_cons_zero, List.set_cons_succ, Nat.sub_self, Nat.reduceAdd, Nat.reduceSub, List.replicate_zero, decide_eq_true_eq, Bool.true_eq_false, Bool.false_eq_true, if_true, if_false, reduceIte, Bool.not_eq_true', decide_eq_false_iff_not, Bool.not_true, Bool.not_false, exists_eq_left', true_and, and_true, Option.some.injEq, reduceCtorEq, decide_true, decide_false, not_true_eq_false, not_false_eq_true, Nat.reduceLT, Bool.or_false, Bool.or_true, Bool.false_or, Bool.true_or, Bool.and_true, Bool.true_and, Bool.and_false, Bool.false_and, true_implies, mFld, mFldS, mFldO, mProp, mMeth, mMethX, mInW, mCallXD, exOb_w, exOb2_w, exObD_w, exObD2_w, exObj_w, exObj0_w, exObjC_w, oIsNTy_w, mLcnt, eqD_ii, mJoin, oTupOf_w, oIsBl_w, cCalm, i0, i1, i2, i3])
    have d1 := ok.d0
    have d6 := ok.d1
    have b8 := ok.b1
    have l0 := ok.l0
    have l8 := ok.l1
    have w0 := ok.w0
    have w1 := ok.w1
    have t0 : ∀ {α : Type} {x y z : α}, atI [x, y, z] 0 = some x := rfl
    have t1 : ∀ {α : Type} {x y z : α}, atI [x, y, z] 1 = some y := rfl
    have t2 : ∀ {α : Type} {x y z : α}, atI [x, y, z] 2 = some z := rfl
    have ld1 : l * d ≤ 8 * 6 := Int.mul_le_mul l8 d6 (by omega) (by decide)
    have ld0 : 0 ≤ l * d := Int.mul_nonneg l0 (by omega)
    have gapB : ∀ q : Nat, b ≤ d → l * d + 1 ≤ (q : Int) → ∀ n : Nat, (n : Int) = (q : Int) * (b + d) → w * (heardF (rndF b d n) : Int) < l * max 0 ((n : Int) - d) := by
      intro q hb hq n hn
      have un : w * d + 1 ≤ l * (b + d) := by
        unfold fitB at ft
        rw [Bool.or_eq_false_iff, Bool.and_eq_false_iff, decide_eq_false_iff_not, decide_eq_false_iff_not, decide_eq_false_iff_not] at ft
        have h2 : ¬ l * (d + b) ≤ w * d := ft.2.resolve_left fun h => h hb
        rw [Int.add_comm b d]
        omega
      have g := long_gap (q := (q : Int)) l0 (by omega) un hq
      have c0 : (0 : Int) < b + d := by omega
      have qc : d ≤ (q : Int) * (b + d) := by
        have := Int.mul_le_mul_of_nonneg_right (show (1 : Int) ≤ q by omega) (show 0 ≤ b + d by omega)
        omega
      rw [heard_round b1 d1, hn, Int.mul_ediv_cancel _ (by omega), Int.mul_emod_left, show max 0 ((0 : Int) - b) = 0 by omega, Int.add_zero, show max 0 ((q : Int) * (b + d) - d) = (q : Int) * (b + d) - d by omega]
      exact g
    refine ite2 (fun z => ⟨d + 1, b, rfl, by omega, by omega, fun n n0 n1 => ?_⟩) (fun z => ⟨8, rfl, by decide, fun r _ _ => ?_⟩)
    · obtain ⟨N, rfl⟩ := Int.eq_ofNat_of_zero_le (show 0 ≤ n by omega)
      have hN : N ≤ 800 := by omega
      have hB : w * (heardF (rndF b d N) : Int) < l * max 0 ((N : Int) - d) := by
        rw [heard_round b1 d1, Int.ediv_eq_zero_of_lt (by omega) (by omega), Int.emod_eq_of_lt (by omega) (by omega), Int.zero_mul, show max 0 ((N : Int) - b) = 0 by omega, Int.add_zero, Int.mul_zero]
        exact Int.mul_pos (by omega) (by omega)
      refine ⟨b, d, N, rfl, by omega, by omega, by omega, by omega, by omega, by omega, ?_⟩
      rw [rnd_flags]
      refine ⟨l, w, b, d, rndF b d N, rfl, ok, by rw [rnd_len]; omega, ?_⟩
      refine ⟨2, rfl, by decide, fun r r0 r1 => ?_⟩
      have r2 : r = 0 ∨ r = 1 := by omega
      have okp : ∀ a c : Int, okT 7 (.tup [.lst ((rndF b d N).map flagT), .int a, .int c]) = true := fun a c => by simp [okT, okTs, okTs_flags]
      (try simp only [mVar, mC, mOp, mUn, mNil, mCons, mTup, mLst, mCall, mCallX, mCallKX, mCB, mTest, mAnd, mOr, mNot, mYes, mAndV, mOrV, mNotV, mIf, mIsN, mNotN, mChain, mSeq, mNext, mBrk, mCnt, mRet, mRetN, mIfS, mDrop, mAsg, mOwn, mLstO, mListC, mLcO, oCatO, mShr, mApp, mPutI, mFrz, frz_w, mFor, mPar, mAug, mRaise, mTry, tryM, mKind, mLc, mList, mTupl, mListOwn, mRng1, mRng2, mEnum, mZip, mRev, mgName, mLenV, mIxV, mNoPart, mPart, mSl, wipeE, lcTurn, startE, oI_w, oB_w, oIC_w, oU_w, isB_w, oEq_w, oNe_w, exS_w, oIx_w, items_l, items_t, oLen_w, oAbs_w, oInt_i, oInt_b, oGcd_w, oMax_w, oMax3_w, oMin_w, oDivmod_w, oStr_w, oType_w, oIs1_w, oIs2_w, oIsTy_w, oCat_w, oIsN_w, oNotN_w, exD_w, exO_w, exD2_w, exO2_w, exL_w, exT_w, exI_w, ex1_w, ex1i_w, mSeqV_w, exX_w, seqOf_o, seqOf_d, mgCons_w, mgNil_w, mgTup_w, exPar_w, listC_w, putI_w, ixV_w, rng1_w, rng2_w, lcGo_n, lcGo_c, forGo_n, forGo_c, scEq_i, scEq_b, scEq_s, scEq_n, tyT, isNon, k_ii, k_ib, k_is, k_il, k_it, k_bi, k_bb, k_bs, k_bl, k_bt, k_ni, k_nb, k_ns, k_nl, k_nt, k_si, k_sb, k_ss, k_sl, k_st, k_li, k_lb, k_ls, k_ll, k_lt, k_ti, k_tb, k_ts, k_tl, k_tt, List.map_cons, List.map_nil, List.length_cons, List.length_nil, List.replicate, List.cons_append, List.nil_append, List.append_nil, List.getElem?_cons_zero, List.getElem?_cons_succ, List.set_cons_zero, List.set_cons_succ, Nat.sub_self, Nat.reduceAdd, Nat.reduceSub, List.replicate_zero, decide_eq_true_eq, Bool.true_eq_false, Bool.false_eq_true, if_true, if_false, reduceIte, Bool.not_eq_true', decide_eq_false_iff_not, Bool.not_true, Bool.not_false, exists_eq_left', true_and, and_true, Option.some.injEq, reduceCtorEq, decide_true, decide_false, not_true_eq_false, not_false_eq_true, Nat.reduceLT, Bool.or_false, Bool.or_true, Bool.false_or, Bool.true_or, Bool.and_true, Bool.true_and, Bool.and_false, Bool.false_and, true_implies, mFld, mFldS, mFldO, mProp, mMeth, mMethX, mInW, mCallXD, exOb_w, exOb2_w, exObD_w, exObD2_w, exObj_w, exObj0_w, exObjC_w, oIsNTy_w, mLcnt, eqD_ii, mJoin, oTupOf_w, oIsBl_w, cCalm, t0, t1, t2])
      refine ⟨Or.inl ⟨by omega, by omega⟩, l, w, b, d, _, false, rfl, ok, okp _ _, ⟨fun z => (nomatch z), fun z => absurd z (off_bar (by omega))⟩, ?_⟩
      (try simp only [mVar, mC, mOp, mUn, mNil, mCons, mTup, mLst, mCall, mCallX, mCallKX, mCB, mTest, mAnd, mOr, mNot, mYes, mAndV, mOrV, mNotV, mIf, mIsN, mNotN, mChain, mSeq, mNext, mBrk, mCnt, mRet, mRetN, mIfS, mDrop, mAsg, mOwn, mLstO, mListC, mLcO, oCatO, mShr, mApp, mPutI, mFrz, frz_w, mFor, mPar, mAug, mRaise, mTry, tryM, mKind, mLc, mList, mTupl, mListOwn, mRng1, mRng2, mEnum, mZip, mRev, mgName, mLenV, mIxV, mNoPart, mPart, mSl, wipeE, lcTurn, startE, oI_w, oB_w, oIC_w, oU_w, isB_w, oEq_w, oNe_w, exS_w, oIx_w, items_l, items_t, oLen_w, oAbs_w, oInt_i, oInt_b, oGcd_w, oMax_w, oMax3_w, oMin_w, oDivmod_w, oStr_w, oType_w, oIs1_w, oIs2_w, oIsTy_w, oCat_w, oIsN_w, oNotN_w, exD_w, exO_w, exD2_w, exO2_w, exL_w, exT_w, exI_w, ex1_w, ex1i_w, mSeqV_w, exX_w, seqOf_o, seqOf_d, mgCons_w, mgNil_w, mgTup_w, exPar_w, listC_w, putI_w, ixV_w, rng1_w, rng2_w, lcGo_n, lcGo_c, forGo_n, forGo_c, scEq_i, scEq_b, scEq_s, scEq_n, tyT, isNon, k_ii, k_ib, k_is, k_il, k_it, k_bi, k_bb, k_bs, k_bl, k_bt, k_ni, k_nb, k_ns, k_nl, k_nt, k_si, k_sb, k_ss, k_sl, k_st, k_li, k_lb, k_ls, k_ll, k_lt, k_ti, k_tb, k_ts, k_tl, k_tt, List.map_cons, List.map_nil, List.length_cons, List.length_nil, List.replicate, List.cons_append, List.nil_append, List.append_nil, List.getElem?_cons_zero, List.getElem?_cons_succ, List.set_cons_zero, List.set_cons_succ, Nat.sub_self, Nat.reduceAdd, Nat.reduceSub, List.replicate_zero, decide_eq_true_eq, Bool.true_eq_false, Bool.false_eq_true, if_true, if_false, reduceIte, Bool.not_eq_true', decide_eq_false_iff_not, Bool.not_true, Bool.not_false, exists_eq_left', true_and, and_true, Option.some.injEq, reduceCtorEq, decide_true, decide_false, not_true_eq_false, not_false_eq_true, Nat.reduceLT, Bool.or_false, Bool.or_true, Bool.false_or, Bool.true_or, Bool.and_true, Bool.true_and, Bool.and_false, Bool.false_and, true_implies, mFld, mFldS, mFldO, mProp, mMeth, mMethX, mInW, mCallXD, exOb_w, exOb2_w, exObD_w, exObD2_w, exObj_w, exObj0_w, exObjC_w, oIsNTy_w, mLcnt, eqD_ii, mJoin, oTupOf_w, oIsBl_w, cCalm, t0, t1, t2])
      refine ⟨l, w, b, d, _, true, rfl, ok, okp _ _, ⟨fun _ => rnd_bar b1 d1 hN hB, fun _ => rfl⟩, ?_⟩
      (try simp only [mVar, mC, mOp, mUn, mNil, mCons, mTup, mLst, mCall, mCallX, mCallKX, mCB, mTest, mAnd, mOr, mNot, mYes, mAndV, mOrV, mNotV, mIf, mIsN, mNotN, mChain, mSeq, mNext, mBrk, mCnt, mRet, mRetN, mIfS, mDrop, mAsg, mOwn, mLstO, mListC, mLcO, oCatO, mShr, mApp, mPutI, mFrz, frz_w, mFor, mPar, mAug, mRaise, mTry, tryM, mKind, mLc, mList, mTupl, mListOwn, mRng1, mRng2, mEnum, mZip, mRev, mgName, mLenV, mIxV, mNoPart, mPart, mSl, wipeE, lcTurn, startE, oI_w, oB_w, oIC_w, oU_w, isB_w, oEq_w, oNe_w, exS_w, oIx_w, items_l, items_t, oLen_w, oAbs_w, oInt_i, oInt_b, oGcd_w, oMax_w, oMax3_w, oMin_w, oDivmod_w, oStr_w, oType_w, oIs1_w, oIs2_w, oIsTy_w, oCat_w, oIsN_w, oNotN_w, exD_w, exO_w, exD2_w, exO2_w, exL_w, exT_w, exI_w, ex1_w, ex1i_w, mSeqV_w, exX_w, seqOf_o, seqOf_d, mgCons_w, mgNil_w, mgTup_w, exPar_w, listC_w, putI_w, ixV_w, rng1_w, rng2_w, lcGo_n, lcGo_c, forGo_n, forGo_c, scEq_i, scEq_b, scEq_s, scEq_n, tyT, isNon, k_ii, k_ib, k_is, k_il, k_it, k_bi, k_bb, k_bs, k_bl, k_bt, k_ni, k_nb, k_ns, k_nl, k_nt, k_si, k_sb, k_ss, k_sl, k_st, k_li, k_lb, k_ls, k_ll, k_lt, k_ti, k_tb, k_ts, k_tl, k_tt, List.map_cons, List.map_nil, List.length_cons, List.length_nil, List.replicate, List.cons_append, List.nil_append, List.append_nil, List.getElem?_cons_zero, List.getElem?_cons_succ, List.set_cons_zero, List.set_cons_succ, Nat.sub_self, Nat.reduceAdd, Nat.reduceSub, List.replicate_zero, decide_eq_true_eq, Bool.true_eq_false, Bool.false_eq_true, if_true, if_false, reduceIte, Bool.not_eq_true', decide_eq_false_iff_not, Bool.not_true, Bool.not_false, exists_eq_left', true_and, and_true, Option.some.injEq, reduceCtorEq, decide_true, decide_false, not_true_eq_false, not_false_eq_true, Nat.reduceLT, Bool.or_false, Bool.or_true, Bool.false_or, Bool.true_or, Bool.and_true, Bool.true_and, Bool.and_false, Bool.false_and, true_implies, mFld, mFldS, mFldO, mProp, mMeth, mMethX, mInW, mCallXD, exOb_w, exOb2_w, exObD_w, exObD2_w, exObj_w, exObj0_w, exObjC_w, oIsNTy_w, mLcnt, eqD_ii, mJoin, oTupOf_w, oIsBl_w, cCalm, t0, t1, t2])
      exact ⟨l, w, b, d, _, false, rfl, ok, okp _ _, ⟨fun z => (nomatch z), fun z => absurd z (off_bar (by omega))⟩, hk⟩
    · have hb : b ≤ d := by omega
      (try simp only [mVar, mC, mOp, mUn, mNil, mCons, mTup, mLst, mCall, mCallX, mCallKX, mCB, mTest, mAnd, mOr, mNot, mYes, mAndV, mOrV, mNotV, mIf, mIsN, mNotN, mChain, mSeq, mNext, mBrk, mCnt, mRet, mRetN, mIfS, mDrop, mAsg, mOwn, mLstO, mListC, mLcO, oCatO, mShr, mApp, mPutI, mFrz, frz_w, mFor, mPar, mAug, mRaise, mTry, tryM, mKind, mLc, mList, mTupl, mListOwn, mRng1, mRng2, mEnum, mZip, mRev, mgName, mLenV, mIxV, mNoPart, mPart, mSl, wipeE, lcTurn, startE, oI_w, oB_w, oIC_w, oU_w, isB_w, oEq_w, oNe_w, exS_w, oIx_w, items_l, items_t, oLen_w, oAbs_w, oInt_i, oInt_b, oGcd_w, oMax_w, oMax3_w, oMin_w, oDivmod_w, oStr_w, oType_w, oIs1_w, oIs2_w, oIsTy_w, oCat_w, oIsN_w, oNotN_w, exD_w, exO_w, exD2_w, exO2_w, exL_w, exT_w, exI_w, ex1_w, ex1i_w, mSeqV_w, exX_w, seqOf_o, seqOf_d, mgCons_w, mgNil_w, mgTup_w, exPar_w, listC_w, putI_w, ixV_w, rng1_w, rng2_w, lcGo_n, lcGo_c, forGo_n, forGo_c, scEq_i, scEq_b, scEq_s, scEq_n, tyT, isNon, k_ii, k_ib, k_is, k_il, k_it, k_bi, k_bb, k_bs, k_bl, k_bt, k_ni, k_nb, k_ns, k_nl, k_nt, k_si, k_sb, k_ss, k_sl, k_st, k_li, k_lb, k_ls, k_ll, k_lt, k_ti, k_tb, k_ts, k_tl, k_tt, List.map_cons, List.map_nil, List.length_cons, List.length_nil, List.replicate, List.cons_append, List.nil_append, List.append_nil, List.getElem?_cons_zero, List.getElem?_cons_succ, List.set_cons_zero, List.set_cons_succ, Nat.sub_self, Nat.reduceAdd, Nat.reduceSub, List.replicate_zero, decide_eq_true_eq, Bool.true_eq_false, Bool.false_eq_true, if_true, if_false, reduceIte, Bool.not_eq_true', decide_eq_false_iff_not, Bool.not_true, Bool.not_false, exists_eq_left', true_and, and_true, Option.some.injEq, reduceCtorEq, decide_true, decide_false, not_true_eq_false, not_false_eq_true, Nat.reduceLT, Bool.or_false, Bool.or_true, Bool.false_or, Bool.true_or, Bool.and_true, Bool.true_and, Bool.and_false, Bool.false_and, true_implies, mFld, mFldS, mFldO, mProp, mMeth, mMethX, mInW, mCallXD, exOb_w, exOb2_w, exObD_w, exObD2_w, exObj_w, exObj0_w, exObjC_w, oIsNTy_w, mLcnt, eqD_ii, mJoin, oTupOf_w, oIsBl_w, cCalm, t0, t1, t2])
      refine ite2 (fun _ => ⟨wide_div (b := 20) (by omega) (by omega) (by decide) (by decide), ?_⟩) (fun _ => ?_)
      · have q1 : 49 ≤ 800 / (b + d) := (Int.le_ediv_iff_mul_le (by omega)).mpr (by omega)
        have q2 : 800 / (b + d) * (b + d) ≤ 800 := Int.ediv_mul_le _ (by omega)
        obtain ⟨q, hq⟩ := Int.eq_ofNat_of_zero_le (show 0 ≤ 800 / (b + d) by omega)
        rw [hq] at q1 q2 ⊢
        obtain ⟨N, hn⟩ := Int.eq_ofNat_of_zero_le (Int.mul_nonneg (show (0 : Int) ≤ q by omega) (show 0 ≤ b + d by omega))
        rw [hn] at q2 ⊢
        have hN : N ≤ 800 := by omega
        have hB := gapB q hb (by omega) N hn.symm
        refine ⟨Or.inr ⟨by omega, by omega⟩, ?_⟩
        refine ⟨b, d, N, rfl, by omega, by omega, by omega, by omega, by omega, by omega, ?_⟩
        rw [rnd_flags]
        refine ⟨l, w, b, d, rndF b d N, rfl, ok, by rw [rnd_len]; omega, ?_⟩
        refine ⟨2, rfl, by decide, fun r r0 r1 => ?_⟩
        have r2 : r = 0 ∨ r = 1 := by omega
        have okp : ∀ a c : Int, okT 7 (.tup [.lst ((rndF b d N).map flagT), .int a, .int c]) = true := fun a c => by simp [okT, okTs, okTs_flags]
        (try simp only [mVar, mC, mOp, mUn, mNil, mCons, mTup, mLst, mCall, mCallX, mCallKX, mCB, mTest, mAnd, mOr, mNot, mYes, mAndV, mOrV, mNotV, mIf, mIsN, mNotN, mChain, mSeq, mNext, mBrk, mCnt, mRet, mRetN, mIfS, mDrop, mAsg, mOwn, mLstO, mListC, mLcO, oCatO, mShr, mApp, mPutI, mFrz, frz_w, mFor, mPar, mAug, mRaise, mTry, tryM, mKind, mLc, mList, mTupl, mListOwn, mRng1, mRng2, mEnum, mZip, mRev, mgName, mLenV, mIxV, mNoPart, mPart, mSl, wipeE, lcTurn, startE, oI_w, oB_w, oIC_w, oU_w, isB_w, oEq_w, oNe_w, exS_w, oIx_w, items_l, items_t, oLen_w, oAbs_w, oInt_i, oInt_b, oGcd_w, oMax_w, oMax3_w, oMin_w, oDivmod_w, oStr_w, oType_w, oIs1_w, oIs2_w, oIsTy_w, oCat_w, oIsN_w, oNotN_w, exD_w, exO_w, exD2_w, exO2_w, exL_w, exT_w, exI_w, ex1_w, ex1i_w, mSeqV_w, exX_w, seqOf_o, seqOf_d, mgCons_w, mgNil_w, mgTup_w, exPar_w, listC_w, putI_w, ixV_w, rng1_w, rng2_w, lcGo_n, lcGo_c, forGo_n, forGo_c, scEq_i, scEq_b, scEq_s, scEq_n, tyT, isNon, k_ii, k_ib, k_is, k_il, k_it, k_bi, k_bb, k_bs, k_bl, k_bt, k_ni, k_nb, k_ns, k_nl, k_nt, k_si, k_sb, k_ss, k_sl, k_st, k_li, k_lb, k_ls, k_ll, k_lt, k_ti, k_tb, k_ts, k_tl, k_tt, List.map_cons, List.map_nil, List.length_cons, List.length_nil, List.replicate, List.cons_append, List.nil_append, List.append_nil, List.getElem?_cons_zero, List.getElem?_cons_succ, List.set_cons_zero, List.set_cons_succ, Nat.sub_self, Nat.reduceAdd, Nat.reduceSub, List.replicate_zero, decide_eq_true_eq, Bool.true_eq_false, Bool.false_eq_true, if_true, if_false, reduceIte, Bool.not_eq_true', decide_eq_false_iff_not, Bool.not_true, Bool.not_false, exists_eq_left', true_and, and_true, Option.some.injEq, reduceCtorEq, decide_true, decide_false, not_true_eq_false, not_false_eq_true, Nat.reduceLT, Bool.or_false, Bool.or_true, Bool.false_or, Bool.true_or, Bool.and_true, Bool.true_and, Bool.and_false, Bool.false_and, true_implies, mFld, mFldS, mFldO, mProp, mMeth, mMethX, mInW, mCallXD, exOb_w, exOb2_w, exObD_w, exObD2_w, exObj_w, exObj0_w, exObjC_w, oIsNTy_w, mLcnt, eqD_ii, mJoin, oTupOf_w, oIsBl_w, cCalm, t0, t1, t2])
        refine ⟨Or.inl ⟨by omega, by omega⟩, l, w, b, d, _, false, rfl, ok, okp _ _, ⟨fun z => (nomatch z), fun z => absurd z (off_bar (by omega))⟩, ?_⟩
        (try simp only [mVar, mC, mOp, mUn, mNil, mCons, mTup, mLst, mCall, mCallX, mCallKX, mCB, mTest, mAnd, mOr, mNot, mYes, mAndV, mOrV, mNotV, mIf, mIsN, mNotN, mChain, mSeq, mNext, mBrk, mCnt, mRet, mRetN, mIfS, mDrop, mAsg, mOwn, mLstO, mListC, mLcO, oCatO, mShr, mApp, mPutI, mFrz, frz_w, mFor, mPar, mAug, mRaise, mTry, tryM, mKind, mLc, mList, mTupl, mListOwn, mRng1, mRng2, mEnum, mZip, mRev, mgName, mLenV, mIxV, mNoPart, mPart, mSl, wipeE, lcTurn, startE, oI_w, oB_w, oIC_w, oU_w, isB_w, oEq_w, oNe_w, exS_w, oIx_w, items_l, items_t, oLen_w, oAbs_w, oInt_i, oInt_b, oGcd_w, oMax_w, oMax3_w, oMin_w, oDivmod_w, oStr_w, oType_w, oIs1_w, oIs2_w, oIsTy_w, oCat_w, oIsN_w, oNotN_w, exD_w, exO_w, exD2_w, exO2_w, exL_w, exT_w, exI_w, ex1_w, ex1i_w, mSeqV_w, exX_w, seqOf_o, seqOf_d, mgCons_w, mgNil_w, mgTup_w, exPar_w, listC_w, putI_w, ixV_w, rng1_w, rng2_w, lcGo_n, lcGo_c, forGo_n, forGo_c, scEq_i, scEq_b, scEq_s, scEq_n, tyT, isNon, k_ii, k_ib, k_is, k_il, k_it, k_bi, k_bb, k_bs, k_bl, k_bt, k_ni, k_nb, k_ns, k_nl, k_nt, k_si, k_sb, k_ss, k_sl, k_st, k_li, k_lb, k_ls, k_ll, k_lt, k_ti, k_tb, k_ts, k_tl, k_tt, List.map_cons, List.map_nil, List.length_cons, List.length_nil, List.replicate, List.cons_append, List.nil_append, List.append_nil, List.getElem?_cons_zero, List.getElem?_cons_succ, List.set_cons_zero, List.set_cons_succ, Nat.sub_self, Nat.reduceAdd, Nat.reduceSub, List.replicate_zero, decide_eq_true_eq, Bool.true_eq_false, Bool.false_eq_true, if_true, if_false, reduceIte, Bool.not_eq_true', decide_eq_false_iff_not, Bool.not_true, Bool.not_false, exists_eq_left', true_and, and_true, Option.some.injEq, reduceCtorEq, decide_true, decide_false, not_true_eq_false, not_false_eq_true, Nat.reduceLT, Bool.or_false, Bool.or_true, Bool.false_or, Bool.true_or, Bool.and_true, Bool.true_and, Bool.and_false, Bool.false_and, true_implies, mFld, mFldS, mFldO, mProp, mMeth, mMethX, mInW, mCallXD, exOb_w, exOb2_w, exObD_w, exObD2_w, exObj_w, exObj0_w, exObjC_w, oIsNTy_w, mLcnt, eqD_ii, mJoin, oTupOf_w, oIsBl_w, cCalm, t0, t1, t2])
        refine ⟨l, w, b, d, _, true, rfl, ok, okp _ _, ⟨fun _ => rnd_bar b1 d1 hN hB, fun _ => rfl⟩, ?_⟩
        (try simp only [mVar, mC, mOp, mUn, mNil, mCons, mTup, mLst, mCall, mCallX, mCallKX, mCB, mTest, mAnd, mOr, mNot, mYes, mAndV, mOrV, mNotV, mIf, mIsN, mNotN, mChain, mSeq, mNext, mBrk, mCnt, mRet, mRetN, mIfS, mDrop, mAsg, mOwn, mLstO, mListC, mLcO, oCatO, mShr, mApp, mPutI, mFrz, frz_w, mFor, mPar, mAug, mRaise, mTry, tryM, mKind, mLc, mList, mTupl, mListOwn, mRng1, mRng2, mEnum, mZip, mRev, mgName, mLenV, mIxV, mNoPart, mPart, mSl, wipeE, lcTurn, startE, oI_w, oB_w, oIC_w, oU_w, isB_w, oEq_w, oNe_w, exS_w, oIx_w, items_l, items_t, oLen_w, oAbs_w, oInt_i, oInt_b, oGcd_w, oMax_w, oMax3_w, oMin_w, oDivmod_w, oStr_w, oType_w, oIs1_w, oIs2_w, oIsTy_w, oCat_w, oIsN_w, oNotN_w, exD_w, exO_w, exD2_w, exO2_w, exL_w, exT_w, exI_w, ex1_w, ex1i_w, mSeqV_w, exX_w, seqOf_o, seqOf_d, mgCons_w, mgNil_w, mgTup_w, exPar_w, listC_w, putI_w, ixV_w, rng1_w, rng2_w, lcGo_n, lcGo_c, forGo_n, forGo_c, scEq_i, scEq_b, scEq_s, scEq_n, tyT, isNon, k_ii, k_ib, k_is, k_il, k_it, k_bi, k_bb, k_bs, k_bl, k_bt, k_ni, k_nb, k_ns, k_nl, k_nt, k_si, k_sb, k_ss, k_sl, k_st, k_li, k_lb, k_ls, k_ll, k_lt, k_ti, k_tb, k_ts, k_tl, k_tt, List.map_cons, List.map_nil, List.length_cons, List.length_nil, List.replicate, List.cons_append, List.nil_append, List.append_nil, List.getElem?_cons_zero, List.getElem?_cons_succ, List.set_cons_zero, List.set_cons_succ, Nat.sub_self, Nat.reduceAdd, Nat.reduceSub, List.replicate_zero, decide_eq_true_eq, Bool.true_eq_false, Bool.false_eq_true, if_true, if_false, reduceIte, Bool.not_eq_true', decide_eq_false_iff_not, Bool.not_true, Bool.not_false, exists_eq_left', true_and, and_true, Option.some.injEq, reduceCtorEq, decide_true, decide_false, not_true_eq_false, not_false_eq_true, Nat.reduceLT, Bool.or_false, Bool.or_true, Bool.false_or, Bool.true_or, Bool.and_true, Bool.true_and, Bool.and_false, Bool.false_and, true_implies, mFld, mFldS, mFldO, mProp, mMeth, mMethX, mInW, mCallXD, exOb_w, exOb2_w, exObD_w, exObD2_w, exObj_w, exObj0_w, exObjC_w, oIsNTy_w, mLcnt, eqD_ii, mJoin, oTupOf_w, oIsBl_w, cCalm, t0, t1, t2])
        exact ⟨l, w, b, d, _, false, rfl, ok, okp _ _, ⟨fun z => (nomatch z), fun z => absurd z (off_bar (by omega))⟩, hk⟩
      · have p1 : (l * d + 1) * (b + d) ≤ 49 * 12 := Int.mul_le_mul (by omega) (by omega) (by omega) (by decide)
        obtain ⟨q, hq⟩ := Int.eq_ofNat_of_zero_le (show 0 ≤ l * d + 1 by omega)
        refine ⟨Or.inl ⟨by omega, by omega⟩, ?_⟩
        rw [hq] at p1 ⊢
        obtain ⟨N, hn⟩ := Int.eq_ofNat_of_zero_le (Int.mul_nonneg (show (0 : Int) ≤ q by omega) (show 0 ≤ b + d by omega))
        rw [hn] at p1 ⊢
        have hN : N ≤ 800 := by omega
        have hB := gapB q hb (by omega) N hn.symm
        refine ⟨Or.inr ⟨by omega, by omega⟩, ?_⟩
        refine ⟨b, d, N, rfl, by omega, by omega, by omega, by omega, by omega, by omega, ?_⟩
        rw [rnd_flags]
        refine ⟨l, w, b, d, rndF b d N, rfl, ok, by rw [rnd_len]; omega, ?_⟩
        refine ⟨2, rfl, by decide, fun r r0 r1 => ?_⟩
        have r2 : r = 0 ∨ r = 1 := by omega
        have okp : ∀ a c : Int, okT 7 (.tup [.lst ((rndF b d N).map flagT), .int a, .int c]) = true := fun a c => by simp [okT, okTs, okTs_flags]
        (try simp only [mVar, mC, mOp, mUn, mNil, mCons, mTup, mLst, mCall, mCallX, mCallKX, mCB, mTest, mAnd, mOr, mNot, mYes, mAndV, mOrV, mNotV, mIf, mIsN, mNotN, mChain, mSeq, mNext, mBrk, mCnt, mRet, mRetN, mIfS, mDrop, mAsg, mOwn, mLstO, mListC, mLcO, oCatO, mShr, mApp, mPutI, mFrz, frz_w, mFor, mPar, mAug, mRaise, mTry, tryM, mKind, mLc, mList, mTupl, mListOwn, mRng1, mRng2, mEnum, mZip, mRev, mgName, mLenV, mIxV, mNoPart, mPart, mSl, wipeE, lcTurn, startE, oI_w, oB_w, oIC_w, oU_w, isB_w, oEq_w, oNe_w, exS_w, oIx_w, items_l, items_t, oLen_w, oAbs_w, oInt_i, oInt_b, oGcd_w, oMax_w, oMax3_w, oMin_w, oDivmod_w, oStr_w, oType_w, oIs1_w, oIs2_w, oIsTy_w, oCat_w, oIsN_w, oNotN_w, exD_w, exO_w, exD2_w, exO2_w, exL_w, exT_w, exI_w, ex1_w, ex1i_w, mSeqV_w, exX_w, seqOf_o, seqOf_d, mgCons_w, mgNil_w, mgTup_w, exPar_w, listC_w, putI_w, ixV_w, rng1_w, rng2_w, lcGo_n, lcGo_c, forGo_n, forGo_c, scEq_i, scEq_b, scEq_s, scEq_n, tyT, isNon, k_ii, k_ib, k_is, k_il, k_it, k_bi, k_bb, k_bs, k_bl, k_bt, k_ni, k_nb, k_ns, k_nl, k_nt, k_si, k_sb, k_ss, k_sl, k_st, k_li, k_lb, k_ls, k_ll, k_lt, k_ti, k_tb, k_ts, k_tl, k_tt, List.map_cons, List.map_nil, List.length_cons, List.length_nil, List.replicate, List.cons_append, List.nil_append, List.append_nil, List.getElem?_cons_zero, List.getElem?_cons_succ, List.set_cons_zero, List.set_cons_succ, Nat.sub_self, Nat.reduceAdd, Nat.reduceSub, List.replicate_zero, decide_eq_true_eq, Bool.true_eq_false, Bool.false_eq_true, if_true, if_false, reduceIte, Bool.not_eq_true', decide_eq_false_iff_not, Bool.not_true, Bool.not_false, exists_eq_left', true_and, and_true, Option.some.injEq, reduceCtorEq, decide_true, decide_false, not_true_eq_false, not_false_eq_true, Nat.reduceLT, Bool.or_false, Bool.or_true, Bool.false_or, Bool.true_or, Bool.and_true, Bool.true_and, Bool.and_false, Bool.false_and, true_implies, mFld, mFldS, mFldO, mProp, mMeth, mMethX, mInW, mCallXD, exOb_w, exOb2_w, exObD_w, exObD2_w, exObj_w, exObj0_w, exObjC_w, oIsNTy_w, mLcnt, eqD_ii, mJoin, oTupOf_w, oIsBl_w, cCalm, t0, t1, t2])
        refine ⟨Or.inl ⟨by omega, by omega⟩, l, w, b, d, _, false, rfl, ok, okp _ _, ⟨fun z => (nomatch z), fun z => absurd z (off_bar (by omega))⟩, ?_⟩
        (try simp only [mVar, mC, mOp, mUn, mNil, mCons, mTup, mLst, mCall, mCallX, mCallKX, mCB, mTest, mAnd, mOr, mNot, mYes, mAndV, mOrV, mNotV, mIf, mIsN, mNotN, mChain, mSeq, mNext, mBrk, mCnt, mRet, mRetN, mIfS, mDrop, mAsg, mOwn, mLstO, mListC, mLcO, oCatO, mShr, mApp, mPutI, mFrz, frz_w, mFor, mPar, mAug, mRaise, mTry, tryM, mKind, mLc, mList, mTupl, mListOwn, mRng1, mRng2, mEnum, mZip, mRev, mgName, mLenV, mIxV, mNoPart, mPart, mSl, wipeE, lcTurn, startE, oI_w, oB_w, oIC_w, oU_w, isB_w, oEq_w, oNe_w, exS_w, oIx_w, items_l, items_t, oLen_w, oAbs_w, oInt_i, oInt_b, oGcd_w, oMax_w, oMax3_w, oMin_w, oDivmod_w, oStr_w, oType_w, oIs1_w, oIs2_w, oIsTy_w, oCat_w, oIsN_w, oNotN_w, exD_w, exO_w, exD2_w, exO2_w, exL_w, exT_w, exI_w, ex1_w, ex1i_w, mSeqV_w, exX_w, seqOf_o, seqOf_d, mgCons_w, mgNil_w, mgTup_w, exPar_w, listC_w, putI_w, ixV_w, rng1_w, rng2_w, lcGo_n, lcGo_c, forGo_n, forGo_c, scEq_i, scEq_b, scEq_s, scEq_n, tyT, isNon, k_ii, k_ib, k_is, k_il, k_it, k_bi, k_bb, k_bs, k_bl, k_bt, k_ni, k_nb, k_ns, k_nl, k_nt, k_si, k_sb, k_ss, k_sl, k_st, k_li, k_lb, k_ls, k_ll, k_lt, k_ti, k_tb, k_ts, k_tl, k_tt, List.map_cons, List.map_nil, List.length_cons, List.length_nil, List.replicate, List.cons_append, List.nil_append, List.append_nil, List.getElem?_cons_zero, List.getElem?_cons_succ, List.set_cons_zero, List.set_cons_succ, Nat.sub_self, Nat.reduceAdd, Nat.reduceSub, List.replicate_zero, decide_eq_true_eq, Bool.true_eq_false, Bool.false_eq_true, if_true, if_false, reduceIte, Bool.not_eq_true', decide_eq_false_iff_not, Bool.not_true, Bool.not_false, exists_eq_left', true_and, and_true, Option.some.injEq, reduceCtorEq, decide_true, decide_false, not_true_eq_false, not_false_eq_true, Nat.reduceLT, Bool.or_false, Bool.or_true, Bool.false_or, Bool.true_or, Bool.and_true, Bool.true_and, Bool.and_false, Bool.false_and, true_implies, mFld, mFldS, mFldO, mProp, mMeth, mMethX, mInW, mCallXD, exOb_w, exOb2_w, exObD_w, exObD2_w, exObj_w, exObj0_w, exObjC_w, oIsNTy_w, mLcnt, eqD_ii, mJoin, oTupOf_w, oIsBl_w, cCalm, t0, t1, t2])
        refine ⟨l, w, b, d, _, true, rfl, ok, okp _ _, ⟨fun _ => rnd_bar b1 d1 hN hB, fun _ => rfl⟩, ?_⟩
        (try simp only [mVar, mC, mOp, mUn, mNil, mCons, mTup, mLst, mCall, mCallX, mCallKX, mCB, mTest, mAnd, mOr, mNot, mYes, mAndV, mOrV, mNotV, mIf, mIsN, mNotN, mChain, mSeq, mNext, mBrk, mCnt, mRet, mRetN, mIfS, mDrop, mAsg, mOwn, mLstO, mListC, mLcO, oCatO, mShr, mApp, mPutI, mFrz, frz_w, mFor, mPar, mAug, mRaise, mTry, tryM, mKind, mLc, mList, mTupl, mListOwn, mRng1, mRng2, mEnum, mZip, mRev, mgName, mLenV, mIxV, mNoPart, mPart, mSl, wipeE, lcTurn, startE, oI_w, oB_w, oIC_w, oU_w, isB_w, oEq_w, oNe_w, exS_w, oIx_w, items_l, items_t, oLen_w, oAbs_w, oInt_i, oInt_b, oGcd_w, oMax_w, oMax3_w, oMin_w, oDivmod_w, oStr_w, oType_w, oIs1_w, oIs2_w, oIsTy_w, oCat_w, oIsN_w, oNotN_w, exD_w, exO_w, exD2_w, exO2_w, exL_w, exT_w, exI_w, ex1_w, ex1i_w, mSeqV_w, exX_w, seqOf_o, seqOf_d, mgCons_w, mgNil_w, mgTup_w, exPar_w, listC_w, putI_w, ixV_w, rng1_w, rng2_w, lcGo_n, lcGo_c, forGo_n, forGo_c, scEq_i, scEq_b, scEq_s, scEq_n, tyT, isNon, k_ii, k_ib, k_is, k_il, k_it, k_bi, k_bb, k_bs, k_bl, k_bt, k_ni, k_nb, k_ns, k_nl, k_nt, k_si, k_sb, k_ss, k_sl, k_st, k_li, k_lb, k_ls, k_ll, k_lt, k_ti, k_tb, k_ts, k_tl, k_tt, List.map_cons, List.map_nil, List.length_cons, List.length_nil, List.replicate, List.cons_append, List.nil_append, List.append_nil, List.getElem?_cons_zero, List.getElem?_cons_succ, List.set_cons_zero, List.set_cons_succ, Nat.sub_self, Nat.reduceAdd, Nat.reduceSub, List.replicate_zero, decide_eq_true_eq, Bool.true_eq_false, Bool.false_eq_true, if_true, if_false, reduceIte, Bool.not_eq_true', decide_eq_false_iff_not, Bool.not_true, Bool.not_false, exists_eq_left', true_and, and_true, Option.some.injEq, reduceCtorEq, decide_true, decide_false, not_true_eq_false, not_false_eq_true, Nat.reduceLT, Bool.or_false, Bool.or_true, Bool.false_or, Bool.true_or, Bool.and_true, Bool.true_and, Bool.and_false, Bool.false_and, true_implies, mFld, mFldS, mFldO, mProp, mMeth, mMethX, mInW, mCallXD, exOb_w, exOb2_w, exObD_w, exObD2_w, exObj_w, exObj0_w, exObjC_w, oIsNTy_w, mLcnt, eqD_ii, mJoin, oTupOf_w, oIsBl_w, cCalm, t0, t1, t2])
        exact ⟨l, w, b, d, _, false, rfl, ok, okp _ _, ⟨fun z => (nomatch z), fun z => absurd z (off_bar (by omega))⟩, hk⟩
end
end Mt
namespace Mt
open PySem PySem.Spec PyProof.Rows L2 L2H
section
variable {P : Program} {w : World} {K : PySem.W.Frag} {mg : Str → Option Value} {base : Heap} {f : Addr} {fd : FuncData} {A : Ad} {tk : Nat → Tok} {aBurstRule : Addr}
theorem ok_law (F : Fun K "law" "law" s_law f fd) (Tx : Txt K mg A tk aBurstRule) (C_law_makeable : Cal P w K mg base "_law_makeable" 6 ["store"] (SpU A 1 c_law_makeable)) (C_law_papers : Cal P w K mg base "_law_papers" 10 ["store", "setting"] (SpU A 2 c_law_papers)) (C_law_refuses_all : CalX P w K mg base "_law_refuses_all" 11 ["setting", "papers"] (SpU A 2 (c_law_refuses_all aBurstRule))) (C_law_store : Cal P w K mg base "_law_store" 1 ["script"] (sp_store K)) (C_law_takes_long : CalX P w K mg base "_law_takes_long" 11 ["store", "setting"] (SpU A 2 (c_law_takes_long aBurstRule))) (C_law_unfit : Cal P w K mg base "_law_unfit" 5 ["store"] (SpU A 1 c_law_unfit)) : FnOk P w K mg base (CN P w) 12 f fd ["script"] (sp_law K) := by
  refine okN F sc_law (fun vs H Q E h => ?_) (fun cdv Ar outer s H vs Q E hr h => ?_)
  · obtain ⟨a, ns, rfl, _⟩ := h
    rfl
  · refine ⟨_, (pss_cons (ps_set (i := 1) sc_law.nd rfl (.inl rfl) (p_call C_law_store hr (pa_cons (pv 0) pa_nil) (by omega)))
      (pss_cons (ps_set (i := 2) sc_law.nd rfl (.inl rfl) (p_call C_law_makeable hr (pa_cons (pv 1) pa_nil) (by omega)))
      (pss_cons (ps_set (i := 3) sc_law.nd rfl (.inl rfl) (p_call C_law_papers hr (pa_cons (pv 1) (pa_cons (pv 2) pa_nil)) (by omega)))
      (pss_cons (ps_if (pt_not (pt_val (p_callX C_law_refuses_all hr (L2N.takes_of rfl rfl rfl rfl) (pa_cons (pv 2) (pa_cons (pv 3) pa_nil)) (by omega)))) (pss_one (ps_ret pe_bl)) pss_nil)
      (pss_cons (ps_if (pt_not (pt_val (p_callX C_law_takes_long hr (L2N.takes_of rfl rfl rfl rfl) (pa_cons (pv 1) (pa_cons (p_call C_law_unfit hr (pa_cons (pv 1) pa_nil) (by omega)) pa_nil)) (by omega)))) (pss_one (ps_ret pe_bl)) pss_nil)
      (pss_one (ps_ret (p_callX C_law_refuses_all hr (L2N.takes_of rfl rfl rfl rfl) (pa_cons (pv 2) (pa_cons (pe_slice sl_H (pv 3) (po_some pe_int) (po_some pe_int)) pa_nil)) (by omega))))))))), ?_⟩
    refine run_law2 (A := A) (ms := ?ms) (E' := WE fun cls d _ H => E cls d H) rfl h ?r ?u
    case r => exact (rs_seq (rs_asg (re_call (ra_cons re_var ra_nil)) rg_name)
      (rs_seq (rs_asg (re_call (ra_cons re_var (ra_cons re_var ra_nil))) rg_name)
      (rs_seq (rs_if (rt_not (rt_B (re_callX (ra_cons re_var (ra_cons re_var ra_nil))))) (rs_ret re_bl) rs_next)
      (rs_seq (rs_if (rt_not (rt_B (re_callX (ra_cons re_var (ra_cons (re_call (ra_cons re_var ra_nil)) ra_nil))))) (rs_ret re_bl) rs_next)
      (rs_ret (re_callX (ra_cons re_var (ra_cons (re_sl re_var (ro_part re_int) (ro_part re_int)) ra_nil))))))))
    case u =>
      clear h hr
      (try simp only [mVar, mC, mOp, mUn, mNil, mCons, mTup, mLst, mCall, mCallX, mCallKX, mCB, mTest, mAnd, mOr, mNot, mYes, mAndV, mOrV, mNotV, mIf, mIsN, mNotN, mChain, mSeq, mNext, mBrk, mCnt, mRet, mRetN, mIfS, mDrop, mAsg, mOwn, mLstO, mListC, mLcO, oCatO, mShr, mApp, mPutI, mFrz, frz_w, mFor, mPar, mAug, mRaise, mTry, tryM, mKind, mLc, mList, mTupl, mListOwn, mRng1, mRng2, mEnum, mZip, mRev, mgName, mLenV, mIxV, mNoPart, mPart, mSl, wipeE, lcTurn, startE, oI_w, oB_w, oIC_w, oU_w, isB_w, oEq_w, oNe_w, exS_w, oIx_w, items_l, items_t, oLen_w, oAbs_w, oInt_i, oInt_b, oGcd_w, oMax_w, oMax3_w, oMin_w, oDivmod_w, oStr_w, oType_w, oIs1_w, oIs2_w, oIsTy_w, oCat_w, oIsN_w, oNotN_w, exD_w, exO_w, exD2_w, exO2_w, exL_w, exT_w, exI_w, ex1_w, ex1i_w, mSeqV_w, exX_w, seqOf_o, seqOf_d, mgCons_w, mgNil_w, mgTup_w, exPar_w, listC_w, putI_w, ixV_w, rng1_w, rng2_w, lcGo_n, lcGo_c, forGo_n, forGo_c, scEq_i, scEq_b, scEq_s, scEq_n, tyT, isNon, k_ii, k_ib, k_is, k_il, k_it, k_bi, k_bb, k_bs, k_bl, k_bt, k_ni, k_nb, k_ns, k_nl, k_nt, k_si, k_sb, k_ss, k_sl, k_st, k_li, k_lb, k_ls, k_ll, k_lt, k_ti, k_tb, k_ts, k_tl, k_tt, List.map_cons, List.map_nil, List.length_cons, List.length_nil, List.replicate, List.cons_append, List.nil_append, List.append_nil, List.getElem?_cons_zero, List.getElem?_cons_succ, List.set_cons_zero, List.set_cons_succ, Nat.sub_self, Nat.reduceAdd, Nat.reduceSub, List.replicate_zero, decide_eq_true_eq, Bool.true_eq_false, Bool.false_eq_true, if_true, if_false, reduceIte, Bool.not_eq_true', decide_eq_false_iff_not, Bool.not_true, Bool.not_false, exists_eq_left', true_and, and_true, Option.some.injEq, reduceCtorEq, decide_true, decide_false, not_true_eq_false, not_false_eq_true, Nat.reduceLT, Bool.or_false, Bool.or_true, Bool.false_or, Bool.true_or, Bool.and_true, Bool.true_and, Bool.and_false, Bool.false_and, true_implies, mFld, mFldS, mFldO, mProp, mMeth, mMethX, mInW, mCallXD, exOb_w, exOb2_w, exObD_w, exObD2_w, exObj_w, exObj0_w, exObjC_w, oIsNTy_w, mLcnt, eqD_ii, mJoin, oTupOf_w, oIsBl_w, cCalm])
      refine ⟨rfl, fun l w b d ok ft => ⟨l, w, b, d, rfl, ok, fun vs hv hl => ⟨l, w, b, d, vs, rfl, ok, ft, hv, ?_⟩⟩⟩
      (try simp only [mVar, mC, mOp, mUn, mNil, mCons, mTup, mLst, mCall, mCallX, mCallKX, mCB, mTest, mAnd, mOr, mNot, mYes, mAndV, mOrV, mNotV, mIf, mIsN, mNotN, mChain, mSeq, mNext, mBrk, mCnt, mRet, mRetN, mIfS, mDrop, mAsg, mOwn, mLstO, mListC, mLcO, oCatO, mShr, mApp, mPutI, mFrz, frz_w, mFor, mPar, mAug, mRaise, mTry, tryM, mKind, mLc, mList, mTupl, mListOwn, mRng1, mRng2, mEnum, mZip, mRev, mgName, mLenV, mIxV, mNoPart, mPart, mSl, wipeE, lcTurn, startE, oI_w, oB_w, oIC_w, oU_w, isB_w, oEq_w, oNe_w, exS_w, oIx_w, items_l, items_t, oLen_w, oAbs_w, oInt_i, oInt_b, oGcd_w, oMax_w, oMax3_w, oMin_w, oDivmod_w, oStr_w, oType_w, oIs1_w, oIs2_w, oIsTy_w, oCat_w, oIsN_w, oNotN_w, exD_w, exO_w, exD2_w, exO2_w, exL_w, exT_w, exI_w, ex1_w, ex1i_w, mSeqV_w, exX_w, seqOf_o, seqOf_d, mgCons_w, mgNil_w, mgTup_w, exPar_w, listC_w, putI_w, ixV_w, rng1_w, rng2_w, lcGo_n, lcGo_c, forGo_n, forGo_c, scEq_i, scEq_b, scEq_s, scEq_n, tyT, isNon, k_ii, k_ib, k_is, k_il, k_it, k_bi, k_bb, k_bs, k_bl, k_bt, k_ni, k_nb, k_ns, k_nl, k_nt, k_si, k_sb, k_ss, k_sl, k_st, k_li, k_lb, k_ls, k_ll, k_lt, k_ti, k_tb, k_ts, k_tl, k_tt, List.map_cons, List.map_nil, List.length_cons, List.length_nil, List.replicate, List.cons_append, List.nil_append, List.append_nil, List.getElem?_cons_zero, List.getElem?_cons_succ, List.set_cons_zero, List.set_cons_succ, Nat.sub_self, Nat.reduceAdd, Nat.reduceSub, List.replicate_zero, decide_eq_true_eq, Bool.true_eq_false, Bool.false_eq_true, if_true, if_false, reduceIte, Bool.not_eq_true', decide_eq_false_iff_not, Bool.not_true, Bool.not_false, exists_eq_left', true_and, and_true, Option.some.injEq, reduceCtorEq, decide_true, decide_false, not_true_eq_false, not_false_eq_true, Nat.reduceLT, Bool.or_false, Bool.or_true, Bool.false_or, Bool.true_or, Bool.and_true, Bool.true_and, Bool.and_false, Bool.false_and, true_implies, mFld, mFldS, mFldO, mProp, mMeth, mMethX, mInW, mCallXD, exOb_w, exOb2_w, exObD_w, exObD2_w, exObj_w, exObj0_w, exObjC_w, oIsNTy_w, mLcnt, eqD_ii, mJoin, oTupOf_w, oIsBl_w, cCalm])
      refine ⟨rfl, fun l2 w2 b2 d2 ok2 l1 b1 ft2 => ?_⟩
      (try simp only [mVar, mC, mOp, mUn, mNil, mCons, mTup, mLst, mCall, mCallX, mCallKX, mCB, mTest, mAnd, mOr, mNot, mYes, mAndV, mOrV, mNotV, mIf, mIsN, mNotN, mChain, mSeq, mNext, mBrk, mCnt, mRet, mRetN, mIfS, mDrop, mAsg, mOwn, mLstO, mListC, mLcO, oCatO, mShr, mApp, mPutI, mFrz, frz_w, mFor, mPar, mAug, mRaise, mTry, tryM, mKind, mLc, mList, mTupl, mListOwn, mRng1, mRng2, mEnum, mZip, mRev, mgName, mLenV, mIxV, mNoPart, mPart, mSl, wipeE, lcTurn, startE, oI_w, oB_w, oIC_w, oU_w, isB_w, oEq_w, oNe_w, exS_w, oIx_w, items_l, items_t, oLen_w, oAbs_w, oInt_i, oInt_b, oGcd_w, oMax_w, oMax3_w, oMin_w, oDivmod_w, oStr_w, oType_w, oIs1_w, oIs2_w, oIsTy_w, oCat_w, oIsN_w, oNotN_w, exD_w, exO_w, exD2_w, exO2_w, exL_w, exT_w, exI_w, ex1_w, ex1i_w, mSeqV_w, exX_w, seqOf_o, seqOf_d, mgCons_w, mgNil_w, mgTup_w, exPar_w, listC_w, putI_w, ixV_w, rng1_w, rng2_w, lcGo_n, lcGo_c, forGo_n, forGo_c, scEq_i, scEq_b, scEq_s, scEq_n, tyT, isNon, k_ii, k_ib, k_is, k_il, k_it, k_bi, k_bb, k_bs, k_bl, k_bt, k_ni, k_nb, k_ns, k_nl, k_nt, k_si, k_sb, k_ss, k_sl, k_st, k_li, k_lb, k_ls, k_ll, k_lt, k_ti, k_tb, k_ts, k_tl, k_tt, List.map_cons, List.map_nil, List.length_cons, List.length_nil, List.replicate, List.cons_append, List.nil_append, List.append_nil, List.getElem?_cons_zero, List.getElem?_cons_succ, List.set_cons_zero, List.set_cons_succ, Nat.sub_self, Nat.reduceAdd, Nat.reduceSub, List.replicate_zero, decide_eq_true_eq, Bool.true_eq_false, Bool.false_eq_true, if_true, if_false, reduceIte, Bool.not_eq_true', decide_eq_false_iff_not, Bool.not_true, Bool.not_false, exists_eq_left', true_and, and_true, Option.some.injEq, reduceCtorEq, decide_true, decide_false, not_true_eq_false, not_false_eq_true, Nat.reduceLT, Bool.or_false, Bool.or_true, Bool.false_or, Bool.true_or, Bool.and_true, Bool.true_and, Bool.and_false, Bool.false_and, true_implies, mFld, mFldS, mFldO, mProp, mMeth, mMethX, mInW, mCallXD, exOb_w, exOb2_w, exObD_w, exObD2_w, exObj_w, exObj0_w, exObjC_w, oIsNTy_w, mLcnt, eqD_ii, mJoin, oTupOf_w, oIsBl_w, cCalm])
      refine ⟨l2, w2, b2, d2, rfl, ok2, l1, b1, ft2, ?_⟩
      (try simp only [mVar, mC, mOp, mUn, mNil, mCons, mTup, mLst, mCall, mCallX, mCallKX, mCB, mTest, mAnd, mOr, mNot, mYes, mAndV, mOrV, mNotV, mIf, mIsN, mNotN, mChain, mSeq, mNext, mBrk, mCnt, mRet, mRetN, mIfS, mDrop, mAsg, mOwn, mLstO, mListC, mLcO, oCatO, mShr, mApp, mPutI, mFrz, frz_w, mFor, mPar, mAug, mRaise, mTry, tryM, mKind, mLc, mList, mTupl, mListOwn, mRng1, mRng2, mEnum, mZip, mRev, mgName, mLenV, mIxV, mNoPart, mPart, mSl, wipeE, lcTurn, startE, oI_w, oB_w, oIC_w, oU_w, isB_w, oEq_w, oNe_w, exS_w, oIx_w, items_l, items_t, oLen_w, oAbs_w, oInt_i, oInt_b, oGcd_w, oMax_w, oMax3_w, oMin_w, oDivmod_w, oStr_w, oType_w, oIs1_w, oIs2_w, oIsTy_w, oCat_w, oIsN_w, oNotN_w, exD_w, exO_w, exD2_w, exO2_w, exL_w, exT_w, exI_w, ex1_w, ex1i_w, mSeqV_w, exX_w, seqOf_o, seqOf_d, mgCons_w, mgNil_w, mgTup_w, exPar_w, listC_w, putI_w, ixV_w, rng1_w, rng2_w, lcGo_n, lcGo_c, forGo_n, forGo_c, scEq_i, scEq_b, scEq_s, scEq_n, tyT, isNon, k_ii, k_ib, k_is, k_il, k_it, k_bi, k_bb, k_bs, k_bl, k_bt, k_ni, k_nb, k_ns, k_nl, k_nt, k_si, k_sb, k_ss, k_sl, k_st, k_li, k_lb, k_ls, k_ll, k_lt, k_ti, k_tb, k_ts, k_tl, k_tt, List.map_cons, List.map_nil, List.length_cons, List.length_nil, List.replicate, List.cons_append, List.nil_append, List.append_nil, List.getElem?_cons_zero, List.getElem?_cons_succ, List.set_cons_zero, List.set_cons_succ, Nat.sub_self, Nat.reduceAdd, Nat.reduceSub, List.replicate_zero, decide_eq_true_eq, Bool.true_eq_false, Bool.false_eq_true, if_true, if_false, reduceIte, Bool.not_eq_true', decide_eq_false_iff_not, Bool.not_true, Bool.not_false, exists_eq_left', true_and, and_true, Option.some.injEq, reduceCtorEq, decide_true, decide_false, not_true_eq_false, not_false_eq_true, Nat.reduceLT, Bool.or_false, Bool.or_true, Bool.false_or, Bool.true_or, Bool.and_true, Bool.true_and, Bool.and_false, Bool.false_and, true_implies, mFld, mFldS, mFldO, mProp, mMeth, mMethX, mInW, mCallXD, exOb_w, exOb2_w, exObD_w, exObD2_w, exObj_w, exObj0_w, exObjC_w, oIsNTy_w, mLcnt, eqD_ii, mJoin, oTupOf_w, oIsBl_w, cCalm])
      refine ⟨l, w, b, d, _, rfl, ok, ft, fun v hm => hv v ?_, rfl⟩
      unfold cutT at hm
      exact List.mem_of_mem_drop (List.mem_of_mem_take hm)
end
end Mt
namespace Mt
open PySem PySem.Spec PyProof.Rows L2 L2H
theorem all_mk {P : Program} {w : World} {K : PySem.W.Frag} {h : Heap} {mg : Str → Option Value} {fa : Addr} (X : K.In h) (G : h.Ns mainGlobals mg) (hfa : mg "law" = some (.ref fa))
    {bn bs be me aBurstRule fI_bn fI_bs fI_be N_bn N_bs N_be : Addr} {t0 t1 t2 t3 t4 t5 t6 : Tok}
    {nm_bn q_bn : Str} {bs_bn bm_bn : List Value} {sn_bn : List Str} {sub_bn : List Value} {ab_bn : Bool} {col_bn : Option Bool} {dd_bn : Option Addr} {e0_bn e1_bn e2_bn e3_bn e5_bn : Option Value}
    {nm_bs q_bs : Str} {bs_bs bm_bs : List Value} {sn_bs : List Str} {sub_bs : List Value} {ab_bs : Bool} {col_bs : Option Bool} {dd_bs : Option Addr} {e0_bs e1_bs e2_bs e3_bs e5_bs : Option Value}
    {nm_be q_be : Str} {bs_be bm_be : List Value} {sn_be : List Str} {sub_be : List Value} {ab_be : Bool} {col_be : Option Bool} {dd_be : Option Addr} {e0_be e1_be e2_be e3_be e5_be : Option Value}
    (g_BadNumber : PySem.W.nsIn K mainGlobals "BadNumber" = some (some (.ref bn)))
    (g_BadShape : PySem.W.nsIn K mainGlobals "BadShape" = some (some (.ref bs)))
    (g_BadElement : PySem.W.nsIn K mainGlobals "BadElement" = some (some (.ref be)))
    (g_MendError : PySem.W.nsIn K mainGlobals "MendError" = some (some (.ref me)))
    (g_MOST_BEATS_rules : PySem.W.nsIn K mainGlobals "MOST_BEATS_rules" = some (some (.int 800 t0)))
    (g_MOST_BURST_rules : PySem.W.nsIn K mainGlobals "MOST_BURST_rules" = some (some (.int 8 t1)))
    (g_MOST_GAP : PySem.W.nsIn K mainGlobals "MOST_GAP" = some (some (.int 8 t2)))
    (g_MOST_IN_SETTING : PySem.W.nsIn K mainGlobals "MOST_IN_SETTING" = some (some (.int 8 t3)))
    (g_MOST_BURST_burstmake : PySem.W.nsIn K mainGlobals "MOST_BURST_burstmake" = some (some (.int 8 t4)))
    (g_MOST_DELAY : PySem.W.nsIn K mainGlobals "MOST_DELAY" = some (some (.int 6 t5)))
    (g_MOST_BEATS_bar : PySem.W.nsIn K mainGlobals "MOST_BEATS_bar" = some (some (.int 800 t6)))
    (z_abs : PySem.W.nsIn K mainGlobals "abs" = some none)
    (z_all : PySem.W.nsIn K mainGlobals "all" = some none)
    (z_bool : PySem.W.nsIn K mainGlobals "bool" = some none)
    (z_enumerate : PySem.W.nsIn K mainGlobals "enumerate" = some none)
    (z_int : PySem.W.nsIn K mainGlobals "int" = some none)
    (z_isinstance : PySem.W.nsIn K mainGlobals "isinstance" = some none)
    (z_len : PySem.W.nsIn K mainGlobals "len" = some none)
    (z_list : PySem.W.nsIn K mainGlobals "list" = some none)
    (z_max : PySem.W.nsIn K mainGlobals "max" = some none)
    (z_min : PySem.W.nsIn K mainGlobals "min" = some none)
    (z_range : PySem.W.nsIn K mainGlobals "range" = some none)
    (z_str : PySem.W.nsIn K mainGlobals "str" = some none)
    (z_tuple : PySem.W.nsIn K mainGlobals "tuple" = some none)
    (z_type : PySem.W.nsIn K mainGlobals "type" = some none)
    (xL_bn : K.lookup bn = some (excClassObj nm_bn q_bn bn N_bn bs_bn bm_bn true sn_bn sub_bn ab_bn col_bn dd_bn e0_bn e1_bn e2_bn e3_bn e5_bn "ValueError.__new__"))
    (xR_bn : PySem.HandSPX.refsVE bm_bn = true)
    (sa_bn : PySem.W.findIn K (.ref bn) "__setattr__" = some (some (.builtin "object.__setattr__")))
    (exC_bn : PySem.W.subIn K (.ref bn) (.type "BaseException") = some true)
    (tyC_bn : PySem.W.typeIn K (.ref bn) = some (.type "type"))
    (kC_bn : PySem.W.keepIn K (.ref bn) = true)
    (noA_bn : PySem.W.findIn K (.ref bn) "argument" = some none)
    (i1_bn : PySem.W.findIn K (.ref bn) "__init__" = some (some (.ref fI_bn)))
    (i2_bn : PySem.W.typeIn K (.ref fI_bn) = some (.type "function"))
    (i3_bn : ∃ fd, Fun K "__init__" "BadNumber.__init__" s_BadNumber___init__ fI_bn fd)
    (xL_bs : K.lookup bs = some (excClassObj nm_bs q_bs bs N_bs bs_bs bm_bs true sn_bs sub_bs ab_bs col_bs dd_bs e0_bs e1_bs e2_bs e3_bs e5_bs "ValueError.__new__"))
    (xR_bs : PySem.HandSPX.refsVE bm_bs = true)
    (sa_bs : PySem.W.findIn K (.ref bs) "__setattr__" = some (some (.builtin "object.__setattr__")))
    (exC_bs : PySem.W.subIn K (.ref bs) (.type "BaseException") = some true)
    (tyC_bs : PySem.W.typeIn K (.ref bs) = some (.type "type"))
    (kC_bs : PySem.W.keepIn K (.ref bs) = true)
    (noA_bs : PySem.W.findIn K (.ref bs) "argument" = some none)
    (i1_bs : PySem.W.findIn K (.ref bs) "__init__" = some (some (.ref fI_bs)))
    (i2_bs : PySem.W.typeIn K (.ref fI_bs) = some (.type "function"))
    (i3_bs : ∃ fd, Fun K "__init__" "BadShape.__init__" s_BadShape___init__ fI_bs fd)
    (xL_be : K.lookup be = some (excClassObj nm_be q_be be N_be bs_be bm_be true sn_be sub_be ab_be col_be dd_be e0_be e1_be e2_be e3_be e5_be "ValueError.__new__"))
    (xR_be : PySem.HandSPX.refsVE bm_be = true)
    (sa_be : PySem.W.findIn K (.ref be) "__setattr__" = some (some (.builtin "object.__setattr__")))
    (exC_be : PySem.W.subIn K (.ref be) (.type "BaseException") = some true)
    (tyC_be : PySem.W.typeIn K (.ref be) = some (.type "type"))
    (kC_be : PySem.W.keepIn K (.ref be) = true)
    (noA_be : PySem.W.findIn K (.ref be) "argument" = some none)
    (i1_be : PySem.W.findIn K (.ref be) "__init__" = some (some (.ref fI_be)))
    (i2_be : PySem.W.typeIn K (.ref fI_be) = some (.type "function"))
    (i3_be : ∃ fd, Fun K "__init__" "BadElement.__init__" s_BadElement___init__ fI_be fd)
    (g_BurstRule : PySem.W.nsIn K mainGlobals "BurstRule" = some (some (.ref aBurstRule)))
    (mk_BurstRule : PySem.W.makesIn K aBurstRule = true)
    (kp_BurstRule : PySem.W.keepIn K (.ref aBurstRule) = true)
    (cp_BurstRule : PySem.W.plainGet K aBurstRule Str.empty = true)
    (ch_BurstRule : PySem.W.hasDictIn K aBurstRule = true)
    (co_BurstRule : PySem.W.plainOver K aBurstRule = true)
    (cs_BurstRule : PySem.W.findIn K (.ref aBurstRule) "__setattr__" = some (some (.builtin "object.__setattr__")))
    (na_BurstRule__burst : PySem.W.findIn K (.ref aBurstRule) "_burst" = some none)
    (na_BurstRule__gap : PySem.W.findIn K (.ref aBurstRule) "_gap" = some none)
    (D_is_whole : Dn K "is_whole" s_is_whole)
    (D_is_row : Dn K "is_row" s_is_row)
    (D_check_number : Dn K "check_number" s_check_number)
    (D_check_element : Dn K "check_element" s_check_element)
    (D_check_list : Dn K "check_list" s_check_list)
    (D_check_entries : Dn K "check_entries" s_check_entries)
    (D_check_pattern : ∃ f fd, PySem.W.nsIn K mainGlobals "check_pattern" = some (some (.ref f)) ∧ Fun K "check_pattern" "check_pattern" s_check_pattern f fd ∧ FunD K "check_pattern" "check_pattern" (defArgs s_check_pattern) (defBody s_check_pattern) (defScope s_check_pattern) [] [("exact", .bl false)] f fd)
    (D_check_setting : Dn K "check_setting" s_check_setting)
    (D_can_make : Dn K "can_make" s_can_make)
    (D_is_list : Dn K "is_list" s_is_list)
    (D_is_tuple : Dn K "is_tuple" s_is_tuple)
    (D_is_pattern : Dn K "is_pattern" s_is_pattern)
    (D_letters_due : Dn K "letters_due" s_letters_due)
    (D_BurstRule___init__ : ∃ f fd, PySem.W.findIn K (.ref aBurstRule) "__init__" = some (some (.ref f)) ∧ PySem.W.isFn K (.ref f) = true ∧ PySem.W.keepIn K (.ref f) = true ∧ Fun K "__init__" "BurstRule.__init__" s_BurstRule___init__ f fd)
    (D_BurstRule_after : ∃ f fd, PySem.W.findIn K (.ref aBurstRule) "after" = some (some (.ref f)) ∧ PySem.W.isFn K (.ref f) = true ∧ PySem.W.keepIn K (.ref f) = true ∧ Fun K "after" "BurstRule.after" s_BurstRule_after f fd)
    (D_BurstRule_first_state : ∃ f fd, PySem.W.findIn K (.ref aBurstRule) "first_state" = some (some (.ref f)) ∧ PySem.W.isFn K (.ref f) = true ∧ PySem.W.keepIn K (.ref f) = true ∧ Fun K "first_state" "BurstRule.first_state" s_BurstRule_first_state f fd)
    (D_BurstRule_first_break : ∃ f fd, PySem.W.findIn K (.ref aBurstRule) "first_break" = some (some (.ref f)) ∧ PySem.W.isFn K (.ref f) = true ∧ PySem.W.keepIn K (.ref f) = true ∧ Fun K "first_break" "BurstRule.first_break" s_BurstRule_first_break f fd)
    (D_BurstRule___contains__ : ∃ f fd, PySem.W.findIn K (.ref aBurstRule) "__contains__" = some (some (.ref f)) ∧ PySem.W.isFn K (.ref f) = true ∧ PySem.W.keepIn K (.ref f) = true ∧ Fun K "__contains__" "BurstRule.__contains__" s_BurstRule___contains__ f fd)
    (D_is_counted : Dn K "is_counted" s_is_counted)
    (D_is_bar_paper : Dn K "is_bar_paper" s_is_bar_paper)
    (D_law_mixed : Dn K "_law_mixed" s_law_mixed)
    (D_law_store : Dn K "_law_store" s_law_store)
    (D_law_take : Dn K "_law_take" s_law_take)
    (D_law_edge : Dn K "_law_edge" s_law_edge)
    (D_law_small : Dn K "_law_small" s_law_small)
    (D_law_same : Dn K "_law_same" s_law_same)
    (D_law_copy : Dn K "_law_copy" s_law_copy)
    (D_law_char : Dn K "_law_char" s_law_char)
    (D_law_text : Dn K "_law_text" s_law_text)
    (D_law_plain : Dn K "_law_plain" s_law_plain)
    (D_law_round : Dn K "_law_round" s_law_round)
    (D_law_setting : Dn K "_law_setting" s_law_setting)
    (D_law_gcd : Dn K "_law_gcd" s_law_gcd)
    (D_law_multiple : Dn K "_law_multiple" s_law_multiple)
    (D_law_fit : Dn K "_law_fit" s_law_fit)
    (D_law_unfit : Dn K "_law_unfit" s_law_unfit)
    (D_law_losses : Dn K "_law_losses" s_law_losses)
    (D_law_makeable : Dn K "_law_makeable" s_law_makeable)
    (D_law_counted : Dn K "_law_counted" s_law_counted)
    (D_law_papers : Dn K "_law_papers" s_law_papers)
    (D_law_is_bar : Dn K "_law_is_bar" s_law_is_bar)
    (D_law_refuses_all : Dn K "_law_refuses_all" s_law_refuses_all)
    (D_law_takes_long : Dn K "_law_takes_long" s_law_takes_long)
    (D_law : Dn K "law" s_law)
    : ∃ fd : FuncData, (∀ (s : Shared) (v : Value), BindsTo s fd ⟨[v], []⟩ [("script", v)]) ∧ ∀ base : Heap, K.In base → base.Ns mainGlobals mg → FnOk P w K mg base (CN P w) 12 fa fd ["script"] (sp_law K) := by
  obtain ⟨f_law, fd_law, g_law, F_law⟩ := D_law
  have m_law := PySem.W.mg_of X G g_law
  cases hfa.symm.trans m_law
  let A : Ad := ⟨bn, bs, be, me, me, me, me, me, me, me⟩
  let tk : Nat → Tok := fun n => match n with | 0 => t0 | 1 => t1 | 2 => t2 | 3 => t3 | 4 => t4 | 5 => t5 | 6 => t6 | _ => default
  have Tx : Txt K mg A tk aBurstRule := { m_abs := PySem.W.mg_none_of X G z_abs, m_all := PySem.W.mg_none_of X G z_all, m_bool := PySem.W.mg_none_of X G z_bool, m_enumerate := PySem.W.mg_none_of X G z_enumerate, m_int := PySem.W.mg_none_of X G z_int, m_isinstance := PySem.W.mg_none_of X G z_isinstance, m_len := PySem.W.mg_none_of X G z_len, m_list := PySem.W.mg_none_of X G z_list, m_max := PySem.W.mg_none_of X G z_max, m_min := PySem.W.mg_none_of X G z_min, m_range := PySem.W.mg_none_of X G z_range, m_str := PySem.W.mg_none_of X G z_str, m_tuple := PySem.W.mg_none_of X G z_tuple, m_type := PySem.W.mg_none_of X G z_type, g_BadNumber := PySem.W.mg_of X G g_BadNumber, g_BadShape := PySem.W.mg_of X G g_BadShape, g_BadElement := PySem.W.mg_of X G g_BadElement, g_MendError := PySem.W.mg_of X G g_MendError, g_BurstRule := PySem.W.mg_of X G g_BurstRule, cl_BurstRule := ⟨cp_BurstRule, ch_BurstRule, co_BurstRule, cs_BurstRule⟩, na_BurstRule__burst := na_BurstRule__burst, na_BurstRule__gap := na_BurstRule__gap, g_MOST_BEATS_rules := PySem.W.mg_of X G g_MOST_BEATS_rules, g_MOST_BURST_rules := PySem.W.mg_of X G g_MOST_BURST_rules, g_MOST_GAP := PySem.W.mg_of X G g_MOST_GAP, g_MOST_IN_SETTING := PySem.W.mg_of X G g_MOST_IN_SETTING, g_MOST_BURST_burstmake := PySem.W.mg_of X G g_MOST_BURST_burstmake, g_MOST_DELAY := PySem.W.mg_of X G g_MOST_DELAY, g_MOST_BEATS_bar := PySem.W.mg_of X G g_MOST_BEATS_bar }
  have OX_bn : OexC K bn := { cls := ⟨nm_bn, q_bn, N_bn, bs_bn, bm_bn, sn_bn, sub_bn, ab_bn, col_bn, dd_bn, e0_bn, e1_bn, e2_bn, e3_bn, e5_bn, xL_bn, xR_bn⟩, sa := sa_bn, exC := exC_bn, tyC := tyC_bn, kC := kC_bn }
  obtain ⟨fdI_bn, FI_bn⟩ := i3_bn
  have bI_bn := FI_bn.binds (ps := ["self", "argument"]) fun _ _ _ _ _ _ us hl => match us, hl with | [_, _], _ => rfl
  have OX_bs : OexC K bs := { cls := ⟨nm_bs, q_bs, N_bs, bs_bs, bm_bs, sn_bs, sub_bs, ab_bs, col_bs, dd_bs, e0_bs, e1_bs, e2_bs, e3_bs, e5_bs, xL_bs, xR_bs⟩, sa := sa_bs, exC := exC_bs, tyC := tyC_bs, kC := kC_bs }
  obtain ⟨fdI_bs, FI_bs⟩ := i3_bs
  have bI_bs := FI_bs.binds (ps := ["self", "argument"]) fun _ _ _ _ _ _ us hl => match us, hl with | [_, _], _ => rfl
  have OX_be : OexC K be := { cls := ⟨nm_be, q_be, N_be, bs_be, bm_be, sn_be, sub_be, ab_be, col_be, dd_be, e0_be, e1_be, e2_be, e3_be, e5_be, xL_be, xR_be⟩, sa := sa_be, exC := exC_be, tyC := tyC_be, kC := kC_be }
  obtain ⟨fdI_be, FI_be⟩ := i3_be
  have bI_be := FI_be.binds (ps := ["self", "argument"]) fun _ _ _ _ _ _ us hl => match us, hl with | [_, _], _ => rfl
  obtain ⟨f_is_whole, fd_is_whole, g_is_whole, F_is_whole⟩ := D_is_whole
  have m_is_whole := PySem.W.mg_of X G g_is_whole
  have b_is_whole := F_is_whole.binds (ps := ["value", "low", "high"]) fun _ _ _ _ _ _ us hl => match us, hl with | [_, _, _], _ => rfl
  obtain ⟨f_is_row, fd_is_row, g_is_row, F_is_row⟩ := D_is_row
  have m_is_row := PySem.W.mg_of X G g_is_row
  have b_is_row := F_is_row.binds (ps := ["value", "size", "length"]) fun _ _ _ _ _ _ us hl => match us, hl with | [_, _, _], _ => rfl
  obtain ⟨f_check_number, fd_check_number, g_check_number, F_check_number⟩ := D_check_number
  have m_check_number := PySem.W.mg_of X G g_check_number
  have b_check_number := F_check_number.binds (ps := ["value", "low", "high", "argument"]) fun _ _ _ _ _ _ us hl => match us, hl with | [_, _, _, _], _ => rfl
  obtain ⟨f_check_element, fd_check_element, g_check_element, F_check_element⟩ := D_check_element
  have m_check_element := PySem.W.mg_of X G g_check_element
  have b_check_element := F_check_element.binds (ps := ["value", "size", "argument"]) fun _ _ _ _ _ _ us hl => match us, hl with | [_, _, _], _ => rfl
  obtain ⟨f_check_list, fd_check_list, g_check_list, F_check_list⟩ := D_check_list
  have m_check_list := PySem.W.mg_of X G g_check_list
  obtain ⟨f_check_entries, fd_check_entries, g_check_entries, F_check_entries⟩ := D_check_entries
  have m_check_entries := PySem.W.mg_of X G g_check_entries
  have b_check_entries := F_check_entries.binds (ps := ["row", "size", "argument"]) fun _ _ _ _ _ _ us hl => match us, hl with | [_, _, _], _ => rfl
  obtain ⟨f_check_pattern, fd_check_pattern, g_check_pattern, F_check_pattern, FD_check_pattern⟩ := D_check_pattern
  have m_check_pattern := PySem.W.mg_of X G g_check_pattern
  obtain ⟨ds_check_pattern, vd_check_pattern, b_check_pattern⟩ := FD_check_pattern.binds0 (ps := ["pattern", "most", "argument", "exact"]) 3 (by simp) rfl fun D doc pm an cdv ct us ks hu hk => match us, ks, hu, hk with | [_, _, _], [_], _, _ => ⟨_, _, _, _, _, _, rfl, rfl, rfl⟩
  obtain ⟨f_check_setting, fd_check_setting, g_check_setting, F_check_setting⟩ := D_check_setting
  have m_check_setting := PySem.W.mg_of X G g_check_setting
  have b_check_setting := F_check_setting.binds (ps := ["letters", "signs", "burst", "delay"]) fun _ _ _ _ _ _ us hl => match us, hl with | [_, _, _, _], _ => rfl
  obtain ⟨f_can_make, fd_can_make, g_can_make, F_can_make⟩ := D_can_make
  have m_can_make := PySem.W.mg_of X G g_can_make
  have b_can_make := F_can_make.binds (ps := ["letters", "signs", "burst", "delay"]) fun _ _ _ _ _ _ us hl => match us, hl with | [_, _, _, _], _ => rfl
  obtain ⟨f_is_list, fd_is_list, g_is_list, F_is_list⟩ := D_is_list
  have m_is_list := PySem.W.mg_of X G g_is_list
  have b_is_list := F_is_list.binds (ps := ["value", "least", "most"]) fun _ _ _ _ _ _ us hl => match us, hl with | [_, _, _], _ => rfl
  obtain ⟨f_is_tuple, fd_is_tuple, g_is_tuple, F_is_tuple⟩ := D_is_tuple
  have m_is_tuple := PySem.W.mg_of X G g_is_tuple
  have b_is_tuple := F_is_tuple.binds (ps := ["value", "many"]) fun _ _ _ _ _ _ us hl => match us, hl with | [_, _], _ => rfl
  obtain ⟨f_is_pattern, fd_is_pattern, g_is_pattern, F_is_pattern⟩ := D_is_pattern
  have m_is_pattern := PySem.W.mg_of X G g_is_pattern
  have b_is_pattern := F_is_pattern.binds (ps := ["value", "least", "most"]) fun _ _ _ _ _ _ us hl => match us, hl with | [_, _, _], _ => rfl
  obtain ⟨f_letters_due, fd_letters_due, g_letters_due, F_letters_due⟩ := D_letters_due
  have m_letters_due := PySem.W.mg_of X G g_letters_due
  have b_letters_due := F_letters_due.binds (ps := ["letters", "delay", "beats"]) fun _ _ _ _ _ _ us hl => match us, hl with | [_, _, _], _ => rfl
  obtain ⟨f_BurstRule___init__, fd_BurstRule___init__, m1_BurstRule___init__, m2_BurstRule___init__, m3_BurstRule___init__, F_BurstRule___init__⟩ := D_BurstRule___init__
  have b_BurstRule___init__ := F_BurstRule___init__.binds (ps := ["self", "burst", "gap"]) fun _ _ _ _ _ _ us hl => match us, hl with | [_, _, _], _ => rfl
  obtain ⟨f_BurstRule_after, fd_BurstRule_after, m1_BurstRule_after, m2_BurstRule_after, m3_BurstRule_after, F_BurstRule_after⟩ := D_BurstRule_after
  have b_BurstRule_after := F_BurstRule_after.binds (ps := ["self", "state", "lost"]) fun _ _ _ _ _ _ us hl => match us, hl with | [_, _, _], _ => rfl
  obtain ⟨f_BurstRule_first_state, fd_BurstRule_first_state, m1_BurstRule_first_state, m2_BurstRule_first_state, m3_BurstRule_first_state, F_BurstRule_first_state⟩ := D_BurstRule_first_state
  have b_BurstRule_first_state := F_BurstRule_first_state.binds (ps := ["self"]) fun _ _ _ _ _ _ us hl => match us, hl with | [_], _ => rfl
  obtain ⟨f_BurstRule_first_break, fd_BurstRule_first_break, m1_BurstRule_first_break, m2_BurstRule_first_break, m3_BurstRule_first_break, F_BurstRule_first_break⟩ := D_BurstRule_first_break
  have b_BurstRule_first_break := F_BurstRule_first_break.binds (ps := ["self", "pattern"]) fun _ _ _ _ _ _ us hl => match us, hl with | [_, _], _ => rfl
  obtain ⟨f_BurstRule___contains__, fd_BurstRule___contains__, m1_BurstRule___contains__, m2_BurstRule___contains__, m3_BurstRule___contains__, F_BurstRule___contains__⟩ := D_BurstRule___contains__
  have b_BurstRule___contains__ := F_BurstRule___contains__.binds (ps := ["self", "x"]) fun _ _ _ _ _ _ us hl => match us, hl with | [_, _], _ => rfl
  obtain ⟨f_is_counted, fd_is_counted, g_is_counted, F_is_counted⟩ := D_is_counted
  have m_is_counted := PySem.W.mg_of X G g_is_counted
  have b_is_counted := F_is_counted.binds (ps := ["letters", "signs", "rule", "delay", "paper"]) fun _ _ _ _ _ _ us hl => match us, hl with | [_, _, _, _, _], _ => rfl
  obtain ⟨f_is_bar_paper, fd_is_bar_paper, g_is_bar_paper, F_is_bar_paper⟩ := D_is_bar_paper
  have m_is_bar_paper := PySem.W.mg_of X G g_is_bar_paper
  have b_is_bar_paper := F_is_bar_paper.binds (ps := ["letters", "signs", "burst", "delay", "paper"]) fun _ _ _ _ _ _ us hl => match us, hl with | [_, _, _, _, _], _ => rfl
  obtain ⟨f_law_mixed, fd_law_mixed, g_law_mixed, F_law_mixed⟩ := D_law_mixed
  have m_law_mixed := PySem.W.mg_of X G g_law_mixed
  have b_law_mixed := F_law_mixed.binds (ps := ["number", "turn"]) fun _ _ _ _ _ _ us hl => match us, hl with | [_, _], _ => rfl
  obtain ⟨f_law_store, fd_law_store, g_law_store, F_law_store⟩ := D_law_store
  have m_law_store := PySem.W.mg_of X G g_law_store
  have b_law_store := F_law_store.binds (ps := ["script"]) fun _ _ _ _ _ _ us hl => match us, hl with | [_], _ => rfl
  obtain ⟨f_law_take, fd_law_take, g_law_take, F_law_take⟩ := D_law_take
  have m_law_take := PySem.W.mg_of X G g_law_take
  have b_law_take := F_law_take.binds (ps := ["store", "many"]) fun _ _ _ _ _ _ us hl => match us, hl with | [_, _], _ => rfl
  obtain ⟨f_law_edge, fd_law_edge, g_law_edge, F_law_edge⟩ := D_law_edge
  have m_law_edge := PySem.W.mg_of X G g_law_edge
  have b_law_edge := F_law_edge.binds (ps := ["store", "low", "high"]) fun _ _ _ _ _ _ us hl => match us, hl with | [_, _, _], _ => rfl
  obtain ⟨f_law_small, fd_law_small, g_law_small, F_law_small⟩ := D_law_small
  have m_law_small := PySem.W.mg_of X G g_law_small
  have b_law_small := F_law_small.binds (ps := ["store", "low", "usual", "high"]) fun _ _ _ _ _ _ us hl => match us, hl with | [_, _, _, _], _ => rfl
  obtain ⟨f_law_same, fd_law_same, g_law_same, F_law_same⟩ := D_law_same
  have m_law_same := PySem.W.mg_of X G g_law_same
  have b_law_same := F_law_same.binds (ps := ["left", "right"]) fun _ _ _ _ _ _ us hl => match us, hl with | [_, _], _ => rfl
  obtain ⟨f_law_copy, fd_law_copy, g_law_copy, F_law_copy⟩ := D_law_copy
  have m_law_copy := PySem.W.mg_of X G g_law_copy
  have b_law_copy := F_law_copy.binds (ps := ["value"]) fun _ _ _ _ _ _ us hl => match us, hl with | [_], _ => rfl
  obtain ⟨f_law_char, fd_law_char, g_law_char, F_law_char⟩ := D_law_char
  have m_law_char := PySem.W.mg_of X G g_law_char
  have b_law_char := F_law_char.binds (ps := ["store"]) fun _ _ _ _ _ _ us hl => match us, hl with | [_], _ => rfl
  obtain ⟨f_law_text, fd_law_text, g_law_text, F_law_text⟩ := D_law_text
  have m_law_text := PySem.W.mg_of X G g_law_text
  have b_law_text := F_law_text.binds (ps := ["store", "most"]) fun _ _ _ _ _ _ us hl => match us, hl with | [_, _], _ => rfl
  obtain ⟨f_law_plain, fd_law_plain, g_law_plain, F_law_plain⟩ := D_law_plain
  have m_law_plain := PySem.W.mg_of X G g_law_plain
  have b_law_plain := F_law_plain.binds (ps := ["store", "depth"]) fun _ _ _ _ _ _ us hl => match us, hl with | [_, _], _ => rfl
  obtain ⟨f_law_round, fd_law_round, g_law_round, F_law_round⟩ := D_law_round
  have m_law_round := PySem.W.mg_of X G g_law_round
  have b_law_round := F_law_round.binds (ps := ["lost", "heard", "beats"]) fun _ _ _ _ _ _ us hl => match us, hl with | [_, _, _], _ => rfl
  obtain ⟨f_law_setting, fd_law_setting, g_law_setting, F_law_setting⟩ := D_law_setting
  have m_law_setting := PySem.W.mg_of X G g_law_setting
  have b_law_setting := F_law_setting.binds (ps := ["store"]) fun _ _ _ _ _ _ us hl => match us, hl with | [_], _ => rfl
  obtain ⟨f_law_gcd, fd_law_gcd, g_law_gcd, F_law_gcd⟩ := D_law_gcd
  have m_law_gcd := PySem.W.mg_of X G g_law_gcd
  have b_law_gcd := F_law_gcd.binds (ps := ["one", "two"]) fun _ _ _ _ _ _ us hl => match us, hl with | [_, _], _ => rfl
  obtain ⟨f_law_multiple, fd_law_multiple, g_law_multiple, F_law_multiple⟩ := D_law_multiple
  have m_law_multiple := PySem.W.mg_of X G g_law_multiple
  have b_law_multiple := F_law_multiple.binds (ps := ["setting"]) fun _ _ _ _ _ _ us hl => match us, hl with | [_], _ => rfl
  obtain ⟨f_law_fit, fd_law_fit, g_law_fit, F_law_fit⟩ := D_law_fit
  have m_law_fit := PySem.W.mg_of X G g_law_fit
  have b_law_fit := F_law_fit.binds (ps := ["store", "most"]) fun _ _ _ _ _ _ us hl => match us, hl with | [_, _], _ => rfl
  obtain ⟨f_law_unfit, fd_law_unfit, g_law_unfit, F_law_unfit⟩ := D_law_unfit
  have m_law_unfit := PySem.W.mg_of X G g_law_unfit
  have b_law_unfit := F_law_unfit.binds (ps := ["store"]) fun _ _ _ _ _ _ us hl => match us, hl with | [_], _ => rfl
  obtain ⟨f_law_losses, fd_law_losses, g_law_losses, F_law_losses⟩ := D_law_losses
  have m_law_losses := PySem.W.mg_of X G g_law_losses
  have b_law_losses := F_law_losses.binds (ps := ["store", "burst", "gap", "beats"]) fun _ _ _ _ _ _ us hl => match us, hl with | [_, _, _, _], _ => rfl
  obtain ⟨f_law_makeable, fd_law_makeable, g_law_makeable, F_law_makeable⟩ := D_law_makeable
  have m_law_makeable := PySem.W.mg_of X G g_law_makeable
  have b_law_makeable := F_law_makeable.binds (ps := ["store"]) fun _ _ _ _ _ _ us hl => match us, hl with | [_], _ => rfl
  obtain ⟨f_law_counted, fd_law_counted, g_law_counted, F_law_counted⟩ := D_law_counted
  have m_law_counted := PySem.W.mg_of X G g_law_counted
  have b_law_counted := F_law_counted.binds (ps := ["setting", "pattern"]) fun _ _ _ _ _ _ us hl => match us, hl with | [_, _], _ => rfl
  obtain ⟨f_law_papers, fd_law_papers, g_law_papers, F_law_papers⟩ := D_law_papers
  have m_law_papers := PySem.W.mg_of X G g_law_papers
  have b_law_papers := F_law_papers.binds (ps := ["store", "setting"]) fun _ _ _ _ _ _ us hl => match us, hl with | [_, _], _ => rfl
  obtain ⟨f_law_is_bar, fd_law_is_bar, g_law_is_bar, F_law_is_bar⟩ := D_law_is_bar
  have m_law_is_bar := PySem.W.mg_of X G g_law_is_bar
  have b_law_is_bar := F_law_is_bar.binds (ps := ["setting", "paper", "due"]) fun _ _ _ _ _ _ us hl => match us, hl with | [_, _, _], _ => rfl
  obtain ⟨f_law_refuses_all, fd_law_refuses_all, g_law_refuses_all, F_law_refuses_all⟩ := D_law_refuses_all
  have m_law_refuses_all := PySem.W.mg_of X G g_law_refuses_all
  have b_law_refuses_all := F_law_refuses_all.binds (ps := ["setting", "papers"]) fun _ _ _ _ _ _ us hl => match us, hl with | [_, _], _ => rfl
  obtain ⟨f_law_takes_long, fd_law_takes_long, g_law_takes_long, F_law_takes_long⟩ := D_law_takes_long
  have m_law_takes_long := PySem.W.mg_of X G g_law_takes_long
  have b_law_takes_long := F_law_takes_long.binds (ps := ["store", "setting"]) fun _ _ _ _ _ _ us hl => match us, hl with | [_, _], _ => rfl
  have bL : ∀ (s : Shared) (v : Value), BindsTo s fd_law ⟨[v], []⟩ [("script", v)] := by
    obtain ⟨oc, od, kV, doc, pm, an, cdv, ct, osl, rfl, lk, hcd⟩ := F_law.ex
    exact fun s v => .of_eq rfl
  refine ⟨fd_law, bL, fun base _ _ => ?_⟩
  have E_BadNumber : ErrK P w K mg base "BadNumber" A.bn := { gC := PySem.W.mg_of X G g_BadNumber, oex := OX_bn, noA := noA_bn, ini := ⟨fI_bn, fdI_bn, i1_bn, i2_bn, init_of FI_bn sc_BadNumber___init__ (fun _ _ _ _ _ _ => pss_one (ps_ost (pv 0) (pv 1))) OX_bn noA_bn, bI_bn⟩ }
  have E_BadShape : ErrK P w K mg base "BadShape" A.bs := { gC := PySem.W.mg_of X G g_BadShape, oex := OX_bs, noA := noA_bs, ini := ⟨fI_bs, fdI_bs, i1_bs, i2_bs, init_of FI_bs sc_BadShape___init__ (fun _ _ _ _ _ _ => pss_one (ps_ost (pv 0) (pv 1))) OX_bs noA_bs, bI_bs⟩ }
  have E_BadElement : ErrK P w K mg base "BadElement" A.be := { gC := PySem.W.mg_of X G g_BadElement, oex := OX_be, noA := noA_be, ini := ⟨fI_be, fdI_be, i1_be, i2_be, init_of FI_be sc_BadElement___init__ (fun _ _ _ _ _ _ => pss_one (ps_ost (pv 0) (pv 1))) OX_be noA_be, bI_be⟩ }
  have ok_is_whole_ := ok_is_whole (P := P) (w := w) (base := base) F_is_whole Tx 
  have C_is_whole : Cal P w K mg base "is_whole" 1 ["value", "low", "high"] (SpU A 3 c_is_whole) := ⟨f_is_whole, fd_is_whole, ok_is_whole_, m_is_whole, F_is_whole.kp, b_is_whole⟩
  have ok_is_row_ := ok_is_row (P := P) (w := w) (base := base) F_is_row Tx C_is_whole
  have C_is_row : Cal P w K mg base "is_row" 2 ["value", "size", "length"] (SpU A 3 c_is_row) := ⟨f_is_row, fd_is_row, ok_is_row_, m_is_row, F_is_row.kp, b_is_row⟩
  have ok_check_number_ := ok_check_number (P := P) (w := w) (base := base) F_check_number Tx C_is_whole E_BadNumber
  have C_check_number : CalX P w K mg base "check_number" 3 ["value", "low", "high", "argument"] (SpU A 4 c_check_number) := ⟨f_check_number, fd_check_number, ok_check_number_, m_check_number, F_check_number.kp, b_check_number⟩
  have ok_check_element_ := ok_check_element (P := P) (w := w) (base := base) F_check_element Tx C_is_whole E_BadElement
  have C_check_element : CalX P w K mg base "check_element" 3 ["value", "size", "argument"] (SpU A 3 c_check_element) := ⟨f_check_element, fd_check_element, ok_check_element_, m_check_element, F_check_element.kp, b_check_element⟩
  have ok_check_list_ := ok_check_list (P := P) (w := w) (base := base) F_check_list Tx E_BadShape
  have CK_check_list_3_exact : CalKX P w K mg base "check_list" 3 ["value", "most", "argument", "exact"] 3 ["exact"] [0] (SpU A 4 c_check_list) := ⟨f_check_list, fd_check_list, ok_check_list_, m_check_list, F_check_list.kp, by
    obtain ⟨oc, od, kV, doc, pm, an, cdv, ct, osl, rfl, lk, hcd⟩ := F_check_list.ex
    exact ⟨fun s us ws _ h1 h2 => match us, ws, h1, h2 with | [_, _, _], [_], _, _ => .of_eq rfl, fun r1 r2 => vals_app r1 (vals_perm r2 _)⟩⟩
  have ok_check_entries_ := ok_check_entries (P := P) (w := w) (base := base) F_check_entries Tx C_check_element
  have C_check_entries : CalX P w K mg base "check_entries" 4 ["row", "size", "argument"] (SpU A 3 c_check_entries) := ⟨f_check_entries, fd_check_entries, ok_check_entries_, m_check_entries, F_check_entries.kp, b_check_entries⟩
  have ok_check_pattern_ := ok_check_pattern (P := P) (w := w) (base := base) F_check_pattern Tx C_check_entries CK_check_list_3_exact
  have CD_check_pattern : CalXD P w K mg base "check_pattern" 5 ["pattern", "most", "argument", "exact"] (SpU A 4 c_check_pattern) [.bl false] := ⟨f_check_pattern, fd_check_pattern, ds_check_pattern, ok_check_pattern_, m_check_pattern, F_check_pattern.kp, b_check_pattern, vd_check_pattern⟩
  have ok_check_setting_ := ok_check_setting (P := P) (w := w) (base := base) F_check_setting Tx C_check_number
  have C_check_setting : CalX P w K mg base "check_setting" 4 ["letters", "signs", "burst", "delay"] (SpU A 4 c_check_setting) := ⟨f_check_setting, fd_check_setting, ok_check_setting_, m_check_setting, F_check_setting.kp, b_check_setting⟩
  have ok_can_make_ := ok_can_make (P := P) (w := w) (base := base) F_can_make Tx C_check_setting
  have C_can_make : CalX P w K mg base "can_make" 5 ["letters", "signs", "burst", "delay"] (SpU A 4 c_can_make) := ⟨f_can_make, fd_can_make, ok_can_make_, m_can_make, F_can_make.kp, b_can_make⟩
  have ok_is_list_ := ok_is_list (P := P) (w := w) (base := base) F_is_list Tx 
  have C_is_list : Cal P w K mg base "is_list" 1 ["value", "least", "most"] (SpU A 3 c_is_list) := ⟨f_is_list, fd_is_list, ok_is_list_, m_is_list, F_is_list.kp, b_is_list⟩
  have ok_is_tuple_ := ok_is_tuple (P := P) (w := w) (base := base) F_is_tuple Tx 
  have C_is_tuple : Cal P w K mg base "is_tuple" 1 ["value", "many"] (SpU A 2 c_is_tuple) := ⟨f_is_tuple, fd_is_tuple, ok_is_tuple_, m_is_tuple, F_is_tuple.kp, b_is_tuple⟩
  have ok_is_pattern_ := ok_is_pattern (P := P) (w := w) (base := base) F_is_pattern Tx C_is_list C_is_row
  have C_is_pattern : Cal P w K mg base "is_pattern" 3 ["value", "least", "most"] (SpU A 3 c_is_pattern) := ⟨f_is_pattern, fd_is_pattern, ok_is_pattern_, m_is_pattern, F_is_pattern.kp, b_is_pattern⟩
  have ok_letters_due_ := ok_letters_due (P := P) (w := w) (base := base) F_letters_due Tx 
  have C_letters_due : Cal P w K mg base "letters_due" 1 ["letters", "delay", "beats"] (SpU A 3 c_letters_due) := ⟨f_letters_due, fd_letters_due, ok_letters_due_, m_letters_due, F_letters_due.kp, b_letters_due⟩
  have ok_BurstRule___init___ := ok_BurstRule___init__ (P := P) (w := w) (base := base) F_BurstRule___init__ Tx C_check_number
  have M_BurstRule : CalM P w K mg base "BurstRule" aBurstRule 4 ["self", "burst", "gap"] (SpI A aBurstRule 2 (c_BurstRule___init__ aBurstRule)) := ⟨f_BurstRule___init__, fd_BurstRule___init__, ok_BurstRule___init___, PySem.W.mg_of X G g_BurstRule, ⟨mk_BurstRule, m1_BurstRule___init__, m2_BurstRule___init__, kp_BurstRule⟩, b_BurstRule___init__⟩
  have ok_BurstRule_after_ := ok_BurstRule_after (P := P) (w := w) (base := base) F_BurstRule_after Tx C_check_number
  have C_BurstRule_after : CalO P w K mg base aBurstRule "after" 4 ["self", "state", "lost"] (SpU A 3 (c_BurstRule_after aBurstRule)) := ⟨f_BurstRule_after, fd_BurstRule_after, ok_BurstRule_after_, Tx.cl_BurstRule, ⟨m1_BurstRule_after, m2_BurstRule_after, m3_BurstRule_after⟩, b_BurstRule_after⟩
  have ok_BurstRule_first_state_ := ok_BurstRule_first_state (P := P) (w := w) (base := base) F_BurstRule_first_state Tx 
  have C_BurstRule_first_state : CalO P w K mg base aBurstRule "first_state" 1 ["self"] (SpU A 1 (c_BurstRule_first_state aBurstRule)) := ⟨f_BurstRule_first_state, fd_BurstRule_first_state, ok_BurstRule_first_state_, Tx.cl_BurstRule, ⟨m1_BurstRule_first_state, m2_BurstRule_first_state, m3_BurstRule_first_state⟩, b_BurstRule_first_state⟩
  have ok_BurstRule_first_break_ := ok_BurstRule_first_break (P := P) (w := w) (base := base) F_BurstRule_first_break Tx C_BurstRule_after C_BurstRule_first_state CD_check_pattern
  have C_BurstRule_first_break : CalO P w K mg base aBurstRule "first_break" 6 ["self", "pattern"] (SpU A 2 (c_BurstRule_first_break aBurstRule)) := ⟨f_BurstRule_first_break, fd_BurstRule_first_break, ok_BurstRule_first_break_, Tx.cl_BurstRule, ⟨m1_BurstRule_first_break, m2_BurstRule_first_break, m3_BurstRule_first_break⟩, b_BurstRule_first_break⟩
  have ok_BurstRule___contains___ := ok_BurstRule___contains__ (P := P) (w := w) (base := base) F_BurstRule___contains__ Tx C_BurstRule_first_break
  have C_BurstRule___contains__ : CalO P w K mg base aBurstRule "__contains__" 7 ["self", "x"] (SpU A 2 (c_BurstRule___contains__ aBurstRule)) := ⟨f_BurstRule___contains__, fd_BurstRule___contains__, ok_BurstRule___contains___, Tx.cl_BurstRule, ⟨m1_BurstRule___contains__, m2_BurstRule___contains__, m3_BurstRule___contains__⟩, b_BurstRule___contains__⟩
  have ok_is_counted_ := ok_is_counted (P := P) (w := w) (base := base) F_is_counted Tx C_BurstRule___contains__ C_is_pattern C_is_tuple C_letters_due
  have C_is_counted : CalX P w K mg base "is_counted" 8 ["letters", "signs", "rule", "delay", "paper"] (SpU A 5 (c_is_counted aBurstRule)) := ⟨f_is_counted, fd_is_counted, ok_is_counted_, m_is_counted, F_is_counted.kp, b_is_counted⟩
  have ok_is_bar_paper_ := ok_is_bar_paper (P := P) (w := w) (base := base) F_is_bar_paper Tx M_BurstRule C_check_setting C_is_counted
  have C_is_bar_paper : CalX P w K mg base "is_bar_paper" 9 ["letters", "signs", "burst", "delay", "paper"] (SpU A 5 (c_is_bar_paper aBurstRule)) := ⟨f_is_bar_paper, fd_is_bar_paper, ok_is_bar_paper_, m_is_bar_paper, F_is_bar_paper.kp, b_is_bar_paper⟩
  have ok_law_mixed_ := ok_law_mixed (P := P) (w := w) (base := base) F_law_mixed Tx 
  have C_law_mixed : Cal P w K mg base "_law_mixed" 1 ["number", "turn"] sp_mixed := ⟨f_law_mixed, fd_law_mixed, ok_law_mixed_, m_law_mixed, F_law_mixed.kp, b_law_mixed⟩
  have ok_law_store_ := ok_law_store (P := P) (w := w) (base := base) F_law_store Tx 
  have C_law_store : Cal P w K mg base "_law_store" 1 ["script"] (sp_store K) := ⟨f_law_store, fd_law_store, ok_law_store_, m_law_store, F_law_store.kp, b_law_store⟩
  have ok_law_take_ := ok_law_take (P := P) (w := w) (base := base) F_law_take Tx C_law_mixed
  have C_law_take : Cal P w K mg base "_law_take" 2 ["store", "many"] (SpU A 2 c_law_take) := ⟨f_law_take, fd_law_take, ok_law_take_, m_law_take, F_law_take.kp, b_law_take⟩
  have ok_law_edge_ := ok_law_edge (P := P) (w := w) (base := base) F_law_edge Tx C_law_take
  have C_law_edge : Cal P w K mg base "_law_edge" 3 ["store", "low", "high"] (SpU A 3 c_law_edge) := ⟨f_law_edge, fd_law_edge, ok_law_edge_, m_law_edge, F_law_edge.kp, b_law_edge⟩
  have ok_law_small_ := ok_law_small (P := P) (w := w) (base := base) F_law_small Tx C_law_edge C_law_take
  have C_law_small : Cal P w K mg base "_law_small" 4 ["store", "low", "usual", "high"] (SpU A 4 c_law_small) := ⟨f_law_small, fd_law_small, ok_law_small_, m_law_small, F_law_small.kp, b_law_small⟩
  have ok_law_same_ := ok_same (P := P) (w := w) (base := base) F_law_same Tx m_law_same b_law_same 7
  have C_law_same : Cal P w K mg base "_law_same" 8 ["left", "right"] (SpU A 2 (c_law_same 7)) := ⟨f_law_same, fd_law_same, ok_law_same_, m_law_same, F_law_same.kp, b_law_same⟩
  have ok_law_copy_ := ok_copy (P := P) (w := w) (base := base) F_law_copy Tx m_law_copy b_law_copy 7
  have C_law_copy : Cal P w K mg base "_law_copy" 8 ["value"] (SpU A 1 (c_law_copy 7)) := ⟨f_law_copy, fd_law_copy, ok_law_copy_, m_law_copy, F_law_copy.kp, b_law_copy⟩
  have ok_law_char_ := ok_law_char (P := P) (w := w) (base := base) F_law_char Tx C_law_take
  have C_law_char : Cal P w K mg base "_law_char" 3 ["store"] (SpU A 1 c_law_char) := ⟨f_law_char, fd_law_char, ok_law_char_, m_law_char, F_law_char.kp, b_law_char⟩
  have ok_law_text_ := ok_law_text (P := P) (w := w) (base := base) F_law_text Tx C_law_char C_law_edge
  have C_law_text : Cal P w K mg base "_law_text" 4 ["store", "most"] (SpU A 2 c_law_text) := ⟨f_law_text, fd_law_text, ok_law_text_, m_law_text, F_law_text.kp, b_law_text⟩
  have ok_law_plain_ := ok_plain (P := P) (w := w) (base := base) F_law_plain Tx C_law_take C_law_text m_law_plain b_law_plain 3
  have C_law_plain : Cal P w K mg base "_law_plain" 9 ["store", "depth"] (SpU A 2 (c_law_plain 3)) := ⟨f_law_plain, fd_law_plain, ok_law_plain_, m_law_plain, F_law_plain.kp, b_law_plain⟩
  have ok_law_round_ := ok_law_round (P := P) (w := w) (base := base) F_law_round Tx 
  have C_law_round : Cal P w K mg base "_law_round" 1 ["lost", "heard", "beats"] (SpU A 3 c_law_round) := ⟨f_law_round, fd_law_round, ok_law_round_, m_law_round, F_law_round.kp, b_law_round⟩
  have ok_law_setting_ := ok_law_setting (P := P) (w := w) (base := base) F_law_setting Tx C_law_small
  have C_law_setting : Cal P w K mg base "_law_setting" 5 ["store"] (SpU A 1 c_law_setting) := ⟨f_law_setting, fd_law_setting, ok_law_setting_, m_law_setting, F_law_setting.kp, b_law_setting⟩
  have ok_law_gcd_ := ok_law_gcd (P := P) (w := w) (base := base) F_law_gcd Tx 
  have C_law_gcd : Cal P w K mg base "_law_gcd" 1 ["one", "two"] (SpU A 2 c_law_gcd) := ⟨f_law_gcd, fd_law_gcd, ok_law_gcd_, m_law_gcd, F_law_gcd.kp, b_law_gcd⟩
  have ok_law_multiple_ := ok_law_multiple (P := P) (w := w) (base := base) F_law_multiple Tx C_law_gcd
  have C_law_multiple : Cal P w K mg base "_law_multiple" 2 ["setting"] (SpU A 1 c_law_multiple) := ⟨f_law_multiple, fd_law_multiple, ok_law_multiple_, m_law_multiple, F_law_multiple.kp, b_law_multiple⟩
  have ok_law_fit_ := ok_law_fit (P := P) (w := w) (base := base) F_law_fit Tx C_law_edge C_law_multiple C_law_take
  have C_law_fit : Cal P w K mg base "_law_fit" 4 ["store", "most"] (SpU A 2 c_law_fit) := ⟨f_law_fit, fd_law_fit, ok_law_fit_, m_law_fit, F_law_fit.kp, b_law_fit⟩
  have ok_law_unfit_ := ok_law_unfit (P := P) (w := w) (base := base) F_law_unfit Tx C_law_edge C_law_small
  have C_law_unfit : Cal P w K mg base "_law_unfit" 5 ["store"] (SpU A 1 c_law_unfit) := ⟨f_law_unfit, fd_law_unfit, ok_law_unfit_, m_law_unfit, F_law_unfit.kp, b_law_unfit⟩
  have ok_law_losses_ := ok_law_losses (P := P) (w := w) (base := base) F_law_losses Tx C_law_take
  have C_law_losses : Cal P w K mg base "_law_losses" 3 ["store", "burst", "gap", "beats"] (SpU A 4 c_law_losses) := ⟨f_law_losses, fd_law_losses, ok_law_losses_, m_law_losses, F_law_losses.kp, b_law_losses⟩
  have ok_law_makeable_ := ok_law_makeable (P := P) (w := w) (base := base) F_law_makeable Tx C_law_fit C_law_setting C_law_take
  have C_law_makeable : Cal P w K mg base "_law_makeable" 6 ["store"] (SpU A 1 c_law_makeable) := ⟨f_law_makeable, fd_law_makeable, ok_law_makeable_, m_law_makeable, F_law_makeable.kp, b_law_makeable⟩
  have ok_law_counted_ := ok_law_counted (P := P) (w := w) (base := base) F_law_counted Tx 
  have C_law_counted : Cal P w K mg base "_law_counted" 1 ["setting", "pattern"] (SpU A 2 c_law_counted) := ⟨f_law_counted, fd_law_counted, ok_law_counted_, m_law_counted, F_law_counted.kp, b_law_counted⟩
  have ok_law_papers_ := ok_law_papers (P := P) (w := w) (base := base) F_law_papers Tx C_law_counted C_law_edge C_law_losses C_law_plain C_law_round C_law_take
  have C_law_papers : Cal P w K mg base "_law_papers" 10 ["store", "setting"] (SpU A 2 c_law_papers) := ⟨f_law_papers, fd_law_papers, ok_law_papers_, m_law_papers, F_law_papers.kp, b_law_papers⟩
  have ok_law_is_bar_ := ok_law_is_bar (P := P) (w := w) (base := base) F_law_is_bar Tx C_law_copy C_law_same C_is_bar_paper
  have C_law_is_bar : CalX P w K mg base "_law_is_bar" 10 ["setting", "paper", "due"] (SpU A 3 (c_law_is_bar aBurstRule)) := ⟨f_law_is_bar, fd_law_is_bar, ok_law_is_bar_, m_law_is_bar, F_law_is_bar.kp, b_law_is_bar⟩
  have ok_law_refuses_all_ := ok_law_refuses_all (P := P) (w := w) (base := base) F_law_refuses_all Tx C_law_is_bar C_law_same C_can_make
  have C_law_refuses_all : CalX P w K mg base "_law_refuses_all" 11 ["setting", "papers"] (SpU A 2 (c_law_refuses_all aBurstRule)) := ⟨f_law_refuses_all, fd_law_refuses_all, ok_law_refuses_all_, m_law_refuses_all, F_law_refuses_all.kp, b_law_refuses_all⟩
  have ok_law_takes_long_ := ok_law_takes_long (P := P) (w := w) (base := base) F_law_takes_long Tx C_law_counted C_law_edge C_law_is_bar C_law_round C_law_same C_law_take C_can_make
  have C_law_takes_long : CalX P w K mg base "_law_takes_long" 11 ["store", "setting"] (SpU A 2 (c_law_takes_long aBurstRule)) := ⟨f_law_takes_long, fd_law_takes_long, ok_law_takes_long_, m_law_takes_long, F_law_takes_long.kp, b_law_takes_long⟩
  exact ok_law F_law Tx C_law_makeable C_law_papers C_law_refuses_all C_law_store C_law_takes_long C_law_unfit
end Mt
open PySem PySem.W PyProof.Rows
set_option maxHeartbeats 0 in
theorem PySem.Challenge.cw_mendsontime_k59_no_bar_for_makeable_sett_holds : PySem.Challenge.rw_mendsontime_k59_no_bar_for_makeable_sett.Holds := by
  w_on; o_law; k_head; (case hw => w_witness2)
  k_fill
  refine L2.walk_of (l := PySem.Challenge.rw_mendsontime_k59_no_bar_for_makeable_sett) (n := 63) (k := 12) (x := "script") (CX := fun w => Mt.CN PySem.Challenge.rw_mendsontime_k59_no_bar_for_makeable_sett.prog w) (sp := fun w => Mt.sp_law _) rfl (by decide) rfl ⟨rfl, by decide, by decide⟩ (fun w h Y => PySem.W.kIn_of Y) ?F (fun _ _ a ns hl _ hS => ⟨a, ns, rfl, hS, hl, fun _ => rfl⟩) (fun _ _ _ _ _ h => Mt.cn_false h)
  case F =>
    intro w mg fa h KX G hmg
    refine' Mt.all_mk KX G hmg ?g_BadNumber ?g_BadShape ?g_BadElement ?g_MendError ?g_MOST_BEATS_rules ?g_MOST_BURST_rules ?g_MOST_GAP ?g_MOST_IN_SETTING ?g_MOST_BURST_burstmake ?g_MOST_DELAY ?g_MOST_BEATS_bar ?z_abs ?z_all ?z_bool ?z_enumerate ?z_int ?z_isinstance ?z_len ?z_list ?z_max ?z_min ?z_range ?z_str ?z_tuple ?z_type ?xL_bn ?xR_bn ?sa_bn ?exC_bn ?tyC_bn ?kC_bn ?noA_bn ?i1_bn ?i2_bn ?i3_bn ?xL_bs ?xR_bs ?sa_bs ?exC_bs ?tyC_bs ?kC_bs ?noA_bs ?i1_bs ?i2_bs ?i3_bs ?xL_be ?xR_be ?sa_be ?exC_be ?tyC_be ?kC_be ?noA_be ?i1_be ?i2_be ?i3_be ?g_BurstRule ?mk_BurstRule ?kp_BurstRule ?cp_BurstRule ?ch_BurstRule ?co_BurstRule ?cs_BurstRule ?na_BurstRule__burst ?na_BurstRule__gap ?D_is_whole ?D_is_row ?D_check_number ?D_check_element ?D_check_list ?D_check_entries ?D_check_pattern ?D_check_setting ?D_can_make ?D_is_list ?D_is_tuple ?D_is_pattern ?D_letters_due ?D_BurstRule___init__ ?D_BurstRule_after ?D_BurstRule_first_state ?D_BurstRule_first_break ?D_BurstRule___contains__ ?D_is_counted ?D_is_bar_paper ?D_law_mixed ?D_law_store ?D_law_take ?D_law_edge ?D_law_small ?D_law_same ?D_law_copy ?D_law_char ?D_law_text ?D_law_plain ?D_law_round ?D_law_setting ?D_law_gcd ?D_law_multiple ?D_law_fit ?D_law_unfit ?D_law_losses ?D_law_makeable ?D_law_counted ?D_law_papers ?D_law_is_bar ?D_law_refuses_all ?D_law_takes_long ?D_law
    case g_BadNumber => first | k_is | rfl
    case g_BadShape => first | k_is | rfl
    case g_BadElement => first | k_is | rfl
    case g_MendError => first | k_is | rfl
    case g_MOST_BEATS_rules => first | k_is | rfl
    case g_MOST_BURST_rules => first | k_is | rfl
    case g_MOST_GAP => first | k_is | rfl
    case g_MOST_IN_SETTING => first | k_is | rfl
    case g_MOST_BURST_burstmake => first | k_is | rfl
    case g_MOST_DELAY => first | k_is | rfl
    case g_MOST_BEATS_bar => first | k_is | rfl
    case z_abs => first | k_is | rfl
    case z_all => first | k_is | rfl
    case z_bool => first | k_is | rfl
    case z_enumerate => first | k_is | rfl
    case z_int => first | k_is | rfl
    case z_isinstance => first | k_is | rfl
    case z_len => first | k_is | rfl
    case z_list => first | k_is | rfl
    case z_max => first | k_is | rfl
    case z_min => first | k_is | rfl
    case z_range => first | k_is | rfl
    case z_str => first | k_is | rfl
    case z_tuple => first | k_is | rfl
    case z_type => first | k_is | rfl
    case xL_bn => first | k_is | rfl
    case xR_bn => first | k_is | rfl
    case sa_bn => first | k_is | rfl
    case exC_bn => first | k_is | rfl
    case tyC_bn => first | k_is | rfl
    case kC_bn => first | k_is | rfl
    case noA_bn => first | k_is | rfl
    case i1_bn => first | k_is | rfl
    case i2_bn => first | k_is | rfl
    case i3_bn => (refine' ⟨_, L2.fun_mk ?l ?c ?k⟩; (case l => k_is); (case c => k_is); (case k => k_is))
    case xL_bs => first | k_is | rfl
    case xR_bs => first | k_is | rfl
    case sa_bs => first | k_is | rfl
    case exC_bs => first | k_is | rfl
    case tyC_bs => first | k_is | rfl
    case kC_bs => first | k_is | rfl
    case noA_bs => first | k_is | rfl
    case i1_bs => first | k_is | rfl
    case i2_bs => first | k_is | rfl
    case i3_bs => (refine' ⟨_, L2.fun_mk ?l ?c ?k⟩; (case l => k_is); (case c => k_is); (case k => k_is))
    case xL_be => first | k_is | rfl
    case xR_be => first | k_is | rfl
    case sa_be => first | k_is | rfl
    case exC_be => first | k_is | rfl
    case tyC_be => first | k_is | rfl
    case kC_be => first | k_is | rfl
    case noA_be => first | k_is | rfl
    case i1_be => first | k_is | rfl
    case i2_be => first | k_is | rfl
    case i3_be => (refine' ⟨_, L2.fun_mk ?l ?c ?k⟩; (case l => k_is); (case c => k_is); (case k => k_is))
    case g_BurstRule => first | k_is | rfl
    case mk_BurstRule => first | k_is | rfl
    case kp_BurstRule => first | k_is | rfl
    case cp_BurstRule => first | k_is | rfl
    case ch_BurstRule => first | k_is | rfl
    case co_BurstRule => first | k_is | rfl
    case cs_BurstRule => first | k_is | rfl
    case na_BurstRule__burst => first | k_is | rfl
    case na_BurstRule__gap => first | k_is | rfl
    case D_is_whole => (refine' ⟨_, _, ?a, L2.fun_mk ?l ?c ?k⟩; (case a => k_is); (case l => k_is); (case c => k_is); (case k => k_is))
    case D_is_row => (refine' ⟨_, _, ?a, L2.fun_mk ?l ?c ?k⟩; (case a => k_is); (case l => k_is); (case c => k_is); (case k => k_is))
    case D_check_number => (refine' ⟨_, _, ?a, L2.fun_mk ?l ?c ?k⟩; (case a => k_is); (case l => k_is); (case c => k_is); (case k => k_is))
    case D_check_element => (refine' ⟨_, _, ?a, L2.fun_mk ?l ?c ?k⟩; (case a => k_is); (case l => k_is); (case c => k_is); (case k => k_is))
    case D_check_list => (refine' ⟨_, _, ?a, L2.fun_mk ?l ?c ?k⟩; (case a => k_is); (case l => k_is); (case c => k_is); (case k => k_is))
    case D_check_entries => (refine' ⟨_, _, ?a, L2.fun_mk ?l ?c ?k⟩; (case a => k_is); (case l => k_is); (case c => k_is); (case k => k_is))
    case D_check_pattern => (refine' ⟨_, _, ?a, Mt.both_mk ?l ?h ?c ?k ?w⟩; (case a => k_is); (case l => k_is); (case h => exact rfl); (case c => k_is); (case k => k_is); (case w => (intro q hq; cases hq with | head => (exact ⟨_, by k_is, rfl⟩) | tail _ h => (cases h))))
    case D_check_setting => (refine' ⟨_, _, ?a, L2.fun_mk ?l ?c ?k⟩; (case a => k_is); (case l => k_is); (case c => k_is); (case k => k_is))
    case D_can_make => (refine' ⟨_, _, ?a, L2.fun_mk ?l ?c ?k⟩; (case a => k_is); (case l => k_is); (case c => k_is); (case k => k_is))
    case D_is_list => (refine' ⟨_, _, ?a, L2.fun_mk ?l ?c ?k⟩; (case a => k_is); (case l => k_is); (case c => k_is); (case k => k_is))
    case D_is_tuple => (refine' ⟨_, _, ?a, L2.fun_mk ?l ?c ?k⟩; (case a => k_is); (case l => k_is); (case c => k_is); (case k => k_is))
    case D_is_pattern => (refine' ⟨_, _, ?a, L2.fun_mk ?l ?c ?k⟩; (case a => k_is); (case l => k_is); (case c => k_is); (case k => k_is))
    case D_letters_due => (refine' ⟨_, _, ?a, L2.fun_mk ?l ?c ?k⟩; (case a => k_is); (case l => k_is); (case c => k_is); (case k => k_is))
    case D_BurstRule___init__ => (refine' ⟨_, _, ?a, ?b, ?d, L2.fun_mk ?l ?c ?k⟩; (case a => k_is); (case b => first | k_is | rfl); (case d => first | k_is | rfl); (case l => k_is); (case c => k_is); (case k => k_is))
    case D_BurstRule_after => (refine' ⟨_, _, ?a, ?b, ?d, L2.fun_mk ?l ?c ?k⟩; (case a => k_is); (case b => first | k_is | rfl); (case d => first | k_is | rfl); (case l => k_is); (case c => k_is); (case k => k_is))
    case D_BurstRule_first_state => (refine' ⟨_, _, ?a, ?b, ?d, L2.fun_mk ?l ?c ?k⟩; (case a => k_is); (case b => first | k_is | rfl); (case d => first | k_is | rfl); (case l => k_is); (case c => k_is); (case k => k_is))
    case D_BurstRule_first_break => (refine' ⟨_, _, ?a, ?b, ?d, L2.fun_mk ?l ?c ?k⟩; (case a => k_is); (case b => first | k_is | rfl); (case d => first | k_is | rfl); (case l => k_is); (case c => k_is); (case k => k_is))
    case D_BurstRule___contains__ => (refine' ⟨_, _, ?a, ?b, ?d, L2.fun_mk ?l ?c ?k⟩; (case a => k_is); (case b => first | k_is | rfl); (case d => first | k_is | rfl); (case l => k_is); (case c => k_is); (case k => k_is))
    case D_is_counted => (refine' ⟨_, _, ?a, L2.fun_mk ?l ?c ?k⟩; (case a => k_is); (case l => k_is); (case c => k_is); (case k => k_is))
    case D_is_bar_paper => (refine' ⟨_, _, ?a, L2.fun_mk ?l ?c ?k⟩; (case a => k_is); (case l => k_is); (case c => k_is); (case k => k_is))
    case D_law_mixed => (refine' ⟨_, _, ?a, L2.fun_mk ?l ?c ?k⟩; (case a => k_is); (case l => k_is); (case c => k_is); (case k => k_is))
    case D_law_store => (refine' ⟨_, _, ?a, L2.fun_mk ?l ?c ?k⟩; (case a => k_is); (case l => k_is); (case c => k_is); (case k => k_is))
    case D_law_take => (refine' ⟨_, _, ?a, L2.fun_mk ?l ?c ?k⟩; (case a => k_is); (case l => k_is); (case c => k_is); (case k => k_is))
    case D_law_edge => (refine' ⟨_, _, ?a, L2.fun_mk ?l ?c ?k⟩; (case a => k_is); (case l => k_is); (case c => k_is); (case k => k_is))
    case D_law_small => (refine' ⟨_, _, ?a, L2.fun_mk ?l ?c ?k⟩; (case a => k_is); (case l => k_is); (case c => k_is); (case k => k_is))
    case D_law_same => (refine' ⟨_, _, ?a, L2.fun_mk ?l ?c ?k⟩; (case a => k_is); (case l => k_is); (case c => k_is); (case k => k_is))
    case D_law_copy => (refine' ⟨_, _, ?a, L2.fun_mk ?l ?c ?k⟩; (case a => k_is); (case l => k_is); (case c => k_is); (case k => k_is))
    case D_law_char => (refine' ⟨_, _, ?a, L2.fun_mk ?l ?c ?k⟩; (case a => k_is); (case l => k_is); (case c => k_is); (case k => k_is))
    case D_law_text => (refine' ⟨_, _, ?a, L2.fun_mk ?l ?c ?k⟩; (case a => k_is); (case l => k_is); (case c => k_is); (case k => k_is))
    case D_law_plain => (refine' ⟨_, _, ?a, L2.fun_mk ?l ?c ?k⟩; (case a => k_is); (case l => k_is); (case c => k_is); (case k => k_is))
    case D_law_round => (refine' ⟨_, _, ?a, L2.fun_mk ?l ?c ?k⟩; (case a => k_is); (case l => k_is); (case c => k_is); (case k => k_is))
    case D_law_setting => (refine' ⟨_, _, ?a, L2.fun_mk ?l ?c ?k⟩; (case a => k_is); (case l => k_is); (case c => k_is); (case k => k_is))
    case D_law_gcd => (refine' ⟨_, _, ?a, L2.fun_mk ?l ?c ?k⟩; (case a => k_is); (case l => k_is); (case c => k_is); (case k => k_is))
    case D_law_multiple => (refine' ⟨_, _, ?a, L2.fun_mk ?l ?c ?k⟩; (case a => k_is); (case l => k_is); (case c => k_is); (case k => k_is))
    case D_law_fit => (refine' ⟨_, _, ?a, L2.fun_mk ?l ?c ?k⟩; (case a => k_is); (case l => k_is); (case c => k_is); (case k => k_is))
    case D_law_unfit => (refine' ⟨_, _, ?a, L2.fun_mk ?l ?c ?k⟩; (case a => k_is); (case l => k_is); (case c => k_is); (case k => k_is))
    case D_law_losses => (refine' ⟨_, _, ?a, L2.fun_mk ?l ?c ?k⟩; (case a => k_is); (case l => k_is); (case c => k_is); (case k => k_is))
    case D_law_makeable => (refine' ⟨_, _, ?a, L2.fun_mk ?l ?c ?k⟩; (case a => k_is); (case l => k_is); (case c => k_is); (case k => k_is))
    case D_law_counted => (refine' ⟨_, _, ?a, L2.fun_mk ?l ?c ?k⟩; (case a => k_is); (case l => k_is); (case c => k_is); (case k => k_is))
    case D_law_papers => (refine' ⟨_, _, ?a, L2.fun_mk ?l ?c ?k⟩; (case a => k_is); (case l => k_is); (case c => k_is); (case k => k_is))
    case D_law_is_bar => (refine' ⟨_, _, ?a, L2.fun_mk ?l ?c ?k⟩; (case a => k_is); (case l => k_is); (case c => k_is); (case k => k_is))
    case D_law_refuses_all => (refine' ⟨_, _, ?a, L2.fun_mk ?l ?c ?k⟩; (case a => k_is); (case l => k_is); (case c => k_is); (case k => k_is))
    case D_law_takes_long => (refine' ⟨_, _, ?a, L2.fun_mk ?l ?c ?k⟩; (case a => k_is); (case l => k_is); (case c => k_is); (case k => k_is))
    case D_law => (refine' ⟨_, _, ?a, L2.fun_mk ?l ?c ?k⟩; (case a => k_is); (case l => k_is); (case c => k_is); (case k => k_is))
