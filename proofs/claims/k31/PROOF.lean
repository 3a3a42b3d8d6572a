import PyProof.Rows.All
import Wide.All
import OpenK.AllK
import Wide.FinOn
import HandS.ForMost
import HandS.ForExc
import HandS.More
import HandS.ExcInit
import HandS.ExcIs
import HandS.ExcField
import HandS.HotCalls
import HandS.IsInst
import HandS.Conv
import HandS.Rev
import HandS.RevRange
import HandS.Flow
import HandS.Style
import HandS.Zip
import HandS.Wide
import HandS.Gcd
import HandS.Defaults
import KE.KExcIs
import PyProof.MaxThree
import HandS.Property
import HandS.CallSlots
import HandS.SetFor
import HandS.Text
import HandS.TupAny
import HandS.TupMul
import HandS.Iter
import HandS.Zip0
import PyProof.Draws
import PyProof.EnumMake
import HandS.NoneIn
import HandS.StrMore
import HandS.SortInts
import HandS.MakeKw
import HandS.Strs
import HandS.Small
import PyProof.ExcBaseAll.ValueError
import HandS.Head0
import HandS.Head1
import HandS.Head2
import HandS.HeadEnd
import HandS.HeadHook1
import HandS.HeadHook2
import KE.KStateDown
import Wide.Once
import HandS.DeepEq
import PyProof.Rows.StrJoinRep
import PyProof.Rows.StrFin3
import PySem.Challenge.RW_mendsontime_k31_pattern_text_round_trip
set_option Elab.async false
set_option linter.all false
set_option maxRecDepth 100000
set_option maxHeartbeats 4000000
/-! words of my own over the layer -/
namespace Mt
open PySem PySem.Spec PyProof.Rows L2
theorem rel_ty {n : String} : RelV (.ty n) (.type n) := rfl
/-- a def that may be called here: its promise, its place, how it is bound -/
structure Cal (P : Program) (w : World) (K : PySem.W.Frag) (mg : Str → Option Value) (base : Heap) (x : Str) (k : Nat) (ps : List Str) (sp : Sp) : Prop where
  ex : ∃ f fd, FnOk P w K mg base CX0 k f fd ps sp ∧ mg x = some (.ref f) ∧ PySem.W.keepIn K (.ref f) = true ∧ Binds K fd ps []
theorem p_call {X : Cx} {x : Str} {j k : Nat} {ps : List Str} {sp : Sp} {e : Expr} {es : List Expr} {t : TA} {p pos : Pos} (C : Cal X.prog X.w X.K X.mg X.base x j ps sp) (hr : Room k X.A) (ha : PA X (e :: es) t) (hj : j ≤ k := by decide) (hg : Gl X x := by rfl)
    (hdb : (x == ("__debug__" : Str)) = false := by decide) (he : starEach (e :: es) X.env = (false, eval e X.env) :: starEach es X.env := by rfl) (hpl : (backTo pos (starEach es X.env)).any (·.1) = false := by rfl) :
    PE X (.Call (.Name x p) (e :: es) [] pos) (tCall sp [] E0 t) := by
  obtain ⟨f, fd, F, gm, kp, b⟩ := C.ex
  exact pe_call F (hr.mono hj) hg gm kp b .nil pass0 ha hdb he hpl
/-! the store of drawn numbers -/
structure Sto where
  l : Addr
  ns : List Int
  i : Int
  c : Int
  g : Int
  seed : Int
  j : Int
def stV (t : Sto) : List V := [.ref t.l, .int t.i, .int t.c, .int t.g, .int t.seed, .int t.j]
def Wr (G : Hp) (s : Addr) (t : Sto) : Hp := upd G s (.lst (stV t))
structure StOk (G : Hp) (t : Sto) : Prop where
  at_ : G t.l = some (.lst (t.ns.map V.int))
  i0 : 0 ≤ t.i
  il : t.i ≤ t.ns.length
  g0 : 0 ≤ t.g
  gi : 0 < t.g → 1 ≤ t.i
end Mt
/-! readings by rewriting -/
namespace Mt
open PySem PySem.Spec PyProof.Rows L2
section
variable {D : Ends} {σ : L2.St} {H : Hp} {Q : VK} {B : Bool → Hp → Prop} {La : List V → Hp → Prop} {i : Nat} {v x y z : V} {ta tb tc te : TE} {t u : TT} {s1 s2 : TS} {r r' : R2} {aa ar : TA} {K : PySem.W.Frag} {g : TG} {gs : TGs} {b : Bool}
theorem w_seq : tSeq s1 s2 D σ H = s1 { D with nx := s2 D } σ H := rfl
theorem w_next : tNext D σ H = D.nx σ H := rfl
theorem w_ret : tRet te D σ H = te σ H D.rt := rfl
theorem w_asg : tAsg te g D σ H = te σ H fun x H1 => g x σ H1 D.nx := rfl
theorem w_ifs : tIfS t s1 s2 D σ H = t σ H fun b H1 => if b = true then s1 D σ H1 else s2 D σ H1 := rfl
theorem w_drop : tDrop te D σ H = te σ H fun _ H1 => D.nx σ H1 := rfl
theorem w_brk : tBreak D σ H = D.bk σ H := rfl
theorem w_cont : tCont D σ H = D.ct σ H := rfl
theorem w_name {R : L2.St → Hp → Prop} : gName i v σ H R = R (σ.set i (some v)) H := rfl
theorem w_var : tVar i σ H Q = ∃ v, σ[i]? = some (some v) ∧ Q v H := rfl
theorem w_c : tC v σ H Q = Q v H := rfl
theorem w_op : tOp r ta tb σ H Q = ta σ H fun x H1 => tb σ H1 fun y H2 => r x y H2 Q := rfl
theorem w_un {q : V → Hp → VK → Prop} : tUn q ta σ H Q = ta σ H fun x H1 => q x H1 Q := rfl
theorem w_I {C : Int → Int → Prop} {f : Int → Int → V} {a c : Int} : rI C f (.int a) (.int c) H Q = (C a c ∧ Q (f a c) H) := propext ⟨fun ⟨p, q, e1, e2, h⟩ => by cases e1; cases e2; exact h, fun h => ⟨a, c, rfl, rfl, h⟩⟩
theorem w_I0 {f : Int → Int → V} {a c : Int} : rI0 f (.int a) (.int c) H Q = Q (f a c) H := propext ⟨fun ⟨p, q, e1, e2, h⟩ => by cases e1; cases e2; exact h, fun h => ⟨a, c, rfl, rfl, h⟩⟩
theorem w_U {f : Int → V} {a : Int} : rU f (.int a) H Q = Q (f a) H := propext ⟨fun ⟨p, e1, h⟩ => by cases e1; exact h, fun h => ⟨a, rfl, h⟩⟩
theorem w_eq : rEq x y H Q = (scal x y = true ∧ Q (.bl (decide (x = y))) H) := rfl
theorem w_ne : rNe x y H Q = (scal x y = true ∧ Q (.bl (!decide (x = y))) H) := rfl
theorem w_test : tTest te σ H B = te σ H fun x H' => ∃ k, x = .bl k ∧ B k H' := rfl
theorem w_B : tB te σ H B = te σ H fun x H' => ∃ k, x = .bl k ∧ B k H' := rfl
theorem w_and : tAnd t u σ H B = t σ H fun c H1 => if c = true then u σ H1 B else B false H1 := rfl
theorem w_or : tOr t u σ H B = t σ H fun c H1 => if c = true then B true H1 else u σ H1 B := rfl
theorem w_not : tNot t σ H B = t σ H fun c H1 => B (!c) H1 := rfl
theorem w_andV : tAndV ta tb σ H Q = ta σ H fun x H1 => ∃ c, x = .bl c ∧ if c = true then tb σ H1 Q else Q (.bl false) H1 := rfl
theorem w_orV : tOrV ta tb σ H Q = ta σ H fun x H1 => ∃ c, x = .bl c ∧ if c = true then Q (.bl true) H1 else tb σ H1 Q := rfl
theorem w_notV : tNotV ta σ H Q = ta σ H fun x H1 => ∃ c, x = .bl c ∧ Q (.bl (!c)) H1 := rfl
theorem w_if : tIf t ta tb σ H Q = t σ H fun c H1 => if c = true then ta σ H1 Q else tb σ H1 Q := rfl
theorem w_isN : tIsN ta σ H Q = ta σ H fun x H1 => Q (.bl (decide (x = .non))) H1 := rfl
theorem w_nil : tNil σ H La = La [] H := rfl
theorem w_cons : tCons ta ar σ H La = ta σ H fun x H1 => ar σ H1 fun xs H2 => La (x :: xs) H2 := rfl
theorem w_cb {q : List V → Hp → VK → Prop} : tCB q aa σ H Q = aa σ H fun vs H1 => q vs H1 Q := rfl
theorem w_call {sp : Sp} {dvs : List V} {E : XK} : tCall sp dvs E aa σ H Q = aa σ H fun vs H1 => sp (vs ++ dvs) H1 Q E := rfl
theorem w_tup : tTup aa σ H Q = aa σ H fun xs H1 => xs.length ≤ sizeLine ∧ ∀ p, H1 p = none → Q (.ref p) (upd H1 p (.tup xs)) := rfl
theorem w_lst : tLst aa σ H Q = aa σ H fun xs H1 => xs.length ≤ sizeLine ∧ ∀ p, H1 p = none → Q (.ref p) (upd H1 p (.lst xs)) := rfl
theorem w_sub {to ti : TE} {ts : TSet} {R : L2.St → Hp → Prop} : gSub to ti ts v σ H R = to σ H fun o H1 => ti σ H1 fun i H2 => ts o i v H2 fun H3 => R σ H3 := rfl
theorem w_int1 {a : Int} : ((∃ i, [V.int a] = [V.int i] ∧ Q (.int i) H) ∨ ∃ k, [V.int a] = [V.bl k] ∧ Q (.int (if k = true then 1 else 0)) H) = Q (.int a) H := by
  refine propext ⟨fun h => ?_, fun h => Or.inl ⟨a, rfl, h⟩⟩
  rcases h with ⟨i, e, h⟩ | ⟨k, e, _⟩
  · cases e
    exact h
  · cases e
theorem w_chain : tChain r r' ta tb tc σ H Q = ta σ H fun x H1 => tb σ H1 fun y H2 => r x y H2 fun z H3 => ∃ k, z = .bl k ∧ if k = true then tc σ H3 fun w H4 => r' y w H4 Q else Q (.bl false) H3 := rfl
theorem w_exB {R : Bool → Prop} {b : Bool} : (∃ k, V.bl b = V.bl k ∧ R k) = R b := propext ⟨fun ⟨k, e, h⟩ => by cases e; exact h, fun h => ⟨b, rfl, h⟩⟩
theorem w_exV {R : V → Prop} {a : V} : (∃ v, some (some a) = some (some v) ∧ R v) = R a := propext ⟨fun ⟨k, e, h⟩ => by cases e; exact h, fun h => ⟨a, rfl, h⟩⟩
theorem w_start {N : List Str} {vs : List V} : L2.start N vs = vs.map some ++ List.replicate (N.length - vs.length) none := rfl
theorem w_par {j : Nat} {aa : TA} : tPar i j aa D σ H = aa σ H fun vs H1 => ∃ v w, vs = [v, w] ∧ D.nx ((σ.set i (some v)).set j (some w)) H1 := rfl
theorem w_par2 {R : V → V → Prop} : (∃ v w, [x, y] = [v, w] ∧ R v w) = R x y := propext ⟨fun ⟨v, w, e, h⟩ => by cases e; exact h, fun h => ⟨x, y, rfl, h⟩⟩
theorem wp1 : wipe σ [i] = σ.set i none := rfl
theorem wp2 {j : Nat} : wipe σ [i, j] = (σ.set j none).set i none := rfl
/-- an item of a tracked list -/
theorem w_ix {p : Addr} {xs : List V} {i : Int} {w : V} (h : H p = some (.lst xs)) (e : atI xs i = some w) (q : Q w H) : rIxL K (.ref p) (.int i) H Q := ⟨p, xs, i, w, rfl, rfl, .inl (.inl h), e, q⟩
end
end Mt
/-! rules whose readings are reckoned from the heap -/
namespace Mt
open PySem PySem.Spec PyProof.Rows L2
/-- the items of a list, a tuple, the script -/
def seqAt (H : Hp) (p : Addr) : Option (List V) :=
  match H p with
  | some (.lst xs) => some xs
  | some (.tup xs) => some xs
  | some (.frz _ (.lst xs)) => some xs
  | some (.frz _ (.tup xs)) => some xs
  | _ => none
theorem seqAt_l {H : Hp} {p : Addr} {xs : List V} (h : H p = some (.lst xs)) : seqAt H p = some xs := by
  unfold seqAt
  rw [h]
theorem seqAt_t {H : Hp} {p : Addr} {xs : List V} (h : H p = some (.tup xs)) : seqAt H p = some xs := by
  unfold seqAt
  rw [h]
theorem seqAt_f {H : Hp} {p : Addr} {o : Obj} {xs : List V} (h : H p = some (.frz o (.tup xs))) : seqAt H p = some xs := by
  unfold seqAt
  rw [h]
theorem seqAt_split {K : PySem.W.Frag} {H : Hp} {p : Addr} {xs : List V} (h : seqAt H p = some xs) : SqL K H p xs ∨ SqT K H p xs := by
  unfold seqAt at h
  split at h
  · rename_i ys e
    cases h
    exact Or.inl (Or.inl (Or.inl e))
  · rename_i ys e
    cases h
    exact Or.inr (Or.inl (Or.inl e))
  · rename_i o ys e
    cases h
    exact Or.inl (Or.inl (Or.inr ⟨o, e⟩))
  · rename_i o ys e
    cases h
    exact Or.inr (Or.inl (Or.inr ⟨o, e⟩))
  · cases h
theorem seqAt_same {H H' : Hp} {p : Addr} {xs : List V} (s : Same H H') (h : seqAt H p = some xs) : seqAt H' p = some xs := by
  unfold seqAt at h ⊢
  split at h
  · rename_i ys e
    rw [s _ _ e]
    exact h
  · rename_i ys e
    rw [s _ _ e]
    exact h
  · rename_i o ys e
    rw [s _ _ e]
    exact h
  · rename_i o ys e
    rw [s _ _ e]
    exact h
  · cases h
section
variable {X : Cx}
def rIxH : R2 := fun x y H Q => ∃ p i xs v, x = .ref p ∧ y = .int i ∧ seqAt H p = some xs ∧ atI xs i = some v ∧ Q v H
theorem ix_H : IxR X rIxH := by
  intro value slice pins s σ H x y v u Q I rx ry h hs
  obtain ⟨p, i, xs, z, rfl, rfl, e, ea, q⟩ := h
  refine ix_seq value slice pins s σ H _ _ v u Q I rx ry ?_ hs
  rcases seqAt_split (K := X.K) e with k | k
  · exact Or.inl ⟨p, xs, i, z, rfl, rfl, k, ea, q⟩
  · exact Or.inr (Or.inl ⟨p, xs, i, z, rfl, rfl, k, ea, q⟩)
def rLenH : List V → Hp → VK → Prop := fun vs H Q => ∃ p xs, vs = [.ref p] ∧ seqAt H p = some xs ∧ Q (.int xs.length) H
theorem call_lenH : CallR X (.builtin "len") rLenH := by
  intro pins s σ H xs us Q I r h
  obtain ⟨p, ys, rfl, e, q⟩ := h
  refine call_len_seq pins s σ H _ us Q I r ?_
  rcases seqAt_split (K := X.K) e with k | k
  · exact ⟨p, ys, rfl, Or.inl k, q⟩
  · exact ⟨p, ys, rfl, Or.inr k, q⟩
def rInt1 : List V → Hp → VK → Prop := fun xs H Q => (∃ i, xs = [.int i] ∧ Q (.int i) H) ∨ ∃ k, xs = [.bl k] ∧ Q (.int (if k = true then 1 else 0)) H
theorem call_intH : CallR X (.type "int") rInt1 := call_int1
def rIsTyH : R2 := fun x y H Q => ∃ m n, x = .ty m ∧ y = .ty n ∧ Q (.bl (decide (m = n))) H
theorem op_isTyH : OpR X (compareOp .Is) rIsTyH := op_isTy
theorem tyx_of {K : PySem.W.Frag} {x : V} {H : Hp} {n : String} (h : zTyV x H = some n) : TyX K H x (.type n) := by
  cases x with
  | non => cases h; exact .base .non
  | bl b => cases h; exact .base (.bl b)
  | int i => cases h; exact .base (.int i)
  | str z => cases h; exact .base (.str z)
  | byt b => cases h; exact .byt b
  | flt b => cases h; exact .base (.flt b)
  | ty m => cases h
  | ref p =>
    simp only [zTyV] at h
    split at h
    · rename_i ys e
      cases h
      exact .base (.lst e)
    · rename_i ys e
      cases h
      exact .base (.tup e)
    · cases h
/-- isinstance(x, T), T a built-in class -/
def rIsH : List V → Hp → VK → Prop := fun vs H Q => ∃ x n m b, vs = [x, .ty n] ∧ zTyV x H = some m ∧ kitB m n = some b ∧ Q (.bl b) H
theorem call_isH : CallR X (.builtin "isinstance") rIsH := by
  intro pins s σ H xs us Q I r h
  obtain ⟨x, n, m, b, rfl, hz, hk, q⟩ := h
  exact call_isi pins s σ H _ us Q I r ⟨x, .ty n, .type m, .type n, b, rfl, .ty n, tyx_of hz, kit_ty hk, q⟩
/-- isinstance(x, (S, T)) -/
def rIsTH : List V → Hp → VK → Prop := fun vs H Q => ∃ x tp n1 n2 m b c, vs = [x, .ref tp] ∧ H tp = some (.tup [.ty n1, .ty n2]) ∧ zTyV x H = some m ∧ kitB m n1 = some b ∧ kitB m n2 = some c ∧ Q (.bl (b || c)) H
theorem call_isTH : CallR X (.builtin "isinstance") rIsTH := by
  intro pins s σ H xs us Q I r h
  obtain ⟨x, tp, n1, n2, m, b, c, rfl, ht, hz, h1, h2, q⟩ := h
  refine call_isiT pins s σ H _ us Q I r ⟨x, tp, [.ty n1, .ty n2], .type m, [.type n1, .type n2], b || c, rfl, ht, .cons (.ty n1) (.cons (.ty n2) .nil), tyx_of hz, ?_, q⟩
  refine kitAny_cons (kit_ty h1) (fun e => ?_) (fun e => by rw [e]; rfl)
  refine kitAny_cons (kit_ty h2) (fun e2 => by rw [e, e2]; exact kitAny_nil) (fun e2 => by rw [e, e2]; rfl)
end
section
variable {H : Hp} {Q : VK} {x y : V}
theorem w_ixH {p : Addr} {i : Int} : rIxH (.ref p) (.int i) H Q = ∃ xs, seqAt H p = some xs ∧ ∃ v, atI xs i = some v ∧ Q v H := by
  refine propext ⟨fun ⟨p', i', xs, v, e1, e2, h1, h2, q⟩ => ?_, fun ⟨xs, h1, v, h2, q⟩ => ⟨p, i, xs, v, rfl, rfl, h1, h2, q⟩⟩
  cases e1
  cases e2
  exact ⟨xs, h1, v, h2, q⟩
theorem w_lenH {p : Addr} : rLenH [.ref p] H Q = ∃ xs, seqAt H p = some xs ∧ Q (.int xs.length) H := by
  refine propext ⟨fun ⟨p', xs, e1, h1, q⟩ => ?_, fun ⟨xs, h1, q⟩ => ⟨p, xs, rfl, h1, q⟩⟩
  cases e1
  exact ⟨xs, h1, q⟩
theorem w_intI {a : Int} : rInt1 [.int a] H Q = Q (.int a) H := by
  refine propext ⟨fun h => ?_, fun h => Or.inl ⟨a, rfl, h⟩⟩
  rcases h with ⟨i, e, h⟩ | ⟨k, e, _⟩
  · cases e
    exact h
  · cases e
theorem w_intB {b : Bool} : rInt1 [.bl b] H Q = Q (.int (if b = true then 1 else 0)) H := by
  refine propext ⟨fun h => ?_, fun h => Or.inr ⟨b, rfl, h⟩⟩
  rcases h with ⟨i, e, h⟩ | ⟨k, e, h⟩
  · cases e
  · cases e
    exact h
theorem w_isTyH {m n : String} : rIsTyH (.ty m) (.ty n) H Q = Q (.bl (decide (m = n))) H := by
  refine propext ⟨fun ⟨a, b, e1, e2, q⟩ => ?_, fun q => ⟨m, n, rfl, rfl, q⟩⟩
  cases e1
  cases e2
  exact q
theorem w_typ : r1 kTyp [x] H Q = ∃ n, zTyV x H = some n ∧ Q (.ty n) H := rfl
theorem w_isH {n : String} : rIsH [x, .ty n] H Q = ∃ m, zTyV x H = some m ∧ ∃ b, kitB m n = some b ∧ Q (.bl b) H := by
  refine propext ⟨fun ⟨a, n', m, b, e1, h1, h2, q⟩ => ?_, fun ⟨m, h1, b, h2, q⟩ => ⟨x, n, m, b, rfl, h1, h2, q⟩⟩
  cases e1
  exact ⟨m, h1, b, h2, q⟩
theorem w_isTH {tp : Addr} {n1 n2 : String} (ht : H tp = some (.tup [.ty n1, .ty n2])) : rIsTH [x, .ref tp] H Q = ∃ m, zTyV x H = some m ∧ ∃ b, kitB m n1 = some b ∧ ∃ c, kitB m n2 = some c ∧ Q (.bl (b || c)) H := by
  refine propext ⟨fun ⟨a, t', k1, k2, m, b, c, e1, ht', h1, h2, h3, q⟩ => ?_, fun ⟨m, h1, b, h2, c, h3, q⟩ => ⟨x, tp, n1, n2, m, b, c, rfl, ht, h1, h2, h3, q⟩⟩
  cases e1
  have e : some (HO.tup [V.ty n1, V.ty n2]) = some (HO.tup [V.ty k1, V.ty k2]) := ht.symm.trans ht'
  injection e with e
  injection e with e
  injection e with e e'
  injection e with e
  injection e' with e' _
  injection e' with e'
  subst e e'
  exact ⟨m, h1, b, h2, c, h3, q⟩
theorem w_setL {p : Addr} {xs : List V} {k : Int} {j : Nat} {v : V} {R : Hp → Prop} (h : H p = some (.lst xs)) (e : ixN xs.length k = some j) (q : R (upd H p (.lst (xs.set j v)))) : rSetL (.ref p) (.int k) v H R := ⟨p, xs, k, j, rfl, rfl, h, e, q⟩
theorem w_abs {a : Int} {R : VK} : (∃ i, [V.int a] = [V.int i] ∧ R (.int i) H) = R (.int a) H := by
  refine propext ⟨fun ⟨i, e, q⟩ => ?_, fun q => ⟨a, rfl, q⟩⟩
  cases e
  exact q
end
-- which class a kind is
theorem k_ii : kitB "int" "int" = some true := by decide +kernel
theorem k_ib : kitB "int" "bool" = some false := by decide +kernel
theorem k_is : kitB "int" "str" = some false := by decide +kernel
theorem k_il : kitB "int" "list" = some false := by decide +kernel
theorem k_it : kitB "int" "tuple" = some false := by decide +kernel
theorem k_bi : kitB "bool" "int" = some true := by decide +kernel
theorem k_bb : kitB "bool" "bool" = some true := by decide +kernel
theorem k_bs : kitB "bool" "str" = some false := by decide +kernel
theorem k_bl : kitB "bool" "list" = some false := by decide +kernel
theorem k_bt : kitB "bool" "tuple" = some false := by decide +kernel
theorem k_ni : kitB "NoneType" "int" = some false := by decide +kernel
theorem k_nb : kitB "NoneType" "bool" = some false := by decide +kernel
theorem k_ns : kitB "NoneType" "str" = some false := by decide +kernel
theorem k_nl : kitB "NoneType" "list" = some false := by decide +kernel
theorem k_nt : kitB "NoneType" "tuple" = some false := by decide +kernel
theorem k_si : kitB "str" "int" = some false := by decide +kernel
theorem k_sb : kitB "str" "bool" = some false := by decide +kernel
theorem k_ss : kitB "str" "str" = some true := by decide +kernel
theorem k_sl : kitB "str" "list" = some false := by decide +kernel
theorem k_st : kitB "str" "tuple" = some false := by decide +kernel
theorem k_li : kitB "list" "int" = some false := by decide +kernel
theorem k_lb : kitB "list" "bool" = some false := by decide +kernel
theorem k_ls : kitB "list" "str" = some false := by decide +kernel
theorem k_ll : kitB "list" "list" = some true := by decide +kernel
theorem k_lt : kitB "list" "tuple" = some false := by decide +kernel
theorem k_ti : kitB "tuple" "int" = some false := by decide +kernel
theorem k_tb : kitB "tuple" "bool" = some false := by decide +kernel
theorem k_ts : kitB "tuple" "str" = some false := by decide +kernel
theorem k_tl : kitB "tuple" "list" = some false := by decide +kernel
theorem k_tt : kitB "tuple" "tuple" = some true := by decide +kernel
end Mt
namespace Mt
open PySem PySem.Spec PyProof.Rows L2
section
variable {X : Cx} {H : Hp} {Q : VK} {x y : V}
def rAbsH : List V → Hp → VK → Prop := fun xs H Q => ∃ i, xs = [.int i] ∧ Q (.int (if i < 0 then -i else i)) H
theorem call_absH : CallR X (.builtin "abs") rAbsH := call_abs
theorem w_absH {a : Int} : rAbsH [.int a] H Q = Q (.int (if a < 0 then -a else a)) H := by
  refine propext ⟨fun ⟨i, e, q⟩ => ?_, fun q => ⟨a, rfl, q⟩⟩
  cases e
  exact q
/-- list(x) of a list, a tuple, the script -/
def rListH : List V → Hp → VK → Prop := fun vs H Q => ∃ p xs, vs = [.ref p] ∧ seqAt H p = some xs ∧ ∀ l, H l = none → Q (.ref l) (upd H l (.lst xs))
theorem call_listH : CallR X (.type "list") rListH := by
  intro pins s σ H xs us Q I r h
  obtain ⟨p, ys, rfl, e, q⟩ := h
  exact call_list_of pins s σ H _ us Q I r ⟨p, ys, rfl, seqAt_split e, q⟩
theorem w_listH {p : Addr} : rListH [.ref p] H Q = ∃ xs, seqAt H p = some xs ∧ ∀ l, H l = none → Q (.ref l) (upd H l (.lst xs)) := by
  refine propext ⟨fun ⟨p', xs, e1, h1, q⟩ => ?_, fun ⟨xs, h1, q⟩ => ⟨p, xs, rfl, h1, q⟩⟩
  cases e1
  exact ⟨xs, h1, q⟩
theorem w_tsl {r : V → Option Int → Option Int → Hp → VK → Prop} {te : TE} {tl th : TO} {σ : L2.St} : tSl r te tl th σ H Q = te σ H fun x H1 => tl σ H1 fun l H2 => th σ H2 fun u H3 => r x l u H3 Q := rfl
theorem w_nopart {σ : L2.St} {R : Option Int → Hp → Prop} : tNoPart σ H R = R none H := rfl
theorem w_part {te : TE} {σ : L2.St} {R : Option Int → Hp → Prop} : tPart te σ H R = te σ H fun x H1 => ∃ i, x = .int i ∧ R (some i) H1 := rfl
theorem w_exI {a : Int} {R : Int → Prop} : (∃ i, V.int a = V.int i ∧ R i) = R a := propext ⟨fun ⟨i, e, h⟩ => by cases e; exact h, fun h => ⟨a, rfl, h⟩⟩
theorem atI_neg1 {α : Type} {xs : List α} {i : Nat} {v : α} (h : xs.length = i + 1) (e : xs[i]? = some v) : atI xs (-1) = some v := by
  have e2 : ixN xs.length (-1) = some i := by
    unfold ixN
    rw [h, if_neg (by decide), if_pos (by omega)]
    congr 1
    omega
  unfold atI
  rw [e2]
  exact e
def rStrH : List V → Hp → VK → Prop := fun xs H Q => ∃ i, xs = [.int i] ∧ i.natAbs.log2 < 1920 ∧ Q (.str (toString i)) H
theorem call_strH : CallR X (.type "str") rStrH := call_str_int
theorem w_strH {a : Int} : rStrH [.int a] H Q = (a.natAbs.log2 < 1920 ∧ Q (.str (toString a)) H) := by
  refine propext ⟨fun ⟨i, e, q⟩ => ?_, fun q => ⟨a, rfl, q⟩⟩
  cases e
  exact q
/-- a slice of a list -/
def rSlH : V → Option Int → Option Int → Hp → VK → Prop := fun x lo hi H Q => ∃ p xs, x = .ref p ∧ (H p = some (.lst xs) ∨ ∃ o, H p = some (.frz o (.lst xs))) ∧ ∀ q, H q = none → Q (.ref q) (upd H q (.lst (cutV xs lo hi)))
theorem sl_H : SlR X rSlH := by
  intro pins s σ H x v vl vu lo hi sl Q I rx hs pl pu h
  obtain ⟨p, xs, rfl, k, q⟩ := h
  exact sl_list pins s σ H _ v vl vu lo hi sl Q I rx hs pl pu ⟨p, xs, rfl, Or.inl k, q⟩
theorem w_slH {p : Addr} {lo hi : Option Int} {xs : List V} (h : H p = some (.lst xs)) : rSlH (.ref p) lo hi H Q = ∀ q, H q = none → Q (.ref q) (upd H q (.lst (cutV xs lo hi))) := by
  refine propext ⟨fun ⟨p', ys, e1, h1, q⟩ => ?_, fun q => ⟨p, xs, rfl, Or.inl h, q⟩⟩
  cases e1
  rcases h1 with h1 | ⟨o, h1⟩
  · rw [h] at h1
    cases h1
    exact q
  · rw [h] at h1
    cases h1
theorem w_cat {l b : Addr} {xs zs : List V} (h1 : H l = some (.lst xs)) (h2 : H b = some (.lst zs)) : rCat (.ref l) (.ref b) H Q = (xs.length + zs.length ≤ sizeLine ∧ ∀ p, H p = none → Q (.ref p) (upd H p (.lst (xs ++ zs)))) := by
  refine propext ⟨fun ⟨l', b', xs', zs', e1, e2, g1, g2, q⟩ => ?_, fun q => ⟨l, b, xs, zs, rfl, rfl, h1, h2, q⟩⟩
  cases e1
  cases e2
  rw [h1] at g1
  rw [h2] at g2
  cases g1
  cases g2
  exact q
theorem w_bm {T : String} {K : PySem.W.Frag} {r : V → List V → Hp → VK → Prop} {to : TE} {t : TA} {σ : L2.St} : tBM K T r to t σ H Q = to σ H fun x H1 => tyV K T x H1 ∧ t σ H1 fun xs H2 => r x xs H2 Q := rfl
theorem w_append {l : Addr} {xs : List V} {y : V} (h : H l = some (.lst xs)) : rAppend (.ref l) [y] H Q = (xs.length < sizeLine ∧ Q .non (upd H l (.lst (xs ++ [y])))) := by
  refine propext ⟨fun ⟨l', xs', y', e1, e2, g, q⟩ => ?_, fun q => ⟨l, xs, y, rfl, rfl, h, q⟩⟩
  cases e1
  cases e2
  rw [h] at g
  cases g
  exact q
theorem w_tyL {l : Addr} {xs : List V} {K : PySem.W.Frag} (h : H l = some (.lst xs)) : tyV K "list" (.ref l) H = True := propext ⟨fun _ => trivial, fun _ => Or.inl ⟨rfl, _, Or.inl (Or.inl h)⟩⟩
end
theorem w_scII {a b : Int} : scal (.int a) (.int b) = true := rfl
theorem w_scBB {a b : Bool} : scal (.bl a) (.bl b) = true := rfl
theorem w_scSS {a b : Str} : scal (.str a) (.str b) = true := rfl
theorem w_scNN : scal .non .non = true := rfl
theorem w_zi {a : Int} {H : Hp} : zTyV (.int a) H = some "int" := rfl
theorem w_zb {a : Bool} {H : Hp} : zTyV (.bl a) H = some "bool" := rfl
theorem w_zs {a : Str} {H : Hp} : zTyV (.str a) H = some "str" := rfl
theorem w_zn {H : Hp} : zTyV .non H = some "NoneType" := rfl
theorem w_zl {p : Addr} {xs : List V} {H : Hp} (h : H p = some (.lst xs)) : zTyV (.ref p) H = some "list" := by
  simp only [zTyV, h]
theorem w_zt {p : Addr} {xs : List V} {H : Hp} (h : H p = some (.tup xs)) : zTyV (.ref p) H = some "tuple" := by
  simp only [zTyV, h]
/-- an item of a list of ints -/
theorem ints_at {ns : List Int} {i : Nat} {y : V} (h : (ns.map V.int)[i]? = some y) : ∃ z, ns[i]? = some z ∧ y = .int z := by
  rw [List.getElem?_map] at h
  cases e : ns[i]? with
  | none =>
    rw [e] at h
    cases h
  | some z =>
    rw [e] at h
    exact ⟨z, rfl, (Option.some.inj h).symm⟩
/-! ### a remainder -/
theorem fmod_pos {a m : Int} (h : 0 < m) : 0 ≤ a.fmod m ∧ a.fmod m < m := by
  rw [Int.fmod_eq_emod_of_nonneg _ (Int.le_of_lt h)]
  exact ⟨Int.emod_nonneg _ (by omega), Int.emod_lt_of_pos _ h⟩
theorem fdiv_pos {a m : Int} (h : 0 ≤ a) (hm : 0 < m) : 0 ≤ a.fdiv m ∧ a.fdiv m ≤ a := by
  rw [Int.fdiv_eq_ediv_of_nonneg _ (Int.le_of_lt hm)]
  exact ⟨Int.ediv_nonneg h (Int.le_of_lt hm), Int.ediv_le_self _ h⟩
theorem cmul_l {a c : Int} (h0 : 0 ≤ a) (h1 : a < 18446744073709551616) : CMul a c := Or.inl ⟨by omega, by omega⟩
theorem cmul_r {a c : Int} (h0 : 0 ≤ c) (h1 : c < 18446744073709551616) : CMul a c := Or.inr ⟨by omega, by omega⟩
/-! ### heaps -/
theorem upd_comm {H : Hp} {a b : Addr} {o u : HO} (h : a ≠ b) : upd (upd H a o) b u = upd (upd H b u) a o := by
  funext c
  unfold upd
  by_cases h1 : c = a
  · by_cases h2 : c = b
    · exact absurd (h1.symm.trans h2) h
    · rw [if_neg h2, if_pos h1, if_pos h1]
  · by_cases h2 : c = b
    · rw [if_pos h2, if_neg h1, if_pos h2]
    · rw [if_neg h2, if_neg h1, if_neg h1, if_neg h2]
theorem same_new {H : Hp} {p : Addr} {o : HO} (h : H p = none) : Same H (upd H p o) := fun b x e => by
  rw [upd_ne (ne_of_none e h)]
  exact e
theorem same_mut {H H' : Hp} {p : Addr} {o : HO} (s : Same H H') (h : H p = none) : Same H (upd H' p o) := fun b x e => by
  rw [upd_ne (ne_of_none e h)]
  exact s b x e
/-! ### the store -/
theorem atI_s0 (t : Sto) : atI (stV t) 0 = some (.ref t.l) := rfl
theorem atI_s1 (t : Sto) : atI (stV t) 1 = some (.int t.i) := rfl
theorem atI_s2 (t : Sto) : atI (stV t) 2 = some (.int t.c) := rfl
theorem atI_s3 (t : Sto) : atI (stV t) 3 = some (.int t.g) := rfl
theorem atI_s4 (t : Sto) : atI (stV t) 4 = some (.int t.seed) := rfl
theorem atI_s5 (t : Sto) : atI (stV t) 5 = some (.int t.j) := rfl
theorem wr_s {G : Hp} {s : Addr} {t : Sto} : Wr G s t s = some (.lst (stV t)) := upd_same
theorem wr_l {G : Hp} {s : Addr} {t : Sto} (ok : StOk G t) (hs : G s = none) : Wr G s t t.l = some (.lst (t.ns.map V.int)) := by
  unfold Wr
  rw [upd_ne (ne_of_none ok.at_ hs)]
  exact ok.at_
theorem wr_set {G : Hp} {s : Addr} {t t' : Sto} {v : V} {j : Nat} (h : (stV t).set j v = stV t') : upd (Wr G s t) s (.lst ((stV t).set j v)) = Wr G s t' := by
  unfold Wr
  rw [upd_upd, h]
theorem w_setE {H : Hp} {p : Addr} {xs : List V} {k : Int} {j : Nat} {v : V} {R : Hp → Prop} (h : H p = some (.lst xs)) (e : ixN xs.length k = some j) : rSetL (.ref p) (.int k) v H R = R (upd H p (.lst (xs.set j v))) := by
  refine propext ⟨fun ⟨p', xs', k', j', e1, e2, g, ge, q⟩ => ?_, fun q => ⟨p, xs, k, j, rfl, rfl, h, e, q⟩⟩
  cases e1
  cases e2
  rw [h] at g
  cases g
  rw [e] at ge
  cases ge
  exact q
theorem w_st1 {G : Hp} {s : Addr} {t : Sto} {a : Int} {R : Hp → Prop} : rSetL (.ref s) (.int 1) (.int a) (Wr G s t) R = R (Wr G s { t with i := a }) := by rw [w_setE wr_s (j := 1) rfl, wr_set (t' := { t with i := a }) rfl]
theorem w_st2 {G : Hp} {s : Addr} {t : Sto} {a : Int} {R : Hp → Prop} : rSetL (.ref s) (.int 2) (.int a) (Wr G s t) R = R (Wr G s { t with c := a }) := by rw [w_setE wr_s (j := 2) rfl, wr_set (t' := { t with c := a }) rfl]
theorem w_st3 {G : Hp} {s : Addr} {t : Sto} {a : Int} {R : Hp → Prop} : rSetL (.ref s) (.int 3) (.int a) (Wr G s t) R = R (Wr G s { t with g := a }) := by rw [w_setE wr_s (j := 3) rfl, wr_set (t' := { t with g := a }) rfl]
theorem w_st5 {G : Hp} {s : Addr} {t : Sto} {a : Int} {R : Hp → Prop} : rSetL (.ref s) (.int 5) (.int a) (Wr G s t) R = R (Wr G s { t with j := a }) := by rw [w_setE wr_s (j := 5) rfl, wr_set (t' := { t with j := a }) rfl]
end Mt
/-! ### errors: raised, let through, caught, and looked at by a def that the suite calls -/
namespace Mt
open PySem PySem.Spec PyProof.Rows L2 L2H
abbrev CN (P : Program) (w : World) : CXT := L2N.CX P w
section
variable {P : Program} {w : World} {K : PySem.W.Frag} {mg : Str → Option Value} {base : Heap}
/-- a def that errors may leave -/
theorem okN {x qual : Str} {st : Stmt} {f : Addr} {fd : FuncData} {N ps : List Str} {k : Nat} {sp : Sp} (F : Fun K x qual st f fd) (S : FnScope N ps (defScope st)) (len : ∀ vs H Q E, sp vs H Q E → vs.length = ps.length)
    (body : ∀ (cdv : Value) (A : Around) (outer : List Env) (s : Shared) (H : Hp) (vs : List V) (Q : VK) (E : XK), Room k (A.deeper (envOfC qual (defScope st) s.heap.objs.size f cdv)) → sp vs H Q E →
      ∃ t, PSs (cxOf (CN P w) P w K mg base N qual (defScope st) f cdv A outer s H E) (defBody st) t ∧ t { nx := fun _ H' => Q .non H', rt := Q } (L2.start N vs) H) : FnOk P w K mg base (CN P w) (k + 1) f fd ps sp := by
  obtain ⟨oc, od, kv, doc, pm, an, cdv, ct, osl, e, lk, hc⟩ := F.ex
  subst e
  exact fn_of lk hc S len fun A outer s H vs Q E hr hs => body cdv A outer s H vs Q E hr hs
/-- a def that may raise -/
structure CalX (P : Program) (w : World) (K : PySem.W.Frag) (mg : Str → Option Value) (base : Heap) (x : Str) (k : Nat) (ps : List Str) (sp : Sp) : Prop where
  ex : ∃ f fd, FnOk P w K mg base (CN P w) k f fd ps sp ∧ mg x = some (.ref f) ∧ PySem.W.keepIn K (.ref f) = true ∧ Binds K fd ps []
theorem p_callX {X : Cx} {W : WX} {x : Str} {j k : Nat} {ps : List Str} {sp : Sp} {e : Expr} {es : List Expr} {t : TA} {p pos : Pos} (C : CalX X.prog X.w X.K X.mg X.base x j ps sp) (hr : Room k X.A) (tk : L2N.Takes X W) (ha : PA X (e :: es) t) (hj : j ≤ k := by decide) (hg : Gl X x := by rfl)
    (hdb : (x == ("__debug__" : Str)) = false := by decide) (he : starEach (e :: es) X.env = (false, eval e X.env) :: starEach es X.env := by rfl) (hpl : (backTo pos (starEach es X.env)).any (·.1) = false := by rfl) :
    PE X (.Call (.Name x p) (e :: es) [] pos) (tCallS sp (WE W) t) := by
  obtain ⟨f, fd, F, gm, kp, b⟩ := C.ex
  exact pe_callS F (hr.mono hj) hg gm kp b (fun σ => L2N.passAt tk σ) ha hdb he hpl
theorem w_callS {sp : Sp} {E : L2.St → XK} {t : TA} {σ : L2.St} {H : Hp} {Q : VK} : tCallS sp E t σ H Q = t σ H fun vs H1 => sp vs H1 Q (E σ) := rfl
/-! C(e, ..) of an own class with its own __init__ -/
theorem pmkN {X : Cx} {x : Str} {e : Expr} {es : List Expr} {ta : TA} {p pos : Pos} {C fI : Addr} {k : Nat} {fd : FuncData} {ps : List Str} {sp : Sp} (T : OexC X.K C) (iC : PySem.W.findIn X.K (.ref C) "__init__" = some (some (.ref fI))) (tI : PySem.W.typeIn X.K (.ref fI) = some (.type "function"))
    (F1 : FnOk X.prog X.w X.K X.mg X.base CX0 k fI fd ps sp) (hr : Room (k + 1) X.A) (hb : Binds X.K fd ps []) (hm : X.mg x = some (.ref C)) (ha : PA X (e :: es) ta) (hg : Gl X x := by rfl)
    (hdb : (x == ("__debug__" : Str)) = false := by decide) (he : starEach (e :: es) X.env = (false, eval e X.env) :: starEach es X.env := by rfl) (hpl : (backTo pos (starEach es X.env)).any (·.1) = false := by rfl) :
    L2N.PMk X (.Call (.Name x p) (e :: es) [] pos) (tMkO C sp [] ta) := by
  intro pins s σ H Q I h
  obtain ⟨nm, q, NN, bs, bm, sn, sub, ab, col, dd, k0, k1, k2, k3, k5, hC, hbm⟩ := T.cls
  refine wpAny_Call_Name_kw (ld_glob I hg hm (PySem.W.callWith_K (h₀ := X.base) I.ok.mod.kin T.kC (thn (ha.run pos pins s σ H _ I h) fun us s1 ⟨vs, H1, I1, r1, hz, q1⟩ => ⟨I1.kIn, ?_⟩) he hpl) hdb)
  obtain ⟨hp, g, dr, tk, os⟩ := s1
  show wpAny _ _ (call (.ref C) us) _ _ _
  have up : hp.objs.size ≤ hp.objs.size + 1 := by omega
  have hq := q1 _ (I1.hok.fresh up)
  rw [List.append_nil] at hq
  generalize hh : (hp.push (PySem.W.kdv_tup us)).push (PySem.HandSPX.excO C hp.objs.size) = hx
  have kk : ∀ b o, hp.get? b = some o → hx.get? b = some o := fun b o z => by
    rw [← hh]
    exact Heap.get?_push_of_some _ (Heap.get?_push_of_some _ z)
  have hat : hx.get? (hp.objs.size + 1) = some (PySem.HandSPX.excO C hp.objs.size) := by
    rw [← hh]
    heap_get
  have I2 : Inv X pins σ (upd H1 (hp.objs.size + 1) (exo (hp.objs.size + 1) C none)) ⟨hx, g, dr, tk, os⟩ := I1.laid (t' := tk) (o := exo (hp.objs.size + 1) C none) kk up (exo_ok hat)
  have r2 : Vals (V.ref (hp.objs.size + 1) :: vs) (Value.ref (hp.objs.size + 1) :: us) := .cons rfl r1
  have n2 : (Value.ref (hp.objs.size + 1) :: us).length = ps.length := by
    rw [← r2.length]
    exact F1.len _ _ _ _ hq
  have b2 := hb ⟨hx, g, dr, tk, os⟩ (Value.ref (hp.objs.size + 1) :: us) I2.kIn (by rw [List.append_nil]; exact n2)
  rw [List.append_nil] at b2
  have zus : us.length ≤ sizeLine := by
    have e1 := Paired.length r1
    rw [sizeLine_eq]
    omega
  have run := F1.run (X.A.under (.builtin "type.__call__" ⟨.ref C :: us, []⟩)) X.stack ⟨hx, g, dr, tk, os⟩ _ ⟨Value.ref (hp.objs.size + 1) :: us, []⟩ _ _ _ (fun _ _ _ => False) (hr.make C us []) (I2.env0.make C us []) b2 r2 hq
  rw [← hh] at run
  refine wpAny_call (PySem.HandSPX.call_own F.excBase_ValueError (fun Y => PySem.HandSPX.refsVE_contains Y bm hbm) (I1.kIn _ _ hC) (PySem.W.looks_findIn I1.kIn iC) (fun self => PySem.W.bind_fn I1.kIn self tI) zus (codeAny_mono run fun r s' hr' => ?_))
  rw [hh] at hr'
  cases r with
  | error er => exact False.elim hr'
  | ok fl =>
    cases fl with
    | ret u =>
      obtain ⟨v, H2, os2, bare2, un2, hok2, rv, ev, d, fs, ea, ed, hd1, q2⟩ := hr'
      subst ev
      obtain ⟨h2, g2, d2, t2, os'⟩ := s'
      obtain ⟨t0, G, J, kG, ge, hoe, na⟩ := mk_end0 (d2 := d2) (t2 := t2) I1 up kk un2 hok2 os2 bare2 ea ed hd1
      exact ⟨rv, _, _, _, ⟨G, g2, d2, t2, os'⟩, _, .ref C, some d, rfl, J, kG, ge, hoe, ⟨rfl, rfl, fun ws z => by cases z; rfl⟩, rfl, rfl, na, rfl, bare2, raises_own T.exC T.tyC, q2⟩
    | _ => exact False.elim hr'
end
end Mt
/-! ### a def that the suite calls with the caught error at p -/
namespace Mt
open PySem PySem.Spec PyProof.Rows L2 L2H
/-- what stands at p: an error of the class at C, its dict at d -/
structure ErrAt (p : Addr × Obj) (C d : Addr) : Prop where
  zn : L2N.Zn (.ref C) (some d) p.2
  fl : ∃ vs, p.2.data = .fields vs
theorem ErrAt.inst {p : Addr × Obj} {C d : Addr} (z : ErrAt p C d) {h : Heap} {od : Obj} (hg : h.get? p.1 = some p.2) (hd : h.get? d = some od) : PySem.W.InstAt h p.1 p.2 C (some od) := by
  obtain ⟨vs, hv⟩ := z.fl
  obtain ⟨p1, ob⟩ := p
  obtain ⟨oc, odd, da, sl⟩ := ob
  obtain ⟨z1, z2, _⟩ := z.zn
  dsimp only at z1 z2 hv hg
  subst z1 z2 hv
  exact ⟨hg, rfl, rfl, hd⟩
structure FnE (P : Program) (w : World) (K : PySem.W.Frag) (mg : Str → Option Value) (base : Heap) (k : Nat) (f : Addr) (fd : FuncData) (ps : List Str) (sp : Addr × Obj → Sp) : Prop where
  len : ∀ p vs H Q E, sp p vs H Q E → vs.length = ps.length
  run : ∀ (p : Addr × Obj) (A : Around) (outer : List Env) (s : Shared) (H : Hp) (args : Args) (us : List Value) (vs : List V) (Q : VK) (E : XK), RoomH k A → Hot1 A p → PinOk outer H s p → Env0 P w K mg base A outer s H → BindsTo s fd args (ps.zip us) → Vals vs us → sp p vs H Q E →
    codeAny (model P w) A (.call (.ref f) args) (CR CX0 outer P w H s Q E) s
section
variable {P : Program} {w : World} {K : PySem.W.Frag} {mg : Str → Option Value} {base : Heap}
theorem okE {x qual : Str} {st : Stmt} {f : Addr} {fd : FuncData} {N ps : List Str} {k : Nat} {sp : Addr × Obj → Sp} (F : Fun K x qual st f fd) (S : FnScope N ps (defScope st)) (len : ∀ p vs H Q E, sp p vs H Q E → vs.length = ps.length)
    (body : ∀ (p : Addr × Obj) (cdv : Value) (A : Around) (outer : List Env) (s : Shared) (H : Hp) (vs : List V) (Q : VK) (E : XK), Hot1 A p → RoomH k (A.deeper (envOfC qual (defScope st) s.heap.objs.size f cdv)) → sp p vs H Q E →
      ∃ t, PSs (cxH CX0 P w K mg base N qual (defScope st) f cdv A outer s H E p) (defBody st) t ∧ t { nx := fun _ H' => Q .non H', rt := Q } (L2.start N vs) H) : FnE P w K mg base (k + 1) f fd ps sp := by
  obtain ⟨oc, od, kv, doc, pm, an, cdv, ct, osl, e, lk, hcd⟩ := F.ex
  subst e
  refine ⟨len, fun p A outer s H args us vs Q E hr hot hpin e0 hb r hsp => ?_⟩
  have hl := len _ _ _ _ _ hsp
  have KX : K.In s.heap := e0.mod.kin.keeps fun b o z => (e0.bs b o z).1
  have kinds : ∀ y ∈ ps.zip us, (defScope st).names.lookup y.1 = some .local ∨ ((defScope st).names.lookup y.1 = some .cell ∧ ((cellsFrom (s.heap.objs.size + 1) (defScope st).names []).lookup y.1).isSome = true) := by
    rintro ⟨n, v⟩ hy
    cases S.par n (List.of_mem_zip hy).1 with
    | inl q => exact Or.inl q
    | inr q => exact Or.inr ⟨q, PySem.W.cellsFrom_some _ _ _ (Or.inl q)⟩
  refine codeAny_call_function hr.depth (KX _ _ lk) rfl S.co S.gen rfl (PySem.W.codeRec_of KX hcd) (hb _ _ _ _ (wpAny_newFunctionEnv_cells S.kind kinds fun env he s1 x => ?_))
  subst he
  refine ⟨(e0.mod.nolimit.keeps fun b o z => (e0.bs b o z).1).keeps x.toInCall.keep, codeAny_func ?_⟩
  obtain ⟨t, ht, hq⟩ := body p cdv A outer s H vs Q E hot (hr.deeper _) hsp
  have I := inv_startH (CX := CX0) (cd := cdv) (f := f) (E := E) S hpin e0 hl r x
  refine wpAny_mono (ht.run [] s1 _ H _ I hq) (fun fl s' hs => ?_) fun _ _ z => z
  cases fl with
  | ret u =>
    obtain ⟨v, σ', H', J, rv, q⟩ := hs
    exact ⟨v, H', J.os, J.bare, J.base, J.hok, rv, q⟩
  | next =>
    obtain ⟨σ', H', J, q⟩ := hs
    exact ⟨V.non, H', J.os, J.bare, J.base, J.hok, rfl, q⟩
  | brk =>
    obtain ⟨_, _, _, q⟩ := hs
    exact q.elim
  | cont =>
    obtain ⟨_, _, _, q⟩ := hs
    exact q.elim
structure CalE (P : Program) (w : World) (K : PySem.W.Frag) (mg : Str → Option Value) (base : Heap) (x : Str) (k : Nat) (ps : List Str) (sp : Addr × Obj → Sp) : Prop where
  ex : ∃ f fd, FnE P w K mg base k f fd ps sp ∧ mg x = some (.ref f) ∧ PySem.W.keepIn K (.ref f) = true ∧ Binds K fd ps []
/-- its call, in a context that bears p -/
theorem p_callE {X : Cx} {p : Addr × Obj} {x : Str} {j k : Nat} {ps : List Str} {sp : Addr × Obj → Sp} {e : Expr} {es : List Expr} {t : TA} {q pos : Pos} (C : CalE X.prog X.w X.K X.mg X.base x j ps sp) (hr : RoomH k X.A) (hot : Hot1 X.A p) (hp : p ∈ X.pn) (ha : PA X (e :: es) t) (hj : j ≤ k := by decide) (hg : Gl X x := by rfl)
    (hdb : (x == ("__debug__" : Str)) = false := by decide) (he : starEach (e :: es) X.env = (false, eval e X.env) :: starEach es X.env := by rfl) (hpl : (backTo pos (starEach es X.env)).any (·.1) = false := by rfl) :
    PE X (.Call (.Name x q) (e :: es) [] pos) (tCall (sp p) [] E0 t) := by
  obtain ⟨f, fd, F, gm, kp, b⟩ := C.ex
  refine ⟨fun pins s σ H Q I h => ?_⟩
  refine wpAny_Call_Name_kw (ld_glob I hg gm (PySem.W.callWith_K (h₀ := X.base) I.ok.mod.kin kp (thn (ha.run pos pins s σ H _ I h) fun us s1 ⟨vs, H1, I1, r, hq⟩ => ⟨I1.kIn, ?_⟩) he hpl) hdb)
  have hq : sp p (vs ++ []) H1 Q E0 := hq
  rw [List.append_nil] at hq
  have hl : us.length = ps.length := by
    rw [← r.length]
    exact F.len _ _ _ _ _ hq
  have b1 := b s1 us I1.kIn (by rw [List.append_nil]; exact hl)
  rw [List.append_nil] at b1
  have P1 := I1.pin p (List.mem_append_left _ hp)
  have pin : PinOk X.stack H1 s1 p := ⟨P1.1, P1.2.1, fun hm => (List.mem_cons.mp (I1.stkSub p.1 hm)).elim P1.2.2.1 P1.2.2.2.1, P1.2.2.2.2⟩
  refine wpAny_call (codeAny_mono (F.run p X.A X.stack s1 H1 ⟨us, []⟩ us vs Q E0 (hr.mono hj) hot pin I1.env0 b1 r hq) fun r' s' hr' => ?_)
  cases r' with
  | error e => exact False.elim hr'
  | ok fl =>
    cases fl with
    | ret u => exact I1.after hr'
    | _ => exact False.elim hr'
end
/-! ### looks at the error -/
/-- what an own error class says -/
structure XcC (K : PySem.W.Frag) (C : Addr) : Prop where
  ic : (PySem.W.clsIn K C).isSome = true
  ga : PySem.W.findIn K (.ref C) "__getattribute__" = some (some (.builtin "BaseException.__getattribute__"))
  gg : PySem.W.findIn K (.ref C) "__getattr__" = some none
  exC : PySem.W.subIn K (.ref C) (.type "BaseException") = some true
  hd : PySem.W.hasDictIn K C = true
  ca : PySem.W.findIn K (.ref C) "__class__" = some (some (.builtin "object.__class__"))
  cn : PySem.W.specialIn K (.builtin "object.__class__") "__get__" = some (some (.builtin "getset_descriptor.__get__"))
  ct : PySem.W.takesIn K (.builtin "object.__class__") = some true
  cm : PySem.W.mroIn K C (.type "object") = some true
/-- isinstance(error, c) -/
def rIsE (K : PySem.W.Frag) (C d a : Addr) : List V → Hp → VK → Prop := fun xs H Q => ∃ (c : V) (cv : Value) (b : Bool) (fs : List (Str × V)), xs = [.ref a, c] ∧ (∀ u, RelV c u → u = cv) ∧ PySem.W.kitOne K (.ref C) cv = some b ∧ H d = some (.xd fs) ∧ Q (.bl b) H
theorem call_isE {X : Cx} {p : Addr × Obj} {C d : Addr} (T : XcC X.K C) (z : ErrAt p C d) (hp : p ∈ X.pn) : CallR X (.builtin "isinstance") (rIsE X.K C d p.1) := by
  intro pins s σ H xs us Q I r h
  obtain ⟨c, cv, b, fs, rfl, hcv, e, hd, q⟩ := h
  obtain ⟨u1, u2, rfl, r1, r2⟩ := vals2 r
  cases (show u1 = Value.ref p.1 from r1)
  have ec := hcv _ r2
  subst ec
  have hx : ObjOk X.prog X.w H s.heap d (.xd fs) := I.hok d _ hd
  obtain ⟨mA, hns, hr⟩ := hx
  obtain ⟨od, ho, hl⟩ := lookIn_ns hns
  exact PySem.W.kia_one (PySem.W.kitx_exc (od := some od) T.ic T.ga T.gg T.exC T.ca T.cn T.ct T.cm) I.kIn (z.inst (I.pin p (List.mem_append_left _ hp)).1 ho) e (fun y => nomatch y) fun tk => ⟨.bl b, H, I.tok tk, rfl, q⟩
theorem w_isE {K : PySem.W.Frag} {C d a c : Addr} {fs : List (Str × V)} {H : Hp} {Q : VK} (hd : H d = some (.xd fs)) : rIsE K C d a [.ref a, .ref c] H Q = ∃ b, PySem.W.kitOne K (.ref C) (.ref c) = some b ∧ Q (.bl b) H := by
  refine propext ⟨fun ⟨c', cv, b, fs', e1, e2, e3, e4, q⟩ => ?_, fun ⟨b, e, q⟩ => ⟨.ref c, .ref c, b, fs, rfl, fun u h => h, e, hd, q⟩⟩
  cases e1
  have := e2 (.ref c) rfl
  subst this
  exact ⟨b, e3, q⟩
theorem w_isEt {K : PySem.W.Frag} {C d a : Addr} {n : String} {fs : List (Str × V)} {H : Hp} {Q : VK} (hd : H d = some (.xd fs)) : rIsE K C d a [.ref a, .ty n] H Q = ∃ b, PySem.W.kitOne K (.ref C) (.type n) = some b ∧ Q (.bl b) H := by
  refine propext ⟨fun ⟨c', cv, b, fs', e1, e2, e3, e4, q⟩ => ?_, fun ⟨b, e, q⟩ => ⟨.ty n, .type n, b, fs, rfl, fun u h => h, e, hd, q⟩⟩
  cases e1
  have := e2 (.type n) rfl
  subst this
  exact ⟨b, e3, q⟩
/-- error.n -/
def tErrF (a d : Addr) (n : Str) (te : TE) : TE := fun σ H Q => te σ H fun x H1 => x = .ref a ∧ ∃ (fs : List (Str × V)) (v : V), H1 d = some (.xd fs) ∧ fs.lookup n = some v ∧ Q v H1
theorem pe_errF {X : Cx} {p : Addr × Obj} {C d : Addr} {e : Expr} {te : TE} {pos : Pos} {n : Str} (T : XcC X.K C) (no : PySem.W.findIn X.K (.ref C) n = some none) (z : ErrAt p C d) (hp : p ∈ X.pn) (he : PE X e te)
    (hb : attributeBase e n X.env (eval e X.env) = eval e X.env := by rfl) : PE X (.Attribute e n pos) (tErrF p.1 d n te) := by
  refine ⟨fun pins s σ H Q I h => attr_of hb (thn (he.run pins s σ H _ I h) fun u s1 hh => ?_)⟩
  obtain ⟨x, H1, I1, rx, ex, fs, v, ea, l, q⟩ := hh
  subst ex
  cases (show u = Value.ref p.1 from rx)
  have hx : ObjOk X.prog X.w H1 s1.heap d (.xd fs) := I1.hok d _ ea
  obtain ⟨mA, hns, hr⟩ := hx
  obtain ⟨od, ho, hl⟩ := lookIn_ns hns
  obtain ⟨u, hu, ru⟩ := RelO.some_of (v := v) (o := mA n) (by rw [← l]; exact hr n)
  exact HandSPX.exc_get I1.kIn (z.inst (I1.pin p (List.mem_append_left _ hp)).1 ho) T.ga T.gg T.exC (PySem.W.findObj_own T.hd no rfl (by rw [hl, hu])) (handed_of ru) ⟨v, H1, I1.tok _, ru, q⟩
theorem w_errF {a d : Addr} {n : Str} {te : TE} {σ : L2.St} {H : Hp} {Q : VK} : tErrF a d n te σ H Q = te σ H fun x H1 => x = .ref a ∧ ∃ (fs : List (Str × V)) (v : V), H1 d = some (.xd fs) ∧ fs.lookup n = some v ∧ Q v H1 := rfl
end Mt
/-! ### an error that leaves a list comprehension: the first steps -/
namespace Mt
open PySem PySem.Spec PyProof.Rows L2
theorem noteFrame_frame {e : Value} {env env' : Env} (h : env.frame = env'.frame) : noteFrame e env = noteFrame e env' := by
  have hf : PySem.frameOf env = PySem.frameOf env' := by
    unfold PySem.frameOf
    rw [h]
  unfold noteFrame
  rw [h, hf]
/-- what a comprehension's block leaves behind, its environment known -/
def BlkEnd (M : Model) (A : Around) (E : Value → Shared → Prop) (Q : Value → Shared → Prop) (acc : Value) (cenv : Env) : Result → Shared → Prop
  | .ok _, s' => ∃ m, s'.heap.Ns cenv.locals m ∧ ∀ h', Heap.SameBut cenv.locals s'.heap h' → Q acc { s' with heap := h' }
  | .error x, s' => ∃ m, s'.heap.Ns cenv.locals m ∧ ∀ h', Heap.SameBut cenv.locals s'.heap h' → wpAny M A (passOn "comprehension.variables-let-go" x cenv : Sem Value) (fun _ _ => False) E { s' with heap := h' }
theorem comp_known {M : Model} {A : Around} {E : Value → Shared → Prop} {s : Shared} {env : Env} {e : Expr} {scope : Scope} {pos : Pos} {newAcc first : Sem Value} {g : Comprehension} {gs : List Comprehension} {cl : List (Str × Addr)} {Q : Value → Shared → Prop}
    (k1 : clausesOf e = g :: gs) (k2 : ∀ x, foldedSetIterable g.iter env x = pure x) (k3 : closureFor scope env = pure cl) (k4 : scope.kind = .function) (k5 : ∀ x ∈ scope.names, x.2 = .local → scope.names.lookup x.1 = some .local)
    (run : wpAny M A first (fun x s1 => wpAny M A (pyIter x) (fun it s2 => wpAny M A newAcc (fun acc s3 => wpAny M A (newFunctionEnv scope env.globals cl [] env.qual none .none (some env)) (fun cenv s4 =>
      codeAny M A (.compStart e 0 it acc { cenv with scope := relabel scope env }) (BlkEnd M A E Q acc { cenv with scope := relabel scope env }) s4) E s3) E s2) E s1) E s) :
    wpAny M A (comprehension e scope env pos newAcc false first none) Q E s := by
  unfold comprehension
  rw [k3, k1]
  have up : ∀ (a : Value) (t : Shared), E a t → E a t := fun _ _ z => z
  refine wpAny_bind (wpAny_mono run (fun x s1 r1 => ?_) up)
  refine wpAny_bind (wpAny_standAt (wpAny_bind (wpAny_of_eq (k2 x) (wpAny_bind (wpAny_holding (wpAny_mono r1 (fun it s2 r2 => ?_) up))))))
  refine wpAny_standIf (wpAny_bind (wpAny_mono r2 (fun acc s3 r3 => ?_) up))
  refine wpAny_bind (wpAny_pure (wpAny_bind (wpAny_mono r3 (fun cenv s4 r4 => ?_) up)))
  dsimp only
  have own : ∀ x ∈ (scope.names.filter fun x => (x.2 == .local || x.2 == .cell) && x.1 != (".0" : Str)).reverse, x.2 = .local → Env.kindOf { cenv with scope := relabel scope env } x.1 = some .local :=
    fun x hx hl => lookup_relabel_local (k5 x (List.mem_filter.mp (List.mem_reverse.mp hx)).1 hl)
  refine wpAny_holding (wpAny_bind (wpAny_attempt (wpAny_holding (wpAny_run (codeAny_mono r4 fun r s' hr => ?_)))))
  cases r with
  | ok f =>
    obtain ⟨m, hn, hq⟩ := hr
    exact wpAny_bind (wpAny_holding (wpAny_comp_letGo (cenv := { cenv with scope := relabel scope env }) k4 _ s' m own hn fun h' m' _ sb => wpAny_pure (hq h' sb)))
  | error x =>
    obtain ⟨m, hn, hq⟩ := hr
    exact wpAny_bind (wpAny_holding (wpAny_comp_letGo (cenv := { cenv with scope := relabel scope env }) k4 _ s' m own hn fun h' m' _ sb => wpAny_mono (hq h' sb) (fun _ _ z => z.elim) up))
end Mt
namespace Mt
open PySem PySem.Spec PyProof.Rows L2
/-- an error that is noted at the def's own frame -/
def XEh (X : Cx) (W : WX) (u : Value) (s' : Shared) : Prop :=
  ∃ (a : Addr) (B : Heap) (sI : Shared) (pins : List (Addr × Obj)) (σ : L2.St) (H : Hp) (cls : Value) (d : Option Addr), u = .ref a ∧ Inv X pins σ H sI ∧ (∀ b o, sI.heap.get? b = some o → b ∉ frs X.stack → B.get? b = some o) ∧ sI.heap.UpToSlots s'.heap ∧
    HandSPX.HeldZ B X.stack a (L2N.Zn cls d) X.env.locals s'.heap ∧ H a = none ∧ s'.os = sI.os ∧ AllBare s'.gens ∧ W cls d σ H
theorem xe_note {X : Cx} {W : WX} {u : Value} {s' : Shared} {cenv : Env} {Q : Unit → Shared → Prop} {E : Value → Shared → Prop} (hs : X.stack = X.env :: X.outer) (hf : X.env.frame = some X.env.locals) (fr : cenv.frame = X.env.frame) (x : L2N.XE X W u s')
    (hQ : ∀ h1, s'.heap.UpToSlots h1 → XEh X W u { s' with heap := h1 } → Q () { s' with heap := h1 }) : wpAny (model X.prog X.w) X.A (noteFrame u cenv) Q E s' := by
  obtain ⟨a, B, sI, pins, σ, H, cls, d, rfl, I, nb, up, sky, na, os, ag, w⟩ := x
  have hfr : X.A.frames = some (X.env :: X.outer) := by rw [I.ok.frames, hs]
  rw [noteFrame_frame fr]
  have fin : ∀ h1, HandSPX.HeldZ B (X.env :: X.outer) a (L2N.Zn cls d) X.env.locals h1 → s'.heap.UpToSlots h1 → Q () { s' with heap := h1 } := fun h1 hh u1 =>
    hQ h1 u1 ⟨a, B, sI, pins, σ, H, cls, d, rfl, I, nb, up.trans u1, by rw [hs]; exact hh, na, os, ag, w⟩
  unfold L2.Sky at sky
  rw [hs] at sky
  rcases sky with ⟨hB, hn, hl, oe, vs, he, hz, hd, h1⟩ | fl | hh
  · exact PySem.PXN.look_newZ L2N.Zn.steady hfr hl hf he hB hn hd h1 hz fin
  · exact PySem.PXN.looks_onZ L2N.Zn.steady hfr hf fl fin
  · exact HandSPX.againZ hf hh.2.2.2 (fin s'.heap hh (Heap.UpToSlots.refl _))
/-- the error goes on from the block -/
theorem xe_pass {X : Cx} {W : WX} {u : Value} {s' : Shared} {cenv : Env} {lb : String} (hf : X.env.frame = some X.env.locals) (fr : cenv.frame = X.env.frame) (tk : L2N.Takes X W) (x : XEh X W u s') :
    wpAny (model X.prog X.w) X.A (PySem.passOn lb u cenv : Sem Value) (fun _ _ => False) X.xe s' := by
  obtain ⟨a, B, sI, pins, σ, H, cls, d, rfl, I, nb, up, hh, na, os, ag, w⟩ := x
  have hh' := hh
  obtain ⟨h1, h2, h3, oe, vs, T, oT, ts, he, hz, hd, hv, hT, _⟩ := hh'
  unfold PySem.passOn
  refine wpAny_bind (wpAny_field he hd hv ?_)
  refine wpAny_bind ?_
  rw [fr, hf]
  exact HandSPX.setFlight_onZ hh fun h4 hh4 up4 => wpAny_throw (tk _ _ ⟨a, B, sI, pins, σ, H, cls, d, rfl, I, nb, up.trans up4, .inr (.inr hh4), na, os, ag, w⟩)
theorem frames_but {C : Addr} {B B' h h' : Heap} (k : ∀ b, b ≠ C → h'.get? b = h.get? b) (kB : ∀ b, B.get? b = none → B'.get? b = none) : ∀ {l : List Env}, C ∉ frs l → h.FunFrames B l → h'.FunFrames B' l
  | [], _, x => x
  | env :: rest, hC, ⟨x1, ⟨L, o, e1, e2, e3, e4⟩, x3⟩ => by
    have hL : L ∈ frs (env :: rest) := by
      unfold frs
      rw [List.filterMap_cons, e1]
      exact List.mem_cons_self ..
    have hr : C ∉ frs rest := fun z => hC (by
      unfold frs at z ⊢
      rw [List.filterMap_cons, e1]
      exact List.mem_cons_of_mem _ z)
    refine ⟨x1, ⟨L, o, e1, kB L e2, ?_, e4⟩, frames_but k kB hr x3⟩
    rw [k L fun z => hC (by rw [← z]; exact hL)]
    exact e3
/-- the block's names let go -/
theorem xe_but {X : Cx} {W : WX} {u : Value} {s' : Shared} {C : Addr} {m : Str → Option Value} {h' : Heap} (x : XEh X (fun cls d σ H => W cls d σ H ∧ H C = none) u s') (hn : s'.heap.Ns C m) (sb : Heap.SameBut C s'.heap h') (hL : C ≠ X.env.locals)
    (h1 : C ∈ X.ex ∨ X.s_0.heap.objs.size ≤ C) (h2 : ∀ x c, X.env.cells.lookup x = some c → c ≠ C) (h3 : ∀ p ∈ X.pn, p.1 ≠ C) (hC : C ∉ frs X.stack) : XEh X W u { s' with heap := h' } := by
  obtain ⟨a, B, sI, pins, σ, H, cls, d, rfl, I, nb, up, hh, na, os, ag, w, nC⟩ := x
  obtain ⟨q1, q2, q3, oe, vs, T, oT, ts, he, hz, hd, hv, hT, hTa, eT, dT, fT⟩ := hh
  obtain ⟨oC, es, ep, eC, dC, _⟩ := hn
  have aC : a ≠ C := fun z => by
    rw [z, eC] at he
    cases he
    rw [dC] at hd
    cases hd
  have TC : T ≠ C := fun z => by
    rw [z, eC] at eT
    cases eT
    rw [dC] at dT
    cases dT
  obtain ⟨B', b1, b2⟩ := restrict B fun b => decide (b ≠ C)
  obtain ⟨G, g1, g2⟩ := restrict sI.heap fun b => decide (b ≠ C)
  have kB : ∀ b, B.get? b = none → B'.get? b = none := fun b e => by
    by_cases z : b = C
    · exact b2 b (by simp [z])
    · rw [b1 b (by simp [z])]
      exact e
  have offB : ∀ b o, B'.get? b = some o → b ≠ C ∧ B.get? b = some o := fun b o e => by
    by_cases z : b = C
    · rw [b2 b (by simp [z])] at e
      cases e
    · rw [b1 b (by simp [z])] at e
      exact ⟨z, e⟩
  have offG : ∀ b o, G.get? b = some o → b ≠ C ∧ sI.heap.get? b = some o := fun b o e => by
    by_cases z : b = C
    · rw [g2 b (by simp [z])] at e
      cases e
    · rw [g1 b (by simp [z])] at e
      exact ⟨z, e⟩
  have I' : L2.Inv X [] σ H { sI with heap := G, toks := sI.toks } := (show L2.Inv X ([] ++ pins) σ H sI from I).unpinned.turned (fun b o hb e => by rw [g1 b (by simp [hb])]; exact e) nC hL h1 h2 (fun p hp => h3 p (by simpa using hp))
  refine ⟨a, B', _, [], σ, H, cls, d, rfl, I', fun b o e hb => ?_, fun b o e hnf => ?_, ⟨fun b o e => ?_, kB a q2, frames_but sb.2 kB hC q3, oe, vs, T, oT, ts, ?_, hz, hd, hv, kB T hT, hTa, ?_, dT, fT⟩, na, os, ag, w⟩
  · obtain ⟨z, e⟩ := offG b o e
    rw [b1 b (by simp [z])]
    exact nb b o e hb
  · obtain ⟨z, e⟩ := offG b o e
    obtain ⟨sl, e2⟩ := up b o e hnf
    exact ⟨sl, by rw [← e2]; exact sb.2 b z⟩
  · obtain ⟨z, e⟩ := offB b o e
    exact (sb.2 b z).trans (q1 b o e)
  · exact (sb.2 a aC).trans he
  · exact (sb.2 T TC).trans eT
end Mt
namespace Mt
open PySem PySem.Spec PyProof.Rows L2
theorem inv_xe {X : Cx} {pins : List (Addr × Obj)} {σ : L2.St} {H : Hp} {s : Shared} (e : Value → Shared → Prop) (I : L2.Inv X pins σ H s) : L2.Inv { X with xe := e } pins σ H s :=
  ⟨⟨I.ok.mod, I.ok.kind, I.ok.glob, I.ok.blt, I.ok.above, I.ok.inj, I.ok.has, I.ok.cab, I.ok.hd, I.ok.frames, I.ok.stk, I.ok.exf, I.ok.bs, I.ok.bsz, I.ok.noex, I.ok.exfs, I.ok.funs, I.ok.frf⟩, I.os, I.bare, I.base, I.loc, I.cell, I.free, I.freeC, I.pin, I.hok, I.len⟩
/-- a block whose errors are told to xe -/
abbrev blkx (X : Cx) (s : Shared) (H : Hp) (scope : Scope) (cenv : Env) (fp : List Addr) (xe : Value → Shared → Prop) : Cx := { X.blk s H scope cenv fp with xe := xe }
/-- what a callee lets out in Y, by the promise V -/
def PassB (Y : Cx) (V : XK) : Prop := ∀ σ, PassesAt (L2N.CX Y.prog Y.w) Y σ V
theorem p_callB {Y : Cx} {V : XK} {x : Str} {j k : Nat} {ps : List Str} {sp : Sp} {e : Expr} {es : List Expr} {t : TA} {p pos : Pos} (C : CalX Y.prog Y.w Y.K Y.mg Y.base x j ps sp) (hr : Room k Y.A) (tk : PassB Y V) (ha : PA Y (e :: es) t) (hj : j ≤ k := by decide) (hg : Gl Y x := by rfl)
    (hdb : (x == ("__debug__" : Str)) = false := by decide) (he : starEach (e :: es) Y.env = (false, eval e Y.env) :: starEach es Y.env := by rfl) (hpl : (backTo pos (starEach es Y.env)).any (·.1) = false := by rfl) :
    PE Y (.Call (.Name x p) (e :: es) [] pos) (tCallS sp (fun _ => V) t) := by
  obtain ⟨f, fd, F, gm, kp, b⟩ := C.ex
  exact pe_callS F (hr.mono hj) hg gm kp b tk ha hdb he hpl
/-- an error of a call in the block, on its way out -/
theorem blk_out {X : Cx} {W : WX} {pins : List (Addr × Obj)} {σ : L2.St} {H3 : Hp} {s3 : Shared} {scope : Scope} {ce : Env} {fp : List Addr} {Q : Value → Shared → Prop} {acc : Value} {xe : Value → Shared → Prop} (hs : X.stack = X.env :: X.outer) (hf : X.env.frame = some X.env.locals) (tk : L2N.Takes X W)
    (I3 : L2.Inv X pins σ H3 s3) (f3 : ∀ b ∈ fp, FpOk X pins H3 b) (cF : ce.frame = X.env.frame) (fC : FpOk X pins H3 ce.locals) {σ8 : L2.St} {pins8 : List (Addr × Obj)} {H8 : Hp} {s8 s' : Shared} {e : Value} (I8 : L2.Inv (blkx X s3 H3 scope ce fp xe) pins8 σ8 H8 s8)
    (c : L2N.CX X.prog X.w X.stack H8 s8 (fun cls d H => W cls d σ H) e s') : notedBy (model X.prog X.w) X.A ce (fun e s' => BlkEnd (model X.prog X.w) X.A X.xe Q acc ce (.error e) s') e s' := by
  have J : L2.Inv X pins σ H8 s8 := I3.call' (ch := fp) I8.os I8.base I8.hok I8.bare fun b hb => ⟨(f3 b hb).2.2.2.1, (f3 b hb).2.1, (f3 b hb).2.2.2.2.1, (f3 b hb).2.2.2.2.2⟩
  obtain ⟨m, hn, up⟩ : ∃ m, s'.heap.Ns ce.locals m ∧ True := by
    obtain ⟨_, _, sI, _, _, _, _, _, _, I, _, up, _⟩ := L2N.XE.of_call (W := fun _ _ _ _ => True) I8 (fun _ _ _ _ => trivial) c
    obtain ⟨m, hn, _⟩ := I.loc
    exact ⟨m, up.ns hn, trivial⟩
  have c1 : L2N.CX X.prog X.w X.stack H8 s8 (fun cls d H => W cls d σ H ∧ H ce.locals = none) e s' := by
    obtain ⟨a, B, H', cls, d, r, fl, hok, ub, na, os, ag, hE⟩ := c
    obtain ⟨m0, ⟨o, es, ep, eo, _⟩, _⟩ := I8.loc
    exact ⟨a, B, H', cls, d, r, fl, hok, ub, na, os, ag, hE, ub.free _ o eo I8.free⟩
  have x := L2N.XE.of_call (W := fun cls d σ H => W cls d σ H ∧ H ce.locals = none) J (fun _ _ _ h => h) c1
  have hC : ce.locals ∉ frs X.stack := fun z => by
    rw [hs] at z
    unfold frs at z
    rw [List.filterMap_cons, hf] at z
    rcases List.mem_cons.mp z with z | z
    · exact fC.2.1 z
    · exact fC.2.2.1 z
  refine xe_note hs hf cF x fun h1 u1 x1 => ⟨m, u1.ns hn, fun h' sb => xe_pass hf cF tk ?_⟩
  exact xe_but x1 (u1.ns hn) sb fC.2.1 fC.2.2.2.1 fC.2.2.2.2.1 (fun p hp => fC.2.2.2.2.2 p (List.mem_append_left _ hp)) hC
end Mt
namespace Mt
open PySem PySem.Spec PyProof.Rows L2
section
variable {X : Cx} {elt tg iter : Expr} {ifs : List Expr} {scope : Scope} {own : List (Str × Nat)} {pos : Pos} {wi : TI} {g : TG} {tt : TT} {te : XK → TE} {W : WX}
/-- the reading: what the item's calls let out, the def lets out with its own slots -/
def tLcX (W : WX) (wi : TI) (g : TG) (tt : TT) (te : XK → TE) (vs : List Nat) : TE := fun σ H Q => tLc wi g tt (te fun cls d H => W cls d σ H) vs σ H Q
/-- [elt for tg in iter if ..] whose item may raise -/
theorem pe_lcX (hs : X.stack = X.env :: X.outer) (hf : X.env.frame = some X.env.locals) (tk : L2N.Takes X W) (hc : X.calm = true) (hN : X.N.Nodup) (hi : PI X tg iter wi) (ok : BlkOk X.N X.env.scope scope own)
    (hg : ∀ s H C cl fp xe, PG (blkx X s H scope (compEnvC scope cl C X.env) fp xe) tg g) (ht : ∀ s H C cl fp xe, PTs (blkx X s H scope (compEnvC scope cl C X.env) fp xe) ifs tt)
    (he : ∀ s H C cl fp xe (V : XK), PassB (blkx X s H scope (compEnvC scope cl C X.env) fp xe) V → PE (blkx X s H scope (compEnvC scope cl C X.env) fp xe) elt (te V)) (hfs : ∀ x, foldedSetIterable iter X.env x = pure x := by intro _; rfl) :
    PE X (.ListComp elt [⟨tg, iter, ifs, 0⟩] scope pos) (tLcX W wi g tt te (own.map (·.2))) := by
  refine ⟨fun pins s σ H Q I h => ?_⟩
  rw [eval_ListComp]
  have fr : ∀ y ∈ scope.names, y.2 = .free → ∃ c, X.env.cells.lookup y.1 = some c := fun y hy e => (ok.free y hy e).elim (fun k => I.ok.has _ (.inl k)) (fun k => I.ok.has _ (.inr k))
  refine comp_known rfl hfs (closure_ok fr) ok.kind (fun y hy e => by rw [ok.uniq y hy, e]) (thn (hi.run pins s σ H _ I h) fun xv s1 h1 => thn h1 fun itv s2 h2 => ?_)
  obtain ⟨it, fp, tn, J, H2, rfl, I2, T, st2, f2, q⟩ := h2
  refine wpAny_newObj_type (newEnv_comp ?_) (by show 0 ≤ sizeLine; decide)
  -- the list that grows
  have nD : H2 s2.heap.objs.size = none := I2.hok.fresh (Nat.le_refl _)
  obtain ⟨Wv, ⟨m0, w0⟩, turn⟩ := q _ nD
  have I3 : L2.Inv X pins σ (upd H2 s2.heap.objs.size (.lst [])) { s2 with heap := s2.heap.push { cls := .type "list", data := .seq ([] : List Value).toArray } } :=
    I2.laid (t' := s2.toks) (fun b o e => Heap.get?_push_of_some _ e) (Nat.le_refl _) ⟨Nat.zero_le _, [], 0, .nil, Heap.get?_push_size _ rfl⟩
  generalize hD : s2.heap.objs.size = D at nD w0 turn I3 ⊢
  have f3 : ∀ b ∈ fp, FpOk X pins (upd H2 D (.lst [])) b ∧ b < (s2.heap.push { cls := .type "list", data := .seq ([] : List Value).toArray }).objs.size := fun b hb => by
    obtain ⟨o, e, _⟩ := T.obj _ _ st2 b hb
    have lt := Heap.lt_size e
    refine ⟨⟨?_, (f2 b hb).2⟩, by rw [Heap.size_push]; exact Nat.lt_succ_of_lt lt⟩
    rw [upd_ne (by rw [← hD]; exact Nat.ne_of_lt lt)]
    exact (f2 b hb).1
  have st3 : tn 0 (s2.heap.push { cls := .type "list", data := .seq ([] : List Value).toArray }) := T.keep _ _ _ st2 fun b _ o e => Heap.get?_push_of_some _ e
  generalize hS : ({ s2 with heap := s2.heap.push { cls := .type "list", data := .seq ([] : List Value).toArray } } : Shared) = s3 at I3 f3 st3 ⊢
  have hp : s2.heap.push { cls := .type "list", data := .seq ([] : List Value).toArray } = s3.heap := by rw [← hS]
  rw [hp] at f3 st3
  generalize upd H2 D (.lst []) = H3 at I3 f3 w0
  show codeAny _ _ (.compStart (.ListComp elt [⟨tg, iter, ifs, 0⟩] scope pos) 0 (.ref it) (.ref D) (compEnvC scope (cellsFrom (s3.heap.objs.size + 1) scope.names (cloFrom X.env.cells scope.names [])) s3.heap.objs.size X.env))
    (BlkEnd (model X.prog X.w) X.A X.xe (fun v s' => EP X pins σ Q v s') (.ref D) (compEnvC scope (cellsFrom (s3.heap.objs.size + 1) scope.names (cloFrom X.env.cells scope.names [])) s3.heap.objs.size X.env)) { s3 with heap := pushCells (s3.heap.push { cls := .type "dict", data := .dict #[] }) scope.names }
  have I4 := block_start I3 ok hN f3
  have pg := hg s3 H3 s3.heap.objs.size (cellsFrom (s3.heap.objs.size + 1) scope.names (cloFrom X.env.cells scope.names [])) fp
  have pt := ht s3 H3 s3.heap.objs.size (cellsFrom (s3.heap.objs.size + 1) scope.names (cloFrom X.env.cells scope.names [])) fp
  have pe := he s3 H3 s3.heap.objs.size (cellsFrom (s3.heap.objs.size + 1) scope.names (cloFrom X.env.cells scope.names [])) fp
  have cF : (compEnvC scope (cellsFrom (s3.heap.objs.size + 1) scope.names (cloFrom X.env.cells scope.names [])) s3.heap.objs.size X.env).frame = X.env.frame := rfl
  have cL : (compEnvC scope (cellsFrom (s3.heap.objs.size + 1) scope.names (cloFrom X.env.cells scope.names [])) s3.heap.objs.size X.env).locals = s3.heap.objs.size := rfl
  generalize compEnvC scope (cellsFrom (s3.heap.objs.size + 1) scope.names (cloFrom X.env.cells scope.names [])) s3.heap.objs.size X.env = ce at I4 pg pt pe cF cL ⊢
  have fC : FpOk X pins H3 ce.locals := I3.fpOk (by rw [cL]; exact Nat.le_refl _) (by rw [cL]; exact I3.hok.fresh (Nat.le_refl _))
  have st4 : tn 0 (pushCells (s3.heap.push { cls := .type "dict", data := .dict #[] }) scope.names) := T.keep _ _ _ st3 fun b _ o e => pushCells_keeps _ _ _ _ (Heap.get?_push_of_some _ e)
  generalize hx0 : (notedBy (model X.prog X.w) X.A ce fun e s' => BlkEnd (model X.prog X.w) X.A X.xe (fun v s' => EP X pins σ Q v s') (.ref D) ce (.error e) s') = E0
  have pg := pg E0
  have pt := pt E0
  have pe := pe E0 (fun cls d H => W cls d σ H) fun σ8 pins8 H8 s8 e s' I8 c => by
    show E0 e s'
    rw [← hx0]
    exact blk_out hs hf tk I3 (fun b hb => (f3 b hb).1) cF fC I8 c
  have I4 := inv_xe E0 I4
  generalize hs4 : ({ s3 with heap := pushCells (s3.heap.push { cls := .type "dict", data := .dict #[] }) scope.names } : Shared) = s4 at I4 ⊢
  have st4 : tn 0 s4.heap := by rw [← hs4]; exact st4
  have stat : ∀ {σ' : L2.St} {H' : Hp} {s' : Shared}, L2.Inv (blkx X s3 H3 scope ce fp E0) [] σ' H' s' → (∀ b ∈ fp, H' b = none) → ∀ b ∈ fp, FpOk (blkx X s3 H3 scope ce fp E0) [] H' b := fun {σ' H' s'} I' hn b hb =>
    ⟨hn b hb, (I'.ok.exf b hb).1, I'.ok.exfs b hb, .inl hb, fun x c e => (I'.ok.exf b hb).2 x c e, fun p hp => nomatch (show p ∈ ([] : List (Addr × Obj)) from hp)⟩
  have loop : codeAny (model X.prog X.w) X.A (.compLoop (.ListComp elt [⟨tg, iter, ifs, 0⟩] scope pos) 0 (.ref it) (.ref D) ce) (BlkEnd (model X.prog X.w) X.A X.xe (fun v s' => EP X pins σ Q v s') (.ref D) ce) s4 := by
    refine compLoop_any (fun n s' => ∃ i H', L2.Inv (blkx X s3 H3 scope ce fp E0) [] (wipe σ (own.map (·.2))) H' s' ∧ tn i s'.heap ∧ (∀ b ∈ fp, H' b = none) ∧ Wv i n H') ?_ m0 ⟨0, H3, I4, st4, fun b hb => (f3 b hb).1.1, w0⟩
    rw [hx0]
    rintro n s5 ⟨i, H5, I5, st5, n5, w5⟩
    rcases turn i n H5 w5 with ⟨stop, qq⟩ | ⟨go, Nx, hNx, step⟩
    · refine thn (T.done (blkx X s3 H3 scope ce fp E0) rfl rfl rfl hc i [] s5 _ H5 E0 I5 (stat I5 n5) st5 stop) fun r s6 ⟨hr, I6⟩ => ?_
      subst hr
      have I7 : L2.Inv X pins σ H5 s6 := I3.call' (ch := fp) I6.os I6.base I6.hok I6.bare fun b hb => ⟨(f3 b hb).1.2.2.2.1, (f3 b hb).1.2.1, (f3 b hb).1.2.2.2.2.1, (f3 b hb).1.2.2.2.2.2⟩
      obtain ⟨m, hn, _⟩ := I6.loc
      exact ⟨m, hn, fun h' sb => ⟨.ref D, H5, I7.turned (t' := s6.toks) (fun b o hb e => (sb.2 b hb).trans e) I6.free fC.2.1 fC.2.2.2.1 fC.2.2.2.2.1 fC.2.2.2.2.2, rfl, qq⟩⟩
    · refine thn (T.item (blkx X s3 H3 scope ce fp E0) rfl rfl rfl hc i [] s5 _ H5 E0 I5 (stat I5 n5) st5 go) fun r s6 ⟨u, hr, h6⟩ => ?_
      subst hr
      refine thn h6 fun _ s7 ⟨x, H7, I7, r7, y7, st7, n7⟩ => ?_
      refine thn (pg.run _ s7 _ H7 x u _ (I7.pinned (stat I7 n7) (T.obj _ _ st7)) r7 (step x H7 y7)) fun _ s8 ⟨σ8, H8, I8, hw8, q8⟩ => ?_
      refine thn (pt.run _ s8 σ8 H8 _ I8 q8) fun b s9 ⟨H9, I9, q9⟩ => ?_
      have fin : ∀ {s' : Shared} {H' : Hp}, L2.Inv (blkx X s3 H3 scope ce fp E0) ([] ++ pinsAt fp s7.heap) σ8 H' s' → Nx H' → ∃ m, m < n ∧ ∃ i H', L2.Inv (blkx X s3 H3 scope ce fp E0) [] (wipe σ (own.map (·.2))) H' s' ∧ tn i s'.heap ∧ (∀ b ∈ fp, H' b = none) ∧ Wv i m H' := fun {s' H'} I' nx => by
        obtain ⟨m', hm, w'⟩ := hNx H' nx
        have pin' : ∀ b ∈ fp, ∀ o, s7.heap.get? b = some o → s'.heap.get? b = some o ∧ H' b = none := fun b hb o e =>
          ⟨(I'.pin (b, o) (List.mem_append_right _ (List.mem_append_right _ (mem_pinsAt hb e)))).1, (I'.pin (b, o) (List.mem_append_right _ (List.mem_append_right _ (mem_pinsAt hb e)))).2.1⟩
        refine ⟨m', hm, i + 1, H', I'.unpinned.weak (by rw [← hw8, wipe_length]) (fun j v e => ?_), T.keep _ _ _ st7 fun b hb o e => (pin' b hb o e).1, fun b hb => ?_, w'⟩
        · rw [← hw8] at e
          exact (wipe_some e).1
        · obtain ⟨o, e, _⟩ := T.obj _ _ st7 b hb
          exact (pin' b hb o e).2
      cases b with
      | false =>
        simp only [Bool.false_eq_true, if_false] at q9 ⊢
        exact fin I9 q9
      | true =>
        simp only [if_true] at q9 ⊢
        refine thn (pe.run _ s9 σ8 H9 _ I9 q9) fun z s10 ⟨yv, H10, I10, r10, acc, hD10, hz10, nx⟩ => ?_
        exact app_ok (X := blkx X s3 H3 scope ce fp E0) I10 hD10 hz10 r10 fun s11 I11 => fin I11 nx
  exact codeAny_compStart_list loop (T.self X.A 0 _ _ _ st4 loop)
end
end Mt
namespace Mt
open PySem PySem.Spec PyProof.Rows L2 L2H
/-! ### C(x) of the three classes whose errors bear an argument -/
def sp_init (K : PySem.W.Frag) (C : Addr) : Sp := fun vs H Q _ => ∃ (a : Addr) (y : V), vs = [.ref a, y] ∧ H a = some (exo a C none) ∧ ∀ dx, H dx = none → dx ≠ a → Q .non (upd (upd H dx (exd dx [("argument", y)])) a (exo a C (some dx)))
structure ErrK (P : Program) (w : World) (K : PySem.W.Frag) (mg : Str → Option Value) (base : Heap) (x : Str) (C : Addr) : Prop where
  gC : mg x = some (.ref C)
  oex : OexC K C
  noA : PySem.W.findIn K (.ref C) "argument" = some none
  ini : ∃ fI fd, PySem.W.findIn K (.ref C) "__init__" = some (some (.ref fI)) ∧ PySem.W.typeIn K (.ref fI) = some (.type "function") ∧ FnOk P w K mg base CX0 1 fI fd ["self", "argument"] (sp_init K C) ∧ Binds K fd ["self", "argument"] []
theorem p_err {X : Cx} {x : Str} {C : Addr} {k : Nat} {e : Expr} {es : List Expr} {ta : TA} {p pos : Pos} (E : ErrK X.prog X.w X.K X.mg X.base x C) (hr : Room k X.A) (ha : PA X (e :: es) ta) (hj : 2 ≤ k := by decide) (hg : Gl X x := by rfl)
    (hdb : (x == ("__debug__" : Str)) = false := by decide) (he : starEach (e :: es) X.env = (false, eval e X.env) :: starEach es X.env := by rfl) (hpl : (backTo pos (starEach es X.env)).any (·.1) = false := by rfl) :
    L2N.PMk X (.Call (.Name x p) (e :: es) [] pos) (tMkO C (sp_init X.K C) [] ta) := by
  obtain ⟨fI, fd, i1, i2, F, b⟩ := E.ini
  exact pmkN E.oex i1 i2 F (hr.mono hj) b E.gC ha hg hdb he hpl
theorem w_mkO {C : Addr} {sp : Sp} {dvs : List V} {ta : TA} {σ : L2.St} {H : Hp} {Q : XK} : tMkO C sp dvs ta σ H Q = ta σ H fun vs H1 => vs.length ≤ 1000 ∧ ∀ a, H1 a = none → sp (.ref a :: (vs ++ dvs)) (upd H1 a (exo a C none))
  (fun v H2 => v = .non ∧ ∃ (d : Addr) (fs : List (Str × V)), H2 a = some (exo a C (some d)) ∧ H2 d = some (exd d fs) ∧ H1 d = none ∧ Q (.ref C) (some d) (upd (del H2 a) d (.xd fs))) (fun _ _ _ => False) := rfl
theorem u_mkO {K : PySem.W.Frag} {C : Addr} {y : V} {H : Hp} {Q : XK} (q : ∀ d, H d = none → Q (.ref C) (some d) (upd H d (.xd [("argument", y)]))) (a : Addr) (ha : H a = none) : sp_init K C [.ref a, y] (upd H a (exo a C none))
  (fun v H2 => v = .non ∧ ∃ (d : Addr) (fs : List (Str × V)), H2 a = some (exo a C (some d)) ∧ H2 d = some (exd d fs) ∧ H d = none ∧ Q (.ref C) (some d) (upd (del H2 a) d (.xd fs))) (fun _ _ _ => False) := by
  refine ⟨a, y, rfl, upd_same, fun dx hdx hne => ⟨rfl, dx, [("argument", y)], upd_same, ?_, ?_, ?_⟩⟩
  · rw [upd_ne hne, upd_same]
  · rw [upd_ne hne] at hdx
    exact hdx
  · rw [upd_ne hne] at hdx
    have e : upd (del (upd (upd (upd H a (exo a C none)) dx (exd dx [("argument", y)])) a (exo a C (some dx))) a) dx (.xd [("argument", y)]) = upd H dx (.xd [("argument", y)]) := by
      funext b
      by_cases h1 : b = dx
      · rw [h1, upd_same, upd_same]
      · rw [upd_ne h1, upd_ne h1]
        by_cases h2 : b = a
        · rw [h2, del_same, ha]
        · rw [del_ne h2, upd_ne h2, upd_ne h1, upd_ne h2]
    rw [e]
    exact q dx hdx
structure Ad where
  (bn bs be bt tl cl ni nm en me : Addr)
/-- which of the classes an error of the class at C is of: one of the first three -/
structure Kinds (K : PySem.W.Frag) (A : Ad) (C : Addr) (b1 b2 b3 : Bool) : Prop where
  bn : PySem.W.kitOne K (.ref C) (.ref A.bn) = some b1
  bs : PySem.W.kitOne K (.ref C) (.ref A.bs) = some b2
  be : PySem.W.kitOne K (.ref C) (.ref A.be) = some b3
  bt : PySem.W.kitOne K (.ref C) (.ref A.bt) = some false
  tl : PySem.W.kitOne K (.ref C) (.ref A.tl) = some false
  cl : PySem.W.kitOne K (.ref C) (.ref A.cl) = some false
  ni : PySem.W.kitOne K (.ref C) (.ref A.ni) = some false
  nm : PySem.W.kitOne K (.ref C) (.ref A.nm) = some false
  en : PySem.W.kitOne K (.ref C) (.ref A.en) = some false
  me : PySem.W.kitOne K (.ref C) (.ref A.me) = some true
  ve : PySem.W.kitOne K (.ref C) (.type "ValueError") = some true
theorem stok_new {G : Hp} {p : Addr} {t : Sto} {o : HO} (hp : G p = none) (ok : StOk G t) : StOk (upd G p o) t := ⟨same_new hp _ _ ok.at_, ok.i0, ok.il, ok.g0, ok.gi⟩
theorem stok_same {G G' : Hp} {t : Sto} (s : Same G G') (ok : StOk G t) : StOk G' t := ⟨s _ _ ok.at_, ok.i0, ok.il, ok.g0, ok.gi⟩
def wholeB : V → Int → Int → Bool
  | .int i, lo, hi => decide (lo ≤ i) && decide (i ≤ hi)
  | _, _, _ => false
theorem takesN {X : Cx} : L2N.Takes X (fun _ _ _ _ => False) := fun _ _ x => by
  obtain ⟨_, _, _, _, _, _, _, _, _, _, _, _, _, _, _, _, z⟩ := x
  exact z.elim
/-- f(error) in the suite: the error at a, its class cls, its dict d -/
def tCallE (a : Addr) (cls : Value) (d : Option Addr) (sp : Addr × Obj → Sp) (t : TA) : TE := fun σ H Q => ∃ C dd, cls = .ref C ∧ d = some dd ∧ t σ H fun vs H1 => ∀ oe, ErrAt (a, oe) C dd → sp (a, oe) vs H1 Q E0
theorem p_callS {X : Cx} {a : Addr} {oe : Obj} {cls : Value} {d : Option Addr} {pn : List (Addr × Obj)} {x : Str} {j k : Nat} {ps : List Str} {sp : Addr × Obj → Sp} {e : Expr} {es : List Expr} {t : TA} {q pos : Pos} (C : CalE X.prog X.w X.K X.mg X.base x j ps sp) (hr : Room k X.A)
    (hz : L2N.Zn cls d oe) (hf : ∃ vs, oe.data = .fields vs) (ha : PA (X.suite a ((a, oe) :: pn)) (e :: es) t) (hj : j ≤ k := by decide) (hg : Gl (X.suite a ((a, oe) :: pn)) x := by rfl)
    (hdb : (x == ("__debug__" : Str)) = false := by decide) (he : starEach (e :: es) X.env = (false, eval e X.env) :: starEach es X.env := by rfl) (hpl : (backTo pos (starEach es X.env)).any (·.1) = false := by rfl) :
    PE (X.suite a ((a, oe) :: pn)) (.Call (.Name x q) (e :: es) [] pos) (tCallE a cls d sp t) := by
  obtain ⟨vs, hv⟩ := hf
  refine ⟨fun pins s σ H Q I h => ?_⟩
  obtain ⟨C', dd, rfl, rfl, h⟩ := h
  obtain ⟨f, fd, F, gm, kp, b⟩ := C.ex
  have hot : Hot1 (X.suite a ((a, oe) :: pn)).A (a, oe) := ⟨rfl, vs, hv, hz.2.2 vs hv⟩
  have hp : (a, oe) ∈ (X.suite a ((a, oe) :: pn)).pn := List.mem_cons_self ..
  refine wpAny_Call_Name_kw (ld_glob I hg gm (PySem.W.callWith_K (h₀ := X.base) I.ok.mod.kin kp (thn (ha.run pos pins s σ H _ I h) fun us s1 ⟨ws, H1, I1, r, hq⟩ => ⟨I1.kIn, ?_⟩) he hpl) hdb)
  have hq := hq oe ⟨hz, vs, hv⟩
  have hl : us.length = ps.length := by
    rw [← r.length]
    exact F.len _ _ _ _ _ hq
  have b1 := b s1 us I1.kIn (by rw [List.append_nil]; exact hl)
  rw [List.append_nil] at b1
  have P1 := I1.pin (a, oe) (List.mem_append_left _ hp)
  have pin : PinOk (X.suite a ((a, oe) :: pn)).stack H1 s1 (a, oe) := ⟨P1.1, P1.2.1, fun hm => (List.mem_cons.mp (I1.stkSub a hm)).elim P1.2.2.1 P1.2.2.2.1, P1.2.2.2.2⟩
  refine wpAny_call (codeAny_mono (F.run (a, oe) (X.suite a ((a, oe) :: pn)).A (X.suite a ((a, oe) :: pn)).stack s1 H1 ⟨us, []⟩ us ws Q E0 ⟨(hr.mono hj).dp, (hr.mono hj).un⟩ hot pin I1.env0 b1 r hq) fun r' s' hr' => ?_)
  cases r' with
  | error e => exact False.elim hr'
  | ok fl =>
    cases fl with
    | ret u => exact I1.after hr'
    | _ => exact False.elim hr'
theorem w_callE {a : Addr} {C dd : Addr} {sp : Addr × Obj → Sp} {t : TA} {σ : L2.St} {H : Hp} {Q : VK} : tCallE a (.ref C) (some dd) sp t σ H Q = t σ H fun vs H1 => ∀ oe, ErrAt (a, oe) C dd → sp (a, oe) vs H1 Q E0 := by
  refine propext ⟨fun ⟨C', d', e1, e2, q⟩ => ?_, fun q => ⟨C, dd, rfl, rfl, q⟩⟩
  cases e1
  cases e2
  exact q
end Mt
/-! ### plain data over a heap that grows, lists of one's own, the store -/
namespace Mt
open PySem PySem.Spec PyProof.Rows L2 L2H
inductive T where
  | non | bl (b : Bool) | int (i : Int) | str (x : Str) | ty (n : String) | lst (ds : List T) | tup (ds : List T) | obj (C : Addr) (ns : List Str) (ds : List T) | sto | kc (a : Addr) | fi (ns : List Int)
mutual
def Rp (s : Option Addr) (P : Hp) : T → V → Prop
  | .non, v => v = .non
  | .bl b, v => v = .bl b
  | .int i, v => v = .int i
  | .str x, v => v = .str x
  | .ty n, v => v = .ty n
  | .lst ds, v => ∃ a vs, v = .ref a ∧ P a = some (.lst vs) ∧ Rps s P ds vs ∧ ds.length < 1000000
  | .tup ds, v => ∃ a vs, v = .ref a ∧ P a = some (.tup vs) ∧ Rps s P ds vs ∧ ds.length < 1000000
  | .obj C ns ds, v => ∃ a dx vs, v = .ref a ∧ P a = some (.ins C dx (ns.zip vs)) ∧ Rps s P ds vs ∧ ns.length = ds.length
  | .sto, v => ∃ a, s = some a ∧ v = .ref a
  | .kc a, v => v = .ref a
  | .fi ns, v => ∃ a o, v = .ref a ∧ P a = some (.frz o (.tup (ns.map V.int))) ∧ o.dict = none ∧ ns.length < 1000000
def Rps (s : Option Addr) (P : Hp) : List T → List V → Prop
  | [], vs => vs = []
  | d :: ds, vs => ∃ v r, vs = v :: r ∧ Rp s P d v ∧ Rps s P ds r
end
mutual
theorem rp_same {s : Option Addr} {P P' : Hp} (h : Same P P') : ∀ (d : T) (v : V), Rp s P d v → Rp s P' d v
  | .non, v, r => by simpa only [Rp] using r
  | .bl b, v, r => by simpa only [Rp] using r
  | .int b, v, r => by simpa only [Rp] using r
  | .str b, v, r => by simpa only [Rp] using r
  | .ty b, v, r => by simpa only [Rp] using r
  | .sto, v, r => by simpa only [Rp] using r
  | .kc a, v, r => by simpa only [Rp] using r
  | .fi ns, v, r => by
    simp only [Rp] at r ⊢
    obtain ⟨a, o, e1, e2, e3, e4⟩ := r
    exact ⟨a, o, e1, h _ _ e2, e3, e4⟩
  | .obj C ns ds, v, r => by
    simp only [Rp] at r ⊢
    obtain ⟨a, dx, vs, e1, e2, e3, e4⟩ := r
    exact ⟨a, dx, vs, e1, h _ _ e2, rps_same h ds vs e3, e4⟩
  | .lst ds, v, r => by
    simp only [Rp] at r ⊢
    obtain ⟨a, vs, e1, e2, e3, e4⟩ := r
    exact ⟨a, vs, e1, h _ _ e2, rps_same h ds vs e3, e4⟩
  | .tup ds, v, r => by
    simp only [Rp] at r ⊢
    obtain ⟨a, vs, e1, e2, e3, e4⟩ := r
    exact ⟨a, vs, e1, h _ _ e2, rps_same h ds vs e3, e4⟩
theorem rps_same {s : Option Addr} {P P' : Hp} (h : Same P P') : ∀ (ds : List T) (vs : List V), Rps s P ds vs → Rps s P' ds vs
  | [], vs, r => by simpa only [Rps] using r
  | d :: ds, vs, r => by
    simp only [Rps] at r ⊢
    obtain ⟨v, q, e1, e2, e3⟩ := r
    exact ⟨v, q, e1, rp_same h d v e2, rps_same h ds q e3⟩
end
theorem rps_nil {s : Option Addr} {P : Hp} : Rps s P [] [] := by simp [Rps]
theorem rps_cons {s : Option Addr} {P : Hp} {d : T} {ds : List T} {v : V} {vs : List V} (h : Rp s P d v) (g : Rps s P ds vs) : Rps s P (d :: ds) (v :: vs) := by
  simp only [Rps]
  exact ⟨v, vs, rfl, h, g⟩
theorem rps_len {s : Option Addr} {P : Hp} : ∀ {ds : List T} {vs : List V}, Rps s P ds vs → vs.length = ds.length
  | [], vs, h => by
    simp only [Rps] at h
    rw [h]
    rfl
  | d :: ds, vs, h => by
    simp only [Rps] at h
    obtain ⟨v, r, e1, e2, e3⟩ := h
    rw [e1, List.length_cons, List.length_cons, rps_len e3]
theorem rps_at {s : Option Addr} {P : Hp} : ∀ {ds : List T} {vs : List V} {i : Nat} {d : T}, Rps s P ds vs → ds[i]? = some d → ∃ v, vs[i]? = some v ∧ Rp s P d v
  | [], vs, i, d, h, e => by simp at e
  | d0 :: ds, vs, 0, d, h, e => by
    simp only [Rps] at h
    obtain ⟨v, r, e1, e2, e3⟩ := h
    have e' : d0 = d := Option.some.inj e
    subst e' e1
    exact ⟨v, rfl, e2⟩
  | d0 :: ds, vs, i + 1, d, h, e => by
    simp only [Rps] at h
    obtain ⟨v, r, e1, e2, e3⟩ := h
    subst e1
    exact rps_at (i := i) e3 e
theorem rps_snoc {s : Option Addr} {P : Hp} : ∀ {ds : List T} {vs : List V} {d : T} {v : V}, Rps s P ds vs → Rp s P d v → Rps s P (ds ++ [d]) (vs ++ [v])
  | [], vs, d, v, h, g => by
    simp only [Rps] at h
    subst h
    exact rps_cons g rps_nil
  | d0 :: ds, vs, d, v, h, g => by
    simp only [Rps] at h
    obtain ⟨v0, r, rfl, e2, e3⟩ := h
    exact rps_cons e2 (rps_snoc e3 g)
theorem rps_app {s : Option Addr} {P : Hp} : ∀ {ds : List T} {vs : List V} {es : List T} {ws : List V}, Rps s P ds vs → Rps s P es ws → Rps s P (ds ++ es) (vs ++ ws)
  | [], vs, es, ws, h, g => by
    simp only [Rps] at h
    subst h
    exact g
  | d0 :: ds, vs, es, ws, h, g => by
    simp only [Rps] at h
    obtain ⟨v0, r, rfl, e2, e3⟩ := h
    exact rps_cons e2 (rps_app e3 g)
theorem rps_of {s : Option Addr} {P : Hp} : ∀ {ds : List T} {vs : List V}, ds.length = vs.length → (∀ (i : Nat) (d : T) (v : V), ds[i]? = some d → vs[i]? = some v → Rp s P d v) → Rps s P ds vs
  | [], [], _, _ => rps_nil
  | [], _ :: _, h, _ => nomatch h
  | _ :: _, [], h, _ => nomatch h
  | d :: ds, v :: vs, h, g => rps_cons (g 0 d v rfl rfl) (rps_of (Nat.succ.inj h) fun i e w h1 h2 => g (i + 1) e w h1 h2)
theorem rps_set {s : Option Addr} {P : Hp} : ∀ {ds : List T} {vs : List V} {d : T} {v : V} {i : Nat}, Rps s P ds vs → Rp s P d v → Rps s P (ds.set i d) (vs.set i v)
  | [], vs, d, v, i, h, g => by
    simp only [Rps] at h
    subst h
    exact rps_nil
  | d0 :: ds, vs, d, v, 0, h, g => by
    simp only [Rps] at h
    obtain ⟨v0, r, rfl, e2, e3⟩ := h
    exact rps_cons g e3
  | d0 :: ds, vs, d, v, i + 1, h, g => by
    simp only [Rps] at h
    obtain ⟨v0, r, rfl, e2, e3⟩ := h
    exact rps_cons e2 (rps_set (i := i) e3 g)
theorem rps_take {s : Option Addr} {P : Hp} : ∀ {ds : List T} {vs : List V} (n : Nat), Rps s P ds vs → Rps s P (ds.take n) (vs.take n)
  | ds, vs, 0, h => by
    rw [List.take_zero, List.take_zero]
    exact rps_nil
  | [], vs, n + 1, h => by
    simp only [Rps] at h
    subst h
    exact rps_nil
  | d0 :: ds, vs, n + 1, h => by
    simp only [Rps] at h
    obtain ⟨v0, r, rfl, e2, e3⟩ := h
    exact rps_cons e2 (rps_take n e3)
theorem rps_drop {s : Option Addr} {P : Hp} : ∀ {ds : List T} {vs : List V} (n : Nat), Rps s P ds vs → Rps s P (ds.drop n) (vs.drop n)
  | ds, vs, 0, h => h
  | [], vs, n + 1, h => by
    simp only [Rps] at h
    subst h
    exact rps_nil
  | d0 :: ds, vs, n + 1, h => by
    simp only [Rps] at h
    obtain ⟨v0, r, rfl, e2, e3⟩ := h
    exact rps_drop n e3
theorem rps_rev {s : Option Addr} {P : Hp} : ∀ {ds : List T} {vs : List V}, Rps s P ds vs → Rps s P ds.reverse vs.reverse
  | [], vs, h => by
    simp only [Rps] at h
    subst h
    exact rps_nil
  | d0 :: ds, vs, h => by
    simp only [Rps] at h
    obtain ⟨v0, r, rfl, e2, e3⟩ := h
    rw [List.reverse_cons, List.reverse_cons]
    exact rps_snoc (rps_rev e3) e2
theorem rps_ints {s : Option Addr} {P : Hp} : ∀ ns : List Int, Rps s P (ns.map T.int) (ns.map V.int)
  | [] => rps_nil
  | n :: ns => rps_cons (by simp [Rp]) (rps_ints ns)
/-- an item by its place, from either end -/
theorem rps_atI {s : Option Addr} {P : Hp} {ds : List T} {vs : List V} {i : Int} {d : T} (h : Rps s P ds vs) (e : atI ds i = some d) : ∃ v, atI vs i = some v ∧ Rp s P d v := by
  unfold atI at e ⊢
  rw [rps_len h]
  cases q : ixN ds.length i with
  | none => rw [q] at e; cases e
  | some j =>
    rw [q] at e
    exact rps_at h e
/-! ### the heap -/
structure WF (s : Option Addr) (P H : Hp) : Prop where
  sub : Same P H
  sto : ∀ a, s = some a → P a = none ∧ ∃ t, StOk P t ∧ H a = some (.lst (stV t))
structure Ext (s : Option Addr) (P H P' H' : Hp) : Prop where
  wf : WF s P' H'
  sub : Same P P'
  keep : ∀ a o, s ≠ some a → H a = some o → H' a = some o
  new : ∀ a, P a = none → P' a ≠ none → H a = none
  lst : ∀ a t t', s = some a → H a = some (.lst (stV t)) → H' a = some (.lst (stV t')) → t'.l = t.l
theorem st_inj {t t' : Sto} {x : Option HO} (h : x = some (.lst (stV t))) (g : x = some (.lst (stV t'))) : t'.l = t.l := by
  rw [h] at g
  unfold stV at g
  injection g with g
  injection g with g
  injection g with g _
  injection g with g
  exact g.symm
theorem Ext.refl {s : Option Addr} {P H : Hp} (w : WF s P H) : Ext s P H P H := ⟨w, Same.refl _, fun _ _ _ h => h, fun a h g => absurd h g, fun a t t' _ h g => st_inj h g⟩
theorem Ext.trans {s : Option Addr} {P H P1 H1 P2 H2 : Hp} (a : Ext s P H P1 H1) (b : Ext s P1 H1 P2 H2) : Ext s P H P2 H2 := by
  refine ⟨b.wf, a.sub.trans b.sub, fun c o hs h => b.keep c o hs (a.keep c o hs h), fun c h g => ?_, fun c t t' hs h g => ?_⟩
  rotate_left
  · obtain ⟨_, t1, _, h1⟩ := a.wf.sto c hs
    rw [b.lst c t1 t' hs h1 g, a.lst c t t1 hs h h1]
  cases e : P1 c with
  | some o => exact a.new c h (by rw [e]; exact fun z => nomatch z)
  | none =>
    have h1 := b.new c e g
    by_cases hs : s = some c
    · exact absurd (b.wf.sto c hs).1 g
    · cases e2 : H c with
      | none => rfl
      | some o =>
        rw [a.keep c o hs e2] at h1
        cases h1
/-- a new object of data -/
theorem ext_new {s : Option Addr} {P H : Hp} {p : Addr} {o : HO} (w : WF s P H) (hp : H p = none) : Ext s P H (upd P p o) (upd H p o) := by
  have pp : P p = none := w.sub.free hp
  refine ⟨⟨fun b x e => ?_, fun a ha => ?_⟩, same_new pp, fun a x _ e => ?_, fun a h g => ?_, fun a t t' _ h g => ?_⟩
  rotate_right
  · have z : a ≠ p := fun z => by
      rw [z, hp] at h
      cases h
    rw [upd_ne z] at g
    exact st_inj h g
  · by_cases z : b = p
    · subst z
      rw [upd_same] at e ⊢
      exact e
    · rw [upd_ne z] at e ⊢
      exact w.sub _ _ e
  · obtain ⟨h1, t, h2, h3⟩ := w.sto a ha
    have z : a ≠ p := fun z => by
      rw [z, hp] at h3
      cases h3
    exact ⟨by rw [upd_ne z]; exact h1, t, stok_same (same_new pp) h2, by rw [upd_ne z]; exact h3⟩
  · have z : a ≠ p := fun z => by
      rw [z, hp] at e
      cases e
    rw [upd_ne z]
    exact e
  · by_cases z : a = p
    · rw [z]
      exact hp
    · rw [upd_ne z] at g
      exact absurd h g
/-- a new object of one's own -/
theorem ext_own {s : Option Addr} {P H : Hp} {p : Addr} {o : HO} (w : WF s P H) (hp : H p = none) : Ext s P H P (upd H p o) := by
  have ne : ∀ {b x}, H b = some x → b ≠ p := fun {b x} e z => by
    rw [z, hp] at e
    cases e
  refine ⟨⟨fun b x e => ?_, fun a ha => ?_⟩, Same.refl _, fun a x _ e => ?_, fun a h g => absurd h g, fun a t t' _ h g => st_inj h (by rw [upd_ne (ne h)] at g; exact g)⟩
  · rw [upd_ne (ne (w.sub _ _ e))]
    exact w.sub _ _ e
  · obtain ⟨h1, t, h2, h3⟩ := w.sto a ha
    exact ⟨h1, t, h2, by rw [upd_ne (ne h3)]; exact h3⟩
  · rw [upd_ne (ne e)]
    exact e
/-! ### trees of one's own lists -/
inductive OT where
  | d (x : T) | lst (ts : List OT) | tup (ts : List OT)
mutual
def OtOk (s : Option Addr) (P H : Hp) : OT → List Addr → V → Prop
  | .d x, S, v => S = [] ∧ Rp s P x v
  | .lst ts, S, v => ∃ a vs S', v = .ref a ∧ S = a :: S' ∧ H a = some (.lst vs) ∧ OtsOk s P H ts S' vs ∧ ts.length < 1000000
  | .tup ts, S, v => ∃ a vs S', v = .ref a ∧ S = a :: S' ∧ H a = some (.tup vs) ∧ OtsOk s P H ts S' vs ∧ ts.length < 1000000
def OtsOk (s : Option Addr) (P H : Hp) : List OT → List Addr → List V → Prop
  | [], S, vs => S = [] ∧ vs = []
  | t :: ts, S, vs => ∃ S1 S2 v r, S = S1 ++ S2 ∧ vs = v :: r ∧ OtOk s P H t S1 v ∧ OtsOk s P H ts S2 r
end
mutual
/-- the tree as data -/
def OT.t : OT → T
  | .d x => x
  | .lst ts => .lst (OT.ts ts)
  | .tup ts => .tup (OT.ts ts)
def OT.ts : List OT → List T
  | [] => []
  | t :: r => t.t :: OT.ts r
end
theorem ots_len : ∀ ts : List OT, (OT.ts ts).length = ts.length
  | [] => by simp [OT.ts]
  | t :: r => by
    rw [OT.ts, List.length_cons, List.length_cons, ots_len r]
mutual
/-- a tree's lists stand in the heap -/
theorem ot_in {s : Option Addr} {P H : Hp} : ∀ {t : OT} {S : List Addr} {v : V}, OtOk s P H t S v → ∀ a, a ∈ S → ∃ o, H a = some o
  | .d x, S, v, h, a, ha => by
    simp only [OtOk] at h
    rw [h.1] at ha
    cases ha
  | .lst ts, S, v, h, a, ha => by
    simp only [OtOk] at h
    obtain ⟨b, vs, S', rfl, rfl, h1, h2, _⟩ := h
    rcases List.mem_cons.mp ha with rfl | ha
    · exact ⟨_, h1⟩
    · exact ots_in h2 a ha
  | .tup ts, S, v, h, a, ha => by
    simp only [OtOk] at h
    obtain ⟨b, vs, S', rfl, rfl, h1, h2, _⟩ := h
    rcases List.mem_cons.mp ha with rfl | ha
    · exact ⟨_, h1⟩
    · exact ots_in h2 a ha
theorem ots_in {s : Option Addr} {P H : Hp} : ∀ {ts : List OT} {S : List Addr} {vs : List V}, OtsOk s P H ts S vs → ∀ a, a ∈ S → ∃ o, H a = some o
  | [], S, vs, h, a, ha => by
    simp only [OtsOk] at h
    rw [h.1] at ha
    cases ha
  | t :: ts, S, vs, h, a, ha => by
    simp only [OtsOk] at h
    obtain ⟨S1, S2, v, r, rfl, rfl, h1, h2⟩ := h
    rcases List.mem_append.mp ha with ha | ha
    · exact ot_in h1 a ha
    · exact ots_in h2 a ha
end
mutual
/-- .. and stays, where its lists do -/
theorem ot_keep {s : Option Addr} {P H P' H' : Hp} (hp : Same P P') : ∀ {t : OT} {S : List Addr} {v : V}, (∀ a o, a ∈ S → H a = some o → H' a = some o) → OtOk s P H t S v → OtOk s P' H' t S v
  | .d x, S, v, hk, h => by
    simp only [OtOk] at h ⊢
    exact ⟨h.1, rp_same hp _ _ h.2⟩
  | .lst ts, S, v, hk, h => by
    simp only [OtOk] at h ⊢
    obtain ⟨b, vs, S', rfl, rfl, h1, h2, h3⟩ := h
    exact ⟨b, vs, S', rfl, rfl, hk _ _ (List.mem_cons_self ..) h1, ots_keep hp (fun a o ha => hk a o (List.mem_cons_of_mem _ ha)) h2, h3⟩
  | .tup ts, S, v, hk, h => by
    simp only [OtOk] at h ⊢
    obtain ⟨b, vs, S', rfl, rfl, h1, h2, h3⟩ := h
    exact ⟨b, vs, S', rfl, rfl, hk _ _ (List.mem_cons_self ..) h1, ots_keep hp (fun a o ha => hk a o (List.mem_cons_of_mem _ ha)) h2, h3⟩
theorem ots_keep {s : Option Addr} {P H P' H' : Hp} (hp : Same P P') : ∀ {ts : List OT} {S : List Addr} {vs : List V}, (∀ a o, a ∈ S → H a = some o → H' a = some o) → OtsOk s P H ts S vs → OtsOk s P' H' ts S vs
  | [], S, vs, hk, h => by
    simp only [OtsOk] at h ⊢
    exact h
  | t :: ts, S, vs, hk, h => by
    simp only [OtsOk] at h ⊢
    obtain ⟨S1, S2, v, r, rfl, rfl, h1, h2⟩ := h
    exact ⟨S1, S2, v, r, rfl, rfl, ot_keep hp (fun a o ha => hk a o (List.mem_append_left _ ha)) h1, ots_keep hp (fun a o ha => hk a o (List.mem_append_right _ ha)) h2⟩
end
/-- the heap P with what H has at S -/
def join (P H : Hp) (S : List Addr) : Hp := fun b => if b ∈ S then H b else P b
mutual
theorem ot_data {s : Option Addr} {P H Q : Hp} (hp : Same P Q) : ∀ {t : OT} {S : List Addr} {v : V}, (∀ a o, a ∈ S → H a = some o → Q a = some o) → OtOk s P H t S v → Rp s Q t.t v
  | .d x, S, v, hk, h => by
    simp only [OtOk] at h
    rw [OT.t]
    exact rp_same hp _ _ h.2
  | .lst ts, S, v, hk, h => by
    simp only [OtOk] at h
    obtain ⟨b, vs, S', rfl, rfl, h1, h2, h3⟩ := h
    rw [OT.t]
    simp only [Rp]
    exact ⟨b, vs, rfl, hk _ _ (List.mem_cons_self ..) h1, ots_data hp (fun a o ha => hk a o (List.mem_cons_of_mem _ ha)) h2, by rw [ots_len]; exact h3⟩
  | .tup ts, S, v, hk, h => by
    simp only [OtOk] at h
    obtain ⟨b, vs, S', rfl, rfl, h1, h2, h3⟩ := h
    rw [OT.t]
    simp only [Rp]
    exact ⟨b, vs, rfl, hk _ _ (List.mem_cons_self ..) h1, ots_data hp (fun a o ha => hk a o (List.mem_cons_of_mem _ ha)) h2, by rw [ots_len]; exact h3⟩
theorem ots_data {s : Option Addr} {P H Q : Hp} (hp : Same P Q) : ∀ {ts : List OT} {S : List Addr} {vs : List V}, (∀ a o, a ∈ S → H a = some o → Q a = some o) → OtsOk s P H ts S vs → Rps s Q (OT.ts ts) vs
  | [], S, vs, hk, h => by
    simp only [OtsOk] at h
    rw [OT.ts, h.2]
    exact rps_nil
  | t :: ts, S, vs, hk, h => by
    simp only [OtsOk] at h
    obtain ⟨S1, S2, v, r, rfl, rfl, h1, h2⟩ := h
    rw [OT.ts]
    exact rps_cons (ot_data hp (fun a o ha => hk a o (List.mem_append_left _ ha)) h1) (ots_data hp (fun a o ha => hk a o (List.mem_append_right _ ha)) h2)
end
/-! ### slots -/
inductive Sl where
  | d (x : T) | own (ds : List T) | ob (z C : Addr) (ns : List Str) (ds : List T) | tr (t : OT)
def Sl.mine : Sl → Bool
  | .d _ => false
  | _ => true
abbrev Env := List (Option Sl)
def SlOk (s : Option Addr) (H0 P H : Hp) (A : List Addr) (w : Option (Option V)) : Sl → Prop
  | .d t => ∃ v, w = some (some v) ∧ Rp s P t v
  | .own ds => ∃ a, A = [a] ∧ w = some (some (.ref a)) ∧ P a = none ∧ H0 a = none ∧ s ≠ some a ∧ ∃ vs, H a = some (.lst vs) ∧ Rps s P ds vs ∧ ds.length < 1000000
  | .ob z C ns ds => A = [z] ∧ w = some (some (.ref z)) ∧ P z = none ∧ H0 z = none ∧ s ≠ some z ∧ ∃ dx vs, H z = some (.ins C dx (ns.zip vs)) ∧ Rps s P ds vs ∧ ns.length = ds.length
  | .tr t => ∃ v, w = some (some v) ∧ A.Nodup ∧ (∀ a, a ∈ A → P a = none ∧ H0 a = none ∧ s ≠ some a) ∧ OtOk s P H t A v
/-- what is told of an own slot's addresses -/
theorem slok_mine {s : Option Addr} {H0 P H : Hp} {A : List Addr} {w : Option (Option V)} : ∀ {x : Sl}, x.mine = true → SlOk s H0 P H A w x → ∀ a, a ∈ A → P a = none ∧ H0 a = none ∧ s ≠ some a ∧ ∃ o, H a = some o
  | .own ds, _, ⟨b, hA, h1, h2, h3, h4, vs, h5, h6, h7⟩, a, ha => by
    rw [hA] at ha
    cases List.mem_singleton.mp ha
    exact ⟨h2, h3, h4, _, h5⟩
  | .ob z C ns ds, _, ⟨hA, h1, h2, h3, h4, dx, vs, h5, h6, h7⟩, a, ha => by
    rw [hA] at ha
    cases List.mem_singleton.mp ha
    exact ⟨h2, h3, h4, _, h5⟩
  | .tr t, _, ⟨v, h1, h2, h3, h4⟩, a, ha => ⟨(h3 a ha).1, (h3 a ha).2.1, (h3 a ha).2.2, ot_in h4 a ha⟩
def IsOwn (env : Env) (i : Nat) : Prop := ∃ x, env[i]? = some (some x) ∧ x.mine = true
structure Rel (s : Option Addr) (H0 P : Hp) (σ : L2.St) (H : Hp) (env : Env) : Prop where
  wf : WF s P H
  len : σ.length = env.length
  ex : ∃ ad : Nat → List Addr, (∀ i j a, IsOwn env i → IsOwn env j → a ∈ ad i → a ∈ ad j → i = j) ∧ ∀ i x, env[i]? = some (some x) → SlOk s H0 P H (ad i) (σ[i]?) x
/-- P grows away from the slot's own things, H keeps them -/
theorem slok_up {s : Option Addr} {H0 P H P' H' : Hp} {A : List Addr} {w : Option (Option V)} {x : Sl} (hp : Same P P') (hn : x.mine = true → ∀ a, a ∈ A → P' a = none) (hk : x.mine = true → ∀ a o, a ∈ A → H a = some o → H' a = some o) (h : SlOk s H0 P H A w x) : SlOk s H0 P' H' A w x := by
  cases x with
  | d t =>
    obtain ⟨v, h1, h2⟩ := h
    exact ⟨v, h1, rp_same hp _ _ h2⟩
  | own ds =>
    obtain ⟨a, hA, h1, h2, h3, h4, vs, h5, h6, h7⟩ := h
    have ha : a ∈ A := by rw [hA]; exact List.mem_singleton.mpr rfl
    exact ⟨a, hA, h1, hn rfl a ha, h3, h4, vs, hk rfl _ _ ha h5, rps_same hp _ _ h6, h7⟩
  | ob z C ns ds =>
    obtain ⟨hA, h1, h2, h3, h4, dx, vs, h5, h6, h7⟩ := h
    have ha : z ∈ A := by rw [hA]; exact List.mem_singleton.mpr rfl
    exact ⟨hA, h1, hn rfl z ha, h3, h4, dx, vs, hk rfl _ _ ha h5, rps_same hp _ _ h6, h7⟩
  | tr t =>
    obtain ⟨v, h1, h2, h3, h4⟩ := h
    exact ⟨v, h1, h2, fun a ha => ⟨hn rfl a ha, (h3 a ha).2⟩, ot_keep hp (fun a o ha => hk rfl a o ha) h4⟩
theorem slok_ext {s : Option Addr} {H0 P H P' H' : Hp} {A : List Addr} {w : Option (Option V)} {x : Sl} (e : Ext s P H P' H') (h : SlOk s H0 P H A w x) : SlOk s H0 P' H' A w x := by
  refine slok_up e.sub (fun m a ha => ?_) (fun m a o ha ho => e.keep _ _ (slok_mine m h a ha).2.2.1 ho) h
  obtain ⟨h2, h3, h4, o, h5⟩ := slok_mine m h a ha
  cases q : P' a with
  | none => rfl
  | some o =>
    have := e.new a h2 (by rw [q]; exact fun z => nomatch z)
    rw [h5] at this
    cases this
theorem Rel.ext {s : Option Addr} {H0 P H P' H' : Hp} {σ : L2.St} {env : Env} (r : Rel s H0 P σ H env) (e : Ext s P H P' H') : Rel s H0 P' σ H' env := by
  obtain ⟨ad, h1, h2⟩ := r.ex
  exact ⟨e.wf, r.len, ad, h1, fun i x hx => slok_ext e (h2 i x hx)⟩
theorem Rel.data {s : Option Addr} {H0 P H : Hp} {σ : L2.St} {env : Env} {i : Nat} {t : T} (r : Rel s H0 P σ H env) (h : env[i]? = some (some (.d t))) : ∃ v, σ[i]? = some (some v) ∧ Rp s P t v := by
  obtain ⟨ad, h1, h2⟩ := r.ex
  exact h2 i _ h
theorem own_set {env : Env} {i j : Nat} {y : Option Sl} (hy : ∀ x, y = some x → x.mine = false) : IsOwn (env.set i y) j → IsOwn env j ∧ j ≠ i := fun ⟨ds, e, m⟩ => by
  rw [List.getElem?_set] at e
  split at e
  · split at e
    · rw [Option.some.injEq] at e
      rw [hy _ e] at m
      cases m
    · cases e
  · rename_i hn
    exact ⟨⟨ds, e, m⟩, fun z => hn z.symm⟩
/-- a slot is given data -/
theorem Rel.put {s : Option Addr} {H0 P H : Hp} {σ : L2.St} {env : Env} {i : Nat} {t : T} {v : V} (r : Rel s H0 P σ H env) (h : Rp s P t v) : Rel s H0 P (σ.set i (some v)) H (env.set i (some (.d t))) := by
  obtain ⟨ad, h1, h2⟩ := r.ex
  have ow : ∀ {j}, IsOwn (env.set i (some (.d t))) j → IsOwn env j := fun {j} o => (own_set (fun x e => by cases e; rfl) o).1
  refine ⟨r.wf, by rw [List.length_set, List.length_set]; exact r.len, ad, fun j k a hj hk => h1 j k a (ow hj) (ow hk), fun j x e => ?_⟩
  rw [List.getElem?_set] at e ⊢
  by_cases z : i = j
  · subst z
    rw [if_pos rfl] at e ⊢
    by_cases l : i < env.length
    · rw [if_pos l] at e
      cases e
      rw [if_pos (by rw [r.len]; exact l)]
      exact ⟨v, rfl, h⟩
    · rw [if_neg l] at e
      cases e
  · rw [if_neg z] at e ⊢
    exact h2 j x e
/-- a slot is emptied -/
theorem Rel.drop {s : Option Addr} {H0 P H : Hp} {σ : L2.St} {env : Env} {i : Nat} {w : Option V} (r : Rel s H0 P σ H env) : Rel s H0 P (σ.set i w) H (env.set i none) := by
  obtain ⟨ad, h1, h2⟩ := r.ex
  have ow : ∀ {j}, IsOwn (env.set i none) j → IsOwn env j := fun {j} o => (own_set (fun x e => by cases e) o).1
  refine ⟨r.wf, by rw [List.length_set, List.length_set]; exact r.len, ad, fun j k a hj hk => h1 j k a (ow hj) (ow hk), fun j x e => ?_⟩
  rw [List.getElem?_set] at e ⊢
  by_cases z : i = j
  · subst z
    rw [if_pos rfl] at e
    split at e
    · cases e
    · cases e
  · rw [if_neg z] at e ⊢
    exact h2 j x e
/-- what is told of a slot, is told of it alone -/
theorem Rel.drop0 {s : Option Addr} {H0 P H : Hp} {σ : L2.St} {env : Env} {i : Nat} (r : Rel s H0 P σ H env) : Rel s H0 P σ H (env.set i none) := by
  obtain ⟨ad, h1, h2⟩ := r.ex
  have ow : ∀ {j}, IsOwn (env.set i none) j → IsOwn env j := fun {j} o => (own_set (fun x e => by cases e) o).1
  refine ⟨r.wf, by rw [List.length_set]; exact r.len, ad, fun j k a hj hk => h1 j k a (ow hj) (ow hk), fun j x e => ?_⟩
  rw [List.getElem?_set] at e
  by_cases z : i = j
  · subst z
    rw [if_pos rfl] at e
    split at e
    · cases e
    · cases e
  · rw [if_neg z] at e
    exact h2 j x e
/-- a slot is given something new of one's own -/
theorem Rel.putMine {s : Option Addr} {H0 P1 H1 P H : Hp} {σ : L2.St} {env : Env} {i : Nat} {y : Sl} {v : V} {S : List Addr} (r : Rel s H0 P1 σ H1 env) (e0 : Ext s P1 H1 P H) (hS : ∀ a, a ∈ S → H1 a = none) (hy : SlOk s H0 P H S (some (some v)) y) : Rel s H0 P (σ.set i (some v)) H (env.set i (some y)) := by
  obtain ⟨ad, h1, h2⟩ := r.ex
  have anp : ∀ {j a}, IsOwn env j → a ∈ ad j → a ∉ S := fun {j a} ⟨es, e, m⟩ ha z => by
    obtain ⟨_, _, _, o, h5⟩ := slok_mine m (h2 j _ e) a ha
    rw [hS a z] at h5
    cases h5
  have ow : ∀ {j}, j ≠ i → IsOwn (env.set i (some y)) j → IsOwn env j := fun {j} n ⟨ds, e, m⟩ => by
    rw [List.getElem?_set_ne (Ne.symm n)] at e
    exact ⟨_, e, m⟩
  refine ⟨e0.wf, by rw [List.length_set, List.length_set]; exact r.len, fun j => if j = i then S else ad j, fun j k a hj hk ej ek => ?_, fun j x e => ?_⟩
  · replace ej : a ∈ (if j = i then S else ad j) := ej
    replace ek : a ∈ (if k = i then S else ad k) := ek
    by_cases zj : j = i
    · by_cases zk : k = i
      · rw [zj, zk]
      · rw [if_pos zj] at ej
        rw [if_neg zk] at ek
        exact absurd ej (anp (ow zk hk) ek)
    · by_cases zk : k = i
      · rw [if_neg zj] at ej
        rw [if_pos zk] at ek
        exact absurd ek (anp (ow zj hj) ej)
      · rw [if_neg zj] at ej
        rw [if_neg zk] at ek
        exact h1 j k a (ow zj hj) (ow zk hk) ej ek
  · show SlOk _ _ _ _ (if j = i then S else ad j) _ _
    by_cases z : j = i
    · subst z
      rw [if_pos rfl]
      by_cases l : j < env.length
      · rw [List.getElem?_set_self (by omega)] at e
        cases e
        rw [List.getElem?_set_self (by rw [r.len]; exact l)]
        exact hy
      · rw [List.getElem?_eq_none (by rw [List.length_set]; omega)] at e
        cases e
    · rw [if_neg z]
      rw [List.getElem?_set_ne (Ne.symm z)] at e ⊢
      exact slok_ext e0 (h2 j x e)
/-- a slot is given a new list of one's own -/
theorem Rel.putOwn {s : Option Addr} {H0 P H : Hp} {σ : L2.St} {env : Env} {i : Nat} {ds : List T} {vs : List V} {p : Addr} (r : Rel s H0 P σ H env) (hp : H p = none) (h0 : H0 p = none) (h : Rps s P ds vs) (hl : ds.length < 1000000) : Rel s H0 P (σ.set i (some (.ref p))) (upd H p (.lst vs)) (env.set i (some (.own ds))) := by
  have isp : s ≠ some p := fun z => by
    obtain ⟨_, t, _, h3⟩ := r.wf.sto p z
    rw [hp] at h3
    cases h3
  exact r.putMine (S := [p]) (ext_own r.wf hp) (fun a ha => by cases List.mem_singleton.mp ha; exact hp) ⟨p, rfl, rfl, r.wf.sub.free hp, h0, isp, vs, upd_same, h, hl⟩
theorem Rel.own {s : Option Addr} {H0 P H : Hp} {σ : L2.St} {env : Env} {i : Nat} {ds : List T} (r : Rel s H0 P σ H env) (h : env[i]? = some (some (.own ds))) : ∃ a vs, σ[i]? = some (some (.ref a)) ∧ P a = none ∧ H0 a = none ∧ s ≠ some a ∧ H a = some (.lst vs) ∧ Rps s P ds vs ∧ ds.length < 1000000 := by
  obtain ⟨ad, h1, h2⟩ := r.ex
  obtain ⟨x, _, a, b, c, d, vs, e, f, g⟩ := h2 i _ h
  exact ⟨_, vs, a, b, c, d, e, f, g⟩
theorem Rel.tr {s : Option Addr} {H0 P H : Hp} {σ : L2.St} {env : Env} {i : Nat} {t : OT} (r : Rel s H0 P σ H env) (h : env[i]? = some (some (.tr t))) : ∃ v S, σ[i]? = some (some v) ∧ S.Nodup ∧ (∀ a, a ∈ S → P a = none ∧ H0 a = none ∧ s ≠ some a) ∧ OtOk s P H t S v := by
  obtain ⟨ad, h1, h2⟩ := r.ex
  obtain ⟨v, a, b, c, d⟩ := h2 i _ h
  exact ⟨v, _, a, b, c, d⟩
/-- one's own thing is changed: the heap H1 had all slots' things, H came of it, H' has changes at the slot's own addresses alone -/
theorem Rel.mod {s : Option Addr} {H0 P1 H1 P H H' : Hp} {σ : L2.St} {env : Env} {i : Nat} {x y : Sl} (r : Rel s H0 P1 σ H1 env) (e0 : Ext s P1 H1 P H) (h : env[i]? = some (some x)) (m : x.mine = true)
    (hy : ∀ A, SlOk s H0 P H A (σ[i]?) x → (∀ a, a ∈ A → ∃ o, H1 a = some o) → ∃ A', (∀ a, a ∈ A' → a ∈ A ∨ H1 a = none) ∧ (∀ b o, b ∉ A → H b = some o → H' b = some o) ∧ SlOk s H0 P H' A' (σ[i]?) y) :
    Rel s H0 P σ H' (env.set i (some y)) := by
  obtain ⟨ad, h1, h2⟩ := r.ex
  have hx := slok_ext e0 (h2 i _ h)
  obtain ⟨A', g1, g2, g3⟩ := hy _ hx fun a ha => (slok_mine m (h2 i _ h) a ha).2.2.2
  have il : i < env.length := (List.getElem?_eq_some_iff.mp h).1
  have nx := slok_mine m hx
  have ow : ∀ {j}, j ≠ i → IsOwn (env.set i (some y)) j → IsOwn env j := fun {j} n ⟨fs, e, mm⟩ => by
    rw [List.getElem?_set_ne (Ne.symm n)] at e
    exact ⟨_, e, mm⟩
  have apart : ∀ {j a}, j ≠ i → IsOwn env j → a ∈ ad j → a ∉ A' := fun {j a} n hj ha z => by
    rcases g1 a z with z | z
    · exact n (h1 j i a hj ⟨x, h, m⟩ ha z)
    · obtain ⟨w, e, mm⟩ := hj
      obtain ⟨_, _, _, o, h5⟩ := slok_mine mm (h2 j _ e) a ha
      rw [z] at h5
      cases h5
  have nP : ∀ {b o}, P b = some o → b ∉ ad i := fun {b o} e z => by
    rw [(nx b z).1] at e
    cases e
  refine ⟨⟨fun b o e => g2 b o (nP e) (e0.wf.sub _ _ e), fun b hb => ?_⟩, by rw [List.length_set]; exact r.len, fun j => if j = i then A' else ad j, fun j k a hj hk ej ek => ?_, fun j x' e => ?_⟩
  · obtain ⟨k1, t, k2, k3⟩ := e0.wf.sto b hb
    exact ⟨k1, t, k2, g2 b _ (fun z => (nx b z).2.2.1 hb) k3⟩
  · replace ej : a ∈ (if j = i then A' else ad j) := ej
    replace ek : a ∈ (if k = i then A' else ad k) := ek
    by_cases zj : j = i
    · by_cases zk : k = i
      · rw [zj, zk]
      · rw [if_pos zj] at ej
        rw [if_neg zk] at ek
        exact absurd ej (apart zk (ow zk hk) ek)
    · by_cases zk : k = i
      · rw [if_neg zj] at ej
        rw [if_pos zk] at ek
        exact absurd ek (apart zj (ow zj hj) ej)
      · rw [if_neg zj] at ej
        rw [if_neg zk] at ek
        exact h1 j k a (ow zj hj) (ow zk hk) ej ek
  · show SlOk _ _ _ _ (if j = i then A' else ad j) _ _
    by_cases z : j = i
    · subst z
      rw [if_pos rfl]
      rw [List.getElem?_set_self il] at e
      cases e
      exact g3
    · rw [if_neg z]
      rw [List.getElem?_set_ne (Ne.symm z)] at e
      have g := slok_ext e0 (h2 j x' e)
      exact slok_up (Same.refl _) (fun mm a ha => (slok_mine mm g a ha).1) (fun mm a o ha ho => g2 a o (fun zz => z (h1 j i a ⟨_, e, mm⟩ ⟨_, h, m⟩ ha zz)) ho) g
/-- one's own thing is changed -/
theorem Rel.changeO {s : Option Addr} {H0 P H : Hp} {σ : L2.St} {env : Env} {i : Nat} {x y : Sl} {o : HO} {a : Addr} (r : Rel s H0 P σ H env) (h : env[i]? = some (some x)) (m : x.mine = true) (ha : ∀ A, SlOk s H0 P H A (σ[i]?) x → A = [a])
    (hy : ∀ A w, A = [a] → SlOk s H0 P H A w x → SlOk s H0 P (upd H a o) A w y) :
    Rel s H0 P σ (upd H a o) (env.set i (some y)) :=
  r.mod (Ext.refl r.wf) h m fun A hA _ => ⟨A, fun b hb => Or.inl hb, fun b p hb hp => by
    rw [ha A hA] at hb
    rw [upd_ne (fun z => hb (List.mem_singleton.mpr z))]
    exact hp, hy A _ (ha A hA) hA⟩
/-- one's own list is changed -/
theorem Rel.change {s : Option Addr} {H0 P H : Hp} {σ : L2.St} {env : Env} {i : Nat} {ds es : List T} {ws : List V} {a : Addr} (r : Rel s H0 P σ H env) (h : env[i]? = some (some (.own ds))) (ha : σ[i]? = some (some (.ref a))) (hw : Rps s P es ws) (hl : es.length < 1000000) :
    Rel s H0 P σ (upd H a (.lst ws)) (env.set i (some (.own es))) :=
  r.changeO h rfl (fun A hA => by
    obtain ⟨b, e1, e2, _⟩ := hA
    rw [ha] at e2
    cases e2
    exact e1) fun A w eA hA => by
    obtain ⟨b, e1, e2, e3, e4, e5, _⟩ := hA
    rw [e1] at eA
    cases eA
    exact ⟨a, e1, e2, e3, e4, e5, ws, upd_same, hw, hl⟩
/-- one's own object is changed -/
theorem Rel.changeB {s : Option Addr} {H0 P H : Hp} {σ : L2.St} {env : Env} {i : Nat} {C C' dx : Addr} {ns ms : List Str} {ds es : List T} {ws : List V} {a : Addr} (r : Rel s H0 P σ H env) (h : env[i]? = some (some (.ob a C ns ds))) (ha : σ[i]? = some (some (.ref a))) (hw : Rps s P es ws) (hl : ms.length = es.length) :
    Rel s H0 P σ (upd H a (.ins C' dx (ms.zip ws))) (env.set i (some (.ob a C' ms es))) :=
  r.changeO h rfl (fun A hA => hA.1) fun A w eA hA => by
    obtain ⟨e1, e2, e3, e4, e5, _⟩ := hA
    exact ⟨e1, e2, e3, e4, e5, dx, ws, upd_same, hw, hl⟩
theorem Rel.ob {s : Option Addr} {H0 P H : Hp} {σ : L2.St} {env : Env} {i : Nat} {a C : Addr} {ns : List Str} {ds : List T} (r : Rel s H0 P σ H env) (h : env[i]? = some (some (.ob a C ns ds))) : ∃ dx vs, σ[i]? = some (some (.ref a)) ∧ P a = none ∧ H0 a = none ∧ s ≠ some a ∧ H a = some (.ins C dx (ns.zip vs)) ∧ Rps s P ds vs ∧ ns.length = ds.length := by
  obtain ⟨ad, h1, h2⟩ := r.ex
  obtain ⟨_, b, c, d, e, dx, vs, f, g, j⟩ := h2 i _ h
  exact ⟨dx, vs, b, c, d, e, f, g, j⟩
/-- the heap is changed at places that are nobody's but this run's -/
theorem ext_mod {s : Option Addr} {P0 H0 P H H' : Hp} {A : List Addr} (e : Ext s P0 H0 P H) (hA : ∀ a, a ∈ A → P a = none ∧ H0 a = none ∧ s ≠ some a) (hk : ∀ b o, b ∉ A → H b = some o → H' b = some o) : Ext s P0 H0 P H' := by
  refine ⟨⟨fun b x g => hk b x (fun z => by rw [(hA b z).1] at g; cases g) (e.wf.sub _ _ g), fun b hb => ?_⟩, e.sub, fun b x hb g => hk b x (fun z => by rw [(hA b z).2.1] at g; cases g) (e.keep b x hb g), e.new, fun a t t' hs h g => ?_⟩
  rotate_right
  · obtain ⟨_, t1, _, h1⟩ := e.wf.sto a hs
    have g1 := hk a _ (fun z => (hA a z).2.2 hs) h1
    rw [st_inj g1 g]
    exact e.lst a t t1 hs h h1
  obtain ⟨g1, t, g2, g3⟩ := e.wf.sto b hb
  exact ⟨g1, t, g2, hk b _ (fun z => (hA b z).2.2 hb) g3⟩
theorem ext_change {s : Option Addr} {P0 H0 P H : Hp} {a : Addr} {o : HO} (e : Ext s P0 H0 P H) (hP : P a = none) (h0 : H0 a = none) (hs : s ≠ some a) : Ext s P0 H0 P (upd H a o) :=
  ext_mod (A := [a]) e (fun b hb => by cases List.mem_singleton.mp hb; exact ⟨hP, h0, hs⟩) fun b p hb hp => by
    rw [upd_ne (fun z => hb (List.mem_singleton.mpr z))]
    exact hp
def frz (env : Env) (i : Nat) : Env := match env[i]? with
  | some (some (.own ds)) => env.set i (some (.d (.lst ds)))
  | some (some (.ob _ C ns ds)) => env.set i (some (.d (.obj C ns ds)))
  | some (some (.tr t)) => env.set i (some (.d t.t))
  | _ => env
/-- one's own thing becomes data: P grows by it -/
theorem Rel.frzA {s : Option Addr} {H0 P H : Hp} {σ : L2.St} {env : Env} {i : Nat} {x : Sl} {t : T} (r : Rel s H0 P σ H env) (h : env[i]? = some (some x)) (m : x.mine = true)
    (ht : ∀ P' A v, Same P P' → SlOk s H0 P H A (some (some v)) x → (∀ a o, a ∈ A → H a = some o → P' a = some o) → Rp s P' t v) :
    ∃ A, (∀ a, a ∈ A → P a = none ∧ H0 a = none ∧ s ≠ some a) ∧ WF s (join P H A) H ∧ Same P (join P H A) ∧ Rel s H0 (join P H A) σ H (env.set i (some (.d t))) := by
  obtain ⟨ad, h1, h2⟩ := r.ex
  have hx := h2 i _ h
  have nx := slok_mine m hx
  have il : i < env.length := (List.getElem?_eq_some_iff.mp h).1
  have sP : Same P (join P H (ad i)) := fun b o e => by
    unfold join
    rw [if_neg (fun z => by rw [(nx b z).1] at e; cases e)]
    exact e
  have wf : WF s (join P H (ad i)) H := by
    refine ⟨fun b o g => ?_, fun b hb => ?_⟩
    · unfold join at g
      by_cases z : b ∈ ad i
      · rw [if_pos z] at g
        exact g
      · rw [if_neg z] at g
        exact r.wf.sub _ _ g
    · obtain ⟨g1, t, g2, g3⟩ := r.wf.sto b hb
      refine ⟨?_, t, stok_same sP g2, g3⟩
      unfold join
      rw [if_neg (fun z => (nx b z).2.2.1 hb)]
      exact g1
  refine ⟨ad i, fun a ha => ⟨(nx a ha).1, (nx a ha).2.1, (nx a ha).2.2.1⟩, wf, sP, wf, by rw [List.length_set]; exact r.len, ad, fun j k a hj hk => ?_, fun j x' e => ?_⟩
  · exact h1 j k a (own_set (fun x e => by cases e; rfl) hj).1 (own_set (fun x e => by cases e; rfl) hk).1
  · by_cases z : j = i
    · subst z
      rw [List.getElem?_set_self il] at e
      cases e
      have wv : ∃ v, σ[j]? = some (some v) := by
        cases x with
        | d _ => cases m
        | own ds => exact ⟨_, hx.choose_spec.2.1⟩
        | ob z C ns ds => exact ⟨_, hx.2.1⟩
        | tr t => exact ⟨_, hx.choose_spec.1⟩
      obtain ⟨v, hv⟩ := wv
      rw [hv] at hx ⊢
      exact ⟨v, rfl, ht _ _ v sP hx fun a o ha ho => by
        unfold join
        rw [if_pos ha]
        exact ho⟩
    · rw [List.getElem?_set_ne (Ne.symm z)] at e
      have g := h2 j x' e
      refine slok_up sP (fun mm a ha => ?_) (fun mm a o ha ho => ho) g
      unfold join
      rw [if_neg (fun zz => z (h1 j i a ⟨_, e, mm⟩ ⟨_, h, m⟩ ha zz))]
      exact (slok_mine mm g a ha).1
theorem Rel.frzO {s : Option Addr} {P0 H0 P H : Hp} {σ : L2.St} {env : Env} {i : Nat} {x : Sl} {t : T} (r : Rel s H0 P σ H env) (e0 : Ext s P0 H0 P H) (h : env[i]? = some (some x)) (m : x.mine = true)
    (ht : ∀ P' A v, Same P P' → SlOk s H0 P H A (some (some v)) x → (∀ a o, a ∈ A → H a = some o → P' a = some o) → Rp s P' t v) :
    ∃ P', Same P P' ∧ Ext s P0 H0 P' H ∧ Rel s H0 P' σ H (env.set i (some (.d t))) := by
  obtain ⟨A, hA, wf, sP, re⟩ := r.frzA h m ht
  refine ⟨_, sP, ⟨wf, e0.sub.trans sP, e0.keep, fun b hb g => ?_, e0.lst⟩, re⟩
  unfold join at g
  by_cases z : b ∈ A
  · exact (hA b z).2.1
  · rw [if_neg z] at g
    exact e0.new b hb g
theorem frz_own {s : Option Addr} {H0 P H P' : Hp} {A : List Addr} {v : V} {ds : List T} (sP : Same P P') (g : SlOk s H0 P H A (some (some v)) (.own ds)) (hk : ∀ a o, a ∈ A → H a = some o → P' a = some o) : Rp s P' (.lst ds) v := by
  obtain ⟨a, eA, ev, _, _, _, vs, q5, q6, q7⟩ := g
  cases ev
  simp only [Rp]
  exact ⟨_, vs, rfl, hk _ _ (by rw [eA]; exact List.mem_singleton.mpr rfl) q5, rps_same sP _ _ q6, q7⟩
theorem frz_ob {s : Option Addr} {H0 P H P' : Hp} {A : List Addr} {v : V} {z C : Addr} {ns : List Str} {ds : List T} (sP : Same P P') (g : SlOk s H0 P H A (some (some v)) (.ob z C ns ds)) (hk : ∀ a o, a ∈ A → H a = some o → P' a = some o) : Rp s P' (.obj C ns ds) v := by
  obtain ⟨eA, ev, _, _, _, dx, vs, q5, q6, q7⟩ := g
  cases ev
  simp only [Rp]
  exact ⟨_, dx, vs, rfl, hk _ _ (by rw [eA]; exact List.mem_singleton.mpr rfl) q5, rps_same sP _ _ q6, q7⟩
theorem frz_tr {s : Option Addr} {H0 P H P' : Hp} {A : List Addr} {v : V} {t : OT} (sP : Same P P') (g : SlOk s H0 P H A (some (some v)) (.tr t)) (hk : ∀ a o, a ∈ A → H a = some o → P' a = some o) : Rp s P' t.t v := by
  obtain ⟨u, ev, _, _, q⟩ := g
  cases ev
  exact ot_data sP hk q
/-- one's own list, object, tree becomes data -/
theorem Rel.frz {s : Option Addr} {P0 H0 P H : Hp} {σ : L2.St} {env : Env} (i : Nat) (r : Rel s H0 P σ H env) (e0 : Ext s P0 H0 P H) : ∃ P', Same P P' ∧ Ext s P0 H0 P' H ∧ Rel s H0 P' σ H (frz env i) := by
  unfold Mt.frz
  split
  · rename_i ds h
    exact r.frzO e0 h rfl fun P' A v sP g hk => frz_own sP g hk
  · rename_i z C ns ds h
    exact r.frzO e0 h rfl fun P' A v sP g hk => frz_ob sP g hk
  · rename_i t h
    exact r.frzO e0 h rfl fun P' A v sP g hk => frz_tr sP g hk
  · exact ⟨P, Same.refl _, e0, r⟩
/-- .. for a while: all that is new in it is left away again -/
theorem Rel.lend {s : Option Addr} {H0 P H : Hp} {σ : L2.St} {env : Env} (i : Nat) (r : Rel s H0 P σ H env) : ∃ Q, Rel s H0 Q σ H (Mt.frz env i) ∧ Same P Q ∧ (∀ b, P b = none → Q b ≠ none → H0 b = none) := by
  have go : ∀ {x : Sl} {t : T}, env[i]? = some (some x) → x.mine = true → (∀ P' A v, Same P P' → SlOk s H0 P H A (some (some v)) x → (∀ a o, a ∈ A → H a = some o → P' a = some o) → Rp s P' t v) → ∃ Q, Rel s H0 Q σ H (env.set i (some (.d t))) ∧ Same P Q ∧ (∀ b, P b = none → Q b ≠ none → H0 b = none) := fun {x t} h m ht => by
    obtain ⟨A, hA, wf, sP, re⟩ := r.frzA h m ht
    refine ⟨_, re, sP, fun b hb g => ?_⟩
    unfold join at g
    by_cases z : b ∈ A
    · exact (hA b z).2.1
    · rw [if_neg z] at g
      exact absurd hb g
  unfold Mt.frz
  split
  · rename_i ds h
    exact go h rfl fun P' A v sP g hk => frz_own sP g hk
  · rename_i z C ns ds h
    exact go h rfl fun P' A v sP g hk => frz_ob sP g hk
  · rename_i t h
    exact go h rfl fun P' A v sP g hk => frz_tr sP g hk
  · exact ⟨P, r, Same.refl _, fun b hb g => absurd hb g⟩
/-- what came of the lent heap, seen from the heap ahead -/
theorem ext_lent {s : Option Addr} {P H Q P' H' : Hp} (w : WF s P H) (sq : Same P Q) (e : Ext s Q H P' H') : Ext s P H P H' := by
  refine ⟨⟨fun b o g => e.wf.sub _ _ (e.sub _ _ (sq _ _ g)), fun b hb => ?_⟩, Same.refl _, e.keep, fun b hb g => absurd hb g, e.lst⟩
  obtain ⟨g1, t, g2, g3⟩ := e.wf.sto b hb
  obtain ⟨k1, t0, k2, k3⟩ := w.sto b hb
  have el := e.lst b t0 t hb k3 g3
  refine ⟨k1, t, ⟨?_, g2.i0, g2.il, g2.g0, g2.gi⟩, g3⟩
  have h1 := e.sub _ _ (sq _ _ k2.at_)
  have h2 := g2.at_
  rw [el] at h2 ⊢
  rw [h1] at h2
  rw [← h2]
  exact k2.at_
/-! ### errors -/
inductive Ec where
  | bn | bs | be | bt | tl | cl
inductive Ex where
  | arg (c : Ec) (pl : T) | ni | nm | en
def Ec.attr : Ec → Str
  | .bn => "argument" | .bs => "argument" | .be => "argument" | .bt => "line" | .tl => "bound" | .cl => "moment"
def Ec.adr (A : Ad) : Ec → Addr
  | .bn => A.bn | .bs => A.bs | .be => A.be | .bt => A.bt | .tl => A.tl | .cl => A.cl
/-- the error as the heap has it -/
def ExAt (A : Ad) (s : Option Addr) (P H : Hp) : Ex → Value → Option Addr → Prop
  | .arg c pl, C, d => C = .ref (c.adr A) ∧ ∃ dd v, d = some dd ∧ H dd = some (.xd [(c.attr, v)]) ∧ Rp s P pl v
  | .ni, C, d => C = .ref A.ni ∧ d = none
  | .nm, C, d => C = .ref A.nm ∧ d = none
  | .en, C, d => C = .ref A.en ∧ d = none
/-- what the context says of errors, here -/
def XC (A : Ad) (s : Option Addr) (P : Hp) (σ : L2.St) (H : Hp) (E : L2.St → XK) (XA : Ex → Prop) : Prop :=
  ∀ P' H' x C d, Ext s P H P' H' → XA x → ExAt A s P' H' x C d → E σ C d H'
theorem XC.ext {A : Ad} {s : Option Addr} {P H P' H' : Hp} {σ : L2.St} {E : L2.St → XK} {XA : Ex → Prop} (h : XC A s P σ H E XA) (e : Ext s P H P' H') : XC A s P' σ H' E XA := fun P2 H2 x C d e2 => h P2 H2 x C d (e.trans e2)
abbrev Ct := List T → (T → Prop) → (Ex → Prop) → Prop
/-- a def's contract over data -/
def SpU (A : Ad) (n : Nat) (c : Ct) : Sp := fun vs H Q E => ∃ s P ds k EA, WF s P H ∧ Rps s P ds vs ∧ ds.length = n ∧ c ds k EA ∧ (∀ P' H' v d, Ext s P H P' H' → Rp s P' d v → k d → Q v H') ∧ (∀ P' H' x C d, Ext s P H P' H' → EA x → ExAt A s P' H' x C d → E C d H')
theorem SpU.len {A : Ad} {n : Nat} {c : Ct} {vs : List V} {H : Hp} {Q : VK} {E : XK} (h : SpU A n c vs H Q E) : vs.length = n := by
  obtain ⟨s, P, ds, k, EA, _, h2, h3, _⟩ := h
  rw [rps_len h2, h3]
end Mt
/-! ### expressions over data -/
namespace Mt
open PySem PySem.Spec PyProof.Rows L2 L2H
abbrev ME := (Ex → Prop) → Env → (T → Prop) → Prop
abbrev MA := (Ex → Prop) → Env → (List T → Prop) → Prop
abbrev MT := (Ex → Prop) → Env → (Bool → Prop) → Prop
abbrev EK := L2.St → XK
section
variable (A : Ad) (E : EK)
def RE (te : TE) (me : ME) : Prop := ∀ s H0 P σ H env XA k Q, Rel s H0 P σ H env → XC A s P σ H E XA → me XA env k → (∀ P' H' v d, Ext s P H P' H' → Rp s P' d v → k d → Q v H') → te σ H Q
def RA (te : TA) (me : MA) : Prop := ∀ s H0 P σ H env XA k (Q : List V → Hp → Prop), Rel s H0 P σ H env → XC A s P σ H E XA → me XA env k → (∀ P' H' vs ds, Ext s P H P' H' → Rps s P' ds vs → k ds → Q vs H') → te σ H Q
def RT (te : TT) (me : MT) : Prop := ∀ s H0 P σ H env XA k (Q : Bool → Hp → Prop), Rel s H0 P σ H env → XC A s P σ H E XA → me XA env k → (∀ P' H' b, Ext s P H P' H' → k b → Q b H') → te σ H Q
end
def ROp (r : R2) (o : T → T → (T → Prop) → Prop) : Prop := ∀ s P H x y d e k Q, WF s P H → Rp s P d x → Rp s P e y → o d e k → (∀ P' H' v t, Ext s P H P' H' → Rp s P' t v → k t → Q v H') → r x y H Q
def RUn (r : V → Hp → VK → Prop) (o : T → (T → Prop) → Prop) : Prop := ∀ s P H x d k Q, WF s P H → Rp s P d x → o d k → (∀ P' H' v t, Ext s P H P' H' → Rp s P' t v → k t → Q v H') → r x H Q
def RCB (r : List V → Hp → VK → Prop) (o : List T → (T → Prop) → Prop) : Prop := ∀ s P H vs ds k Q, WF s P H → Rps s P ds vs → o ds k → (∀ P' H' v t, Ext s P H P' H' → Rp s P' t v → k t → Q v H') → r vs H Q
section
variable {A : Ad} {E : EK} {te ta tb tc : TE} {me ma mb mc : ME} {t u : TT} {mt mu : MT} {aa ar : TA} {am : MA} {K : PySem.W.Frag}
/-! the parts' words -/
def mVar (i : Nat) : ME := fun XA env k => ∃ d, env[i]? = some (some (.d d)) ∧ k d
theorem re_var {i : Nat} : RE A E (tVar i) (mVar i) := fun s H0 P σ H env XA k Q r x h q => by
  obtain ⟨d, h1, h2⟩ := h
  obtain ⟨v, g1, g2⟩ := r.data h1
  exact ⟨v, g1, q P H v d (Ext.refl r.wf) g2 h2⟩
def mC (d : T) : ME := fun _ _ k => k d
theorem re_c {v : V} {d : T} (h : ∀ s P, Rp s P d v) : RE A E (tC v) (mC d) := fun s H0 P σ H env XA k Q r x hk q => q P H v d (Ext.refl r.wf) (h s P) hk
theorem re_int {i : Int} : RE A E (tC (.int i)) (mC (.int i)) := re_c fun _ _ => by simp [Rp]
theorem re_bl {i : Bool} : RE A E (tC (.bl i)) (mC (.bl i)) := re_c fun _ _ => by simp [Rp]
theorem re_str {i : Str} : RE A E (tC (.str i)) (mC (.str i)) := re_c fun _ _ => by simp [Rp]
theorem re_non : RE A E (tC .non) (mC .non) := re_c fun _ _ => by simp [Rp]
theorem re_ty {n : String} : RE A E (tC (.ty n)) (mC (.ty n)) := re_c fun _ _ => by simp [Rp]
def mOp (o : T → T → (T → Prop) → Prop) (ma mb : ME) : ME := fun XA env k => ma XA env fun d => mb XA env fun e => o d e k
theorem re_op {r : R2} {o : T → T → (T → Prop) → Prop} (ho : ROp r o) (ha : RE A E ta ma) (hb : RE A E tb mb) : RE A E (tOp r ta tb) (mOp o ma mb) := fun s H0 P σ H env XA k Q re x h q =>
  ha s H0 P σ H env XA _ _ re x h fun P1 H1 v d e1 r1 h1 => hb s H0 P1 σ H1 env XA _ _ (re.ext e1) (x.ext e1) h1 fun P2 H2 w e e2 r2 h2 =>
    ho s P2 H2 v w d e k Q e2.wf (rp_same e2.sub _ _ r1) r2 h2 fun P3 H3 z t e3 r3 h3 => q P3 H3 z t (e1.trans (e2.trans e3)) r3 h3
def mUn (o : T → (T → Prop) → Prop) (ma : ME) : ME := fun XA env k => ma XA env fun d => o d k
theorem re_un {r : V → Hp → VK → Prop} {o : T → (T → Prop) → Prop} (ho : RUn r o) (ha : RE A E ta ma) : RE A E (tUn r ta) (mUn o ma) := fun s H0 P σ H env XA k Q re x h q =>
  ha s H0 P σ H env XA _ _ re x h fun P1 H1 v d e1 r1 h1 => ho s P1 H1 v d k Q e1.wf r1 h1 fun P3 H3 z t e3 r3 h3 => q P3 H3 z t (e1.trans e3) r3 h3
/-! arguments -/
def mNil : MA := fun _ _ k => k []
theorem ra_nil : RA A E tNil mNil := fun s H0 P σ H env XA k Q re x h q => q P H [] [] (Ext.refl re.wf) rps_nil h
def mCons (ma : ME) (am : MA) : MA := fun XA env k => ma XA env fun d => am XA env fun ds => k (d :: ds)
theorem ra_cons (ha : RE A E ta ma) (hr : RA A E ar am) : RA A E (tCons ta ar) (mCons ma am) := fun s H0 P σ H env XA k Q re x h q =>
  ha s H0 P σ H env XA _ _ re x h fun P1 H1 v d e1 r1 h1 => hr s H0 P1 σ H1 env XA _ _ (re.ext e1) (x.ext e1) h1 fun P2 H2 vs ds e2 r2 h2 => q P2 H2 (v :: vs) (d :: ds) (e1.trans e2) (rps_cons (rp_same e2.sub _ _ r1) r2) h2
def mTup (am : MA) : ME := fun XA env k => am XA env fun ds => ds.length < 1000 ∧ k (.tup ds)
def mLst (am : MA) : ME := fun XA env k => am XA env fun ds => ds.length < 1000 ∧ k (.lst ds)
theorem size_line {n : Nat} (h : n < 1000000) : n ≤ sizeLine := by
  rw [sizeLine_eq]
  omega
theorem re_tup (ha : RA A E aa am) : RE A E (tTup aa) (mTup am) := fun s H0 P σ H env XA k Q re x h q =>
  ha s H0 P σ H env XA _ _ re x h fun P1 H1 vs ds e1 r1 ⟨h1, h2⟩ => ⟨size_line (by rw [rps_len r1]; omega), fun p hp => by
    have e2 := ext_new (o := .tup vs) e1.wf hp
    refine q _ _ _ (.tup ds) (e1.trans e2) ?_ h2
    simp only [Rp]
    exact ⟨p, vs, rfl, upd_same, rps_same e2.sub _ _ r1, by omega⟩⟩
theorem re_lst (ha : RA A E aa am) : RE A E (tLst aa) (mLst am) := fun s H0 P σ H env XA k Q re x h q =>
  ha s H0 P σ H env XA _ _ re x h fun P1 H1 vs ds e1 r1 ⟨h1, h2⟩ => ⟨size_line (by rw [rps_len r1]; omega), fun p hp => by
    have e2 := ext_new (o := .lst vs) e1.wf hp
    refine q _ _ _ (.lst ds) (e1.trans e2) ?_ h2
    simp only [Rp]
    exact ⟨p, vs, rfl, upd_same, rps_same e2.sub _ _ r1, by omega⟩⟩
/-! calls -/
def mCall (n : Nat) (c : Ct) (am : MA) : ME := fun XA env k => am XA env fun ds => ds.length = n ∧ c ds k fun _ => False
def mCallX (n : Nat) (c : Ct) (am : MA) : ME := fun XA env k => am XA env fun ds => ds.length = n ∧ c ds k XA
theorem re_call {n : Nat} {c : Ct} (ha : RA A E aa am) : RE A E (tCall (SpU A n c) [] E0 aa) (mCall n c am) := fun s H0 P σ H env XA k Q re x h q =>
  ha s H0 P σ H env XA _ _ re x h fun P1 H1 vs ds e1 r1 ⟨h1, h2⟩ => by
    show SpU A n c (vs ++ []) H1 Q E0
    rw [List.append_nil]
    exact ⟨s, P1, ds, k, _, e1.wf, r1, h1, h2, fun P' H' v d e2 r2 h3 => q P' H' v d (e1.trans e2) r2 h3, fun _ _ _ _ _ _ z => z.elim⟩
theorem re_callX {n : Nat} {c : Ct} (ha : RA A E aa am) : RE A E (tCallS (SpU A n c) E aa) (mCallX n c am) := fun s H0 P σ H env XA k Q re x h q =>
  ha s H0 P σ H env XA _ _ re x h fun P1 H1 vs ds e1 r1 ⟨h1, h2⟩ =>
    ⟨s, P1, ds, k, XA, e1.wf, r1, h1, h2, fun P' H' v d e2 r2 h3 => q P' H' v d (e1.trans e2) r2 h3, fun P' H' z C d e2 h3 h4 => x P' H' z C d (e1.trans e2) h3 h4⟩
def mCB (o : List T → (T → Prop) → Prop) (am : MA) : ME := fun XA env k => am XA env fun ds => o ds k
theorem re_cb {r : List V → Hp → VK → Prop} {o : List T → (T → Prop) → Prop} (ho : RCB r o) (ha : RA A E aa am) : RE A E (tCB r aa) (mCB o am) := fun s H0 P σ H env XA k Q re x h q =>
  ha s H0 P σ H env XA _ _ re x h fun P1 H1 vs ds e1 r1 h1 => ho s P1 H1 vs ds k Q e1.wf r1 h1 fun P3 H3 z t e3 r3 h3 => q P3 H3 z t (e1.trans e3) r3 h3
/-! tests and truth values -/
def isB (d : T) (k : Bool → Prop) : Prop := ∃ b, d = .bl b ∧ k b
def mTest (me : ME) : MT := fun XA env k => me XA env fun d => isB d k
theorem rp_bl {s : Option Addr} {P : Hp} {b : Bool} {v : V} (h : Rp s P (.bl b) v) : v = .bl b := by simpa only [Rp] using h
theorem rp_int {s : Option Addr} {P : Hp} {b : Int} {v : V} (h : Rp s P (.int b) v) : v = .int b := by simpa only [Rp] using h
theorem rp_str {s : Option Addr} {P : Hp} {b : Str} {v : V} (h : Rp s P (.str b) v) : v = .str b := by simpa only [Rp] using h
theorem rt_test (ha : RE A E te me) : RT A E (tTest te) (mTest me) := fun s H0 P σ H env XA k Q re x h q =>
  ha s H0 P σ H env XA _ _ re x h fun P1 H1 v d e1 r1 ⟨b, h1, h2⟩ => by
    subst h1
    exact ⟨b, rp_bl r1, q _ _ b e1 h2⟩
theorem rt_B (ha : RE A E te me) : RT A E (tB te) (mTest me) := fun s H0 P σ H env XA k Q re x h q =>
  ha s H0 P σ H env XA _ _ re x h fun P1 H1 v d e1 r1 ⟨b, h1, h2⟩ => by
    subst h1
    exact ⟨b, rp_bl r1, q _ _ b e1 h2⟩
def mAnd (mt mu : MT) : MT := fun XA env k => mt XA env fun c => if c = true then mu XA env k else k false
def mOr (mt mu : MT) : MT := fun XA env k => mt XA env fun c => if c = true then k true else mu XA env k
def mNot (mt : MT) : MT := fun XA env k => mt XA env fun c => k (!c)
def mYes : MT := fun _ _ k => k true
theorem rt_yes : RT A E tYes mYes := fun s H0 P σ H env XA k Q re x h q => q P H true (Ext.refl re.wf) h
theorem rt_and (ht : RT A E t mt) (hu : RT A E u mu) : RT A E (tAnd t u) (mAnd mt mu) := fun s H0 P σ H env XA k Q re x h q =>
  ht s H0 P σ H env XA _ _ re x h fun P1 H1 b e1 h1 => by
    cases b with
    | true => exact hu s H0 P1 σ H1 env XA k _ (re.ext e1) (x.ext e1) h1 fun P2 H2 c e2 h2 => q P2 H2 c (e1.trans e2) h2
    | false => exact q P1 H1 false e1 h1
theorem rt_or (ht : RT A E t mt) (hu : RT A E u mu) : RT A E (tOr t u) (mOr mt mu) := fun s H0 P σ H env XA k Q re x h q =>
  ht s H0 P σ H env XA _ _ re x h fun P1 H1 b e1 h1 => by
    cases b with
    | false => exact hu s H0 P1 σ H1 env XA k _ (re.ext e1) (x.ext e1) h1 fun P2 H2 c e2 h2 => q P2 H2 c (e1.trans e2) h2
    | true => exact q P1 H1 true e1 h1
theorem rt_not (ht : RT A E t mt) : RT A E (tNot t) (mNot mt) := fun s H0 P σ H env XA k Q re x h q =>
  ht s H0 P σ H env XA _ _ re x h fun P1 H1 b e1 h1 => q P1 H1 (!b) e1 h1
def mAndV (ma mb : ME) : ME := fun XA env k => ma XA env fun d => isB d fun c => if c = true then mb XA env k else k (.bl false)
def mOrV (ma mb : ME) : ME := fun XA env k => ma XA env fun d => isB d fun c => if c = true then k (.bl true) else mb XA env k
def mNotV (ma : ME) : ME := fun XA env k => ma XA env fun d => isB d fun c => k (.bl (!c))
theorem re_andV (ha : RE A E ta ma) (hb : RE A E tb mb) : RE A E (tAndV ta tb) (mAndV ma mb) := fun s H0 P σ H env XA k Q re x h q =>
  ha s H0 P σ H env XA _ _ re x h fun P1 H1 v d e1 r1 ⟨c, h1, h2⟩ => by
    subst h1
    refine ⟨c, rp_bl r1, ?_⟩
    cases c with
    | true => exact hb s H0 P1 σ H1 env XA k _ (re.ext e1) (x.ext e1) h2 fun P2 H2 w t e2 r2 h3 => q P2 H2 w t (e1.trans e2) r2 h3
    | false => exact q P1 H1 _ _ e1 (by simp [Rp]) h2
theorem re_orV (ha : RE A E ta ma) (hb : RE A E tb mb) : RE A E (tOrV ta tb) (mOrV ma mb) := fun s H0 P σ H env XA k Q re x h q =>
  ha s H0 P σ H env XA _ _ re x h fun P1 H1 v d e1 r1 ⟨c, h1, h2⟩ => by
    subst h1
    refine ⟨c, rp_bl r1, ?_⟩
    cases c with
    | false => exact hb s H0 P1 σ H1 env XA k _ (re.ext e1) (x.ext e1) h2 fun P2 H2 w t e2 r2 h3 => q P2 H2 w t (e1.trans e2) r2 h3
    | true => exact q P1 H1 _ _ e1 (by simp [Rp]) h2
theorem re_notV (ha : RE A E ta ma) : RE A E (tNotV ta) (mNotV ma) := fun s H0 P σ H env XA k Q re x h q =>
  ha s H0 P σ H env XA _ _ re x h fun P1 H1 v d e1 r1 ⟨c, h1, h2⟩ => by
    subst h1
    exact ⟨c, rp_bl r1, q P1 H1 _ _ e1 (by simp [Rp]) h2⟩
def mIf (mt : MT) (ma mb : ME) : ME := fun XA env k => mt XA env fun c => if c = true then ma XA env k else mb XA env k
theorem re_if (ht : RT A E t mt) (ha : RE A E ta ma) (hb : RE A E tb mb) : RE A E (tIf t ta tb) (mIf mt ma mb) := fun s H0 P σ H env XA k Q re x h q =>
  ht s H0 P σ H env XA _ _ re x h fun P1 H1 c e1 h1 => by
    cases c with
    | true => exact ha s H0 P1 σ H1 env XA k _ (re.ext e1) (x.ext e1) h1 fun P2 H2 w t e2 r2 h3 => q P2 H2 w t (e1.trans e2) r2 h3
    | false => exact hb s H0 P1 σ H1 env XA k _ (re.ext e1) (x.ext e1) h1 fun P2 H2 w t e2 r2 h3 => q P2 H2 w t (e1.trans e2) r2 h3
def isNon : T → Bool
  | .non => true
  | _ => false
theorem rp_non {s : Option Addr} {P : Hp} : ∀ {d : T} {v : V}, Rp s P d v → decide (v = .non) = isNon d
  | .non, v, h => by simp only [Rp] at h; rw [h]; rfl
  | .bl b, v, h => by simp only [Rp] at h; rw [h]; rfl
  | .int b, v, h => by simp only [Rp] at h; rw [h]; rfl
  | .str b, v, h => by simp only [Rp] at h; rw [h]; rfl
  | .ty b, v, h => by simp only [Rp] at h; rw [h]; rfl
  | .lst ds, v, h => by simp only [Rp] at h; obtain ⟨a, _, rfl, _⟩ := h; rfl
  | .tup ds, v, h => by simp only [Rp] at h; obtain ⟨a, _, rfl, _⟩ := h; rfl
  | .sto, v, h => by simp only [Rp] at h; obtain ⟨a, _, rfl⟩ := h; rfl
  | .kc a, v, h => by simp only [Rp] at h; rw [h]; rfl
  | .fi _, v, h => by simp only [Rp] at h; obtain ⟨a, _, rfl, _⟩ := h; rfl
  | .obj C ns ds, v, h => by simp only [Rp] at h; obtain ⟨a, dx, vs, rfl, _⟩ := h; rfl
def mIsN (ma : ME) : ME := fun XA env k => ma XA env fun d => k (.bl (isNon d))
def mNotN (ma : ME) : ME := fun XA env k => ma XA env fun d => k (.bl (!isNon d))
theorem re_isN (ha : RE A E ta ma) : RE A E (tIsN ta) (mIsN ma) := fun s H0 P σ H env XA k Q re x h q =>
  ha s H0 P σ H env XA _ _ re x h fun P1 H1 v d e1 r1 h1 => q P1 H1 _ _ e1 (by rw [rp_non r1]; simp [Rp]) h1
theorem re_notN (ha : RE A E ta ma) : RE A E (tNotN ta) (mNotN ma) := fun s H0 P σ H env XA k Q re x h q =>
  ha s H0 P σ H env XA _ _ re x h fun P1 H1 v d e1 r1 h1 => q P1 H1 _ _ e1 (by rw [rp_non r1]; simp [Rp]) h1
def mChain (o o' : T → T → (T → Prop) → Prop) (ma mb mc : ME) : ME := fun XA env k => ma XA env fun d => mb XA env fun e => o d e fun z => isB z fun c => if c = true then mc XA env fun f => o' e f k else k (.bl false)
theorem re_chain {r r' : R2} {o o' : T → T → (T → Prop) → Prop} (ho : ROp r o) (ho' : ROp r' o') (ha : RE A E ta ma) (hb : RE A E tb mb) (hc : RE A E tc mc) : RE A E (tChain r r' ta tb tc) (mChain o o' ma mb mc) := fun s H0 P σ H env XA k Q re x h q =>
  ha s H0 P σ H env XA _ _ re x h fun P1 H1 v d e1 r1 h1 => hb s H0 P1 σ H1 env XA _ _ (re.ext e1) (x.ext e1) h1 fun P2 H2 w e e2 r2 h2 =>
    ho s P2 H2 v w d e _ _ e2.wf (rp_same e2.sub _ _ r1) r2 h2 fun P3 H3 z t e3 r3 ⟨c, h3, h4⟩ => by
      subst h3
      refine ⟨c, rp_bl r3, ?_⟩
      have e13 := e1.trans (e2.trans e3)
      cases c with
      | true =>
        exact hc s H0 P3 σ H3 env XA _ _ (re.ext e13) (x.ext e13) h4 fun P4 H4 y f e4 r4 h5 => ho' s P4 H4 w y e f k Q e4.wf (rp_same (e3.sub.trans e4.sub) _ _ r2) r4 h5 fun P5 H5 y' f' e5 r5 h6 => q P5 H5 y' f' (e13.trans (e4.trans e5)) r5 h6
      | false => exact q P3 H3 _ _ e13 (by simp [Rp]) h4
/-! operators -/
def oI (g : Int → Int → Int) : T → T → (T → Prop) → Prop := fun d e k => ∃ i j, d = .int i ∧ e = .int j ∧ k (.int (g i j))
def oB (g : Int → Int → Bool) : T → T → (T → Prop) → Prop := fun d e k => ∃ i j, d = .int i ∧ e = .int j ∧ k (.bl (g i j))
def oIC (C : Int → Int → Prop) (g : Int → Int → Int) : T → T → (T → Prop) → Prop := fun d e k => ∃ i j, d = .int i ∧ e = .int j ∧ C i j ∧ k (.int (g i j))
theorem ro_int {g : Int → Int → Int} : ROp (rI0 fun i j => V.int (g i j)) (oI g) := fun s P H x y d e k Q w h1 h2 ⟨i, j, e1, e2, h⟩ q => by
  subst e1 e2
  exact ⟨i, j, rp_int h1, rp_int h2, q P H _ _ (Ext.refl w) (by simp [Rp]) h⟩
theorem ro_bool {g : Int → Int → Bool} : ROp (rI0 fun i j => V.bl (g i j)) (oB g) := fun s P H x y d e k Q w h1 h2 ⟨i, j, e1, e2, h⟩ q => by
  subst e1 e2
  exact ⟨i, j, rp_int h1, rp_int h2, q P H _ _ (Ext.refl w) (by simp [Rp]) h⟩
theorem ro_intC {C : Int → Int → Prop} {g : Int → Int → Int} : ROp (rI C fun i j => V.int (g i j)) (oIC C g) := fun s P H x y d e k Q w h1 h2 ⟨i, j, e1, e2, c, h⟩ q => by
  subst e1 e2
  exact ⟨i, j, rp_int h1, rp_int h2, c, q P H _ _ (Ext.refl w) (by simp [Rp]) h⟩
def oU (g : Int → Int) : T → (T → Prop) → Prop := fun d k => ∃ i, d = .int i ∧ k (.int (g i))
theorem ru_int {g : Int → Int} : RUn (rU fun i => V.int (g i)) (oU g) := fun s P H x d k Q w h1 ⟨i, e1, h⟩ q => by
  subst e1
  exact ⟨i, rp_int h1, q P H _ _ (Ext.refl w) (by simp [Rp]) h⟩
def scEq : T → T → Option Bool
  | .int i, .int j => some (decide (i = j))
  | .bl i, .bl j => some (decide (i = j))
  | .str i, .str j => some (decide (i = j))
  | .non, .non => some true
  | _, _ => none
theorem sc_ok {s : Option Addr} {P : Hp} {d e : T} {x y : V} {b : Bool} (h1 : Rp s P d x) (h2 : Rp s P e y) (h : scEq d e = some b) : scal x y = true ∧ decide (x = y) = b := by
  unfold scEq at h
  split at h
  · cases h
    rw [rp_int h1, rp_int h2]
    refine ⟨rfl, ?_⟩
    simp only [V.int.injEq]
  · cases h
    rw [rp_bl h1, rp_bl h2]
    refine ⟨rfl, ?_⟩
    simp only [V.bl.injEq]
  · cases h
    rw [rp_str h1, rp_str h2]
    refine ⟨rfl, ?_⟩
    simp only [V.str.injEq]
  · cases h
    simp only [Rp] at h1 h2
    rw [h1, h2]
    exact ⟨rfl, rfl⟩
  · cases h
def oEq : T → T → (T → Prop) → Prop := fun d e k => ∃ b, scEq d e = some b ∧ k (.bl b)
def oNe : T → T → (T → Prop) → Prop := fun d e k => ∃ b, scEq d e = some b ∧ k (.bl (!b))
theorem ro_eq : ROp rEq oEq := fun s P H x y d e k Q w h1 h2 ⟨b, hb, h⟩ q => by
  obtain ⟨g1, g2⟩ := sc_ok h1 h2 hb
  exact ⟨g1, by rw [g2]; exact q P H _ _ (Ext.refl w) (by simp [Rp]) h⟩
theorem ro_ne : ROp rNe oNe := fun s P H x y d e k Q w h1 h2 ⟨b, hb, h⟩ q => by
  obtain ⟨g1, g2⟩ := sc_ok h1 h2 hb
  exact ⟨g1, by rw [g2]; exact q P H _ _ (Ext.refl w) (by simp [Rp]) h⟩
theorem rps_intsF {s : Option Addr} {P : Hp} : ∀ ns : List Int, Rps s P (ns.map T.int) (ns.map V.int)
  | [] => by simp [Rps]
  | n :: ns => by simp only [List.map, Rps]; exact ⟨_, _, rfl, by simp [Rp], rps_intsF ns⟩
/-- the items of a list, a tuple -/
def itemsOf : T → Option (List T)
  | .lst ds => some ds
  | .tup ds => some ds
  | .fi ns => some (ns.map T.int)
  | _ => none
theorem rp_items {s : Option Addr} {P H : Hp} {d : T} {x : V} {ds : List T} (w : WF s P H) (h : Rp s P d x) (e : itemsOf d = some ds) : ∃ a vs, x = .ref a ∧ seqAt H a = some vs ∧ Rps s P ds vs ∧ ds.length < 1000000 := by
  unfold itemsOf at e
  split at e
  · cases e
    simp only [Rp] at h
    obtain ⟨a, vs, rfl, h1, h2, h3⟩ := h
    exact ⟨a, vs, rfl, seqAt_l (w.sub _ _ h1), h2, h3⟩
  · cases e
    simp only [Rp] at h
    obtain ⟨a, vs, rfl, h1, h2, h3⟩ := h
    exact ⟨a, vs, rfl, seqAt_t (w.sub _ _ h1), h2, h3⟩
  · cases e
    simp only [Rp] at h
    obtain ⟨a, o, rfl, h1, h2, h3⟩ := h
    exact ⟨a, _, rfl, seqAt_f (w.sub _ _ h1), rps_intsF _, by rw [List.length_map]; exact h3⟩
  · cases e
def oIx : T → T → (T → Prop) → Prop := fun d e k => ∃ ds i t, itemsOf d = some ds ∧ e = .int i ∧ atI ds i = some t ∧ k t
theorem ro_ix : ROp rIxH oIx := fun s P H x y d e k Q w h1 h2 ⟨ds, i, t, g1, g2, g3, h⟩ q => by
  subst g2
  obtain ⟨a, vs, rfl, g4, g5, g6⟩ := rp_items w h1 g1
  obtain ⟨v, g7, g8⟩ := rps_atI g5 g3
  exact ⟨a, i, vs, v, rfl, rp_int h2, g4, g7, q P H _ _ (Ext.refl w) g8 h⟩
def oLen : List T → (T → Prop) → Prop := fun ds k => ∃ d es, ds = [d] ∧ itemsOf d = some es ∧ (es.length < 1000000 → k (.int es.length))
theorem rps1 {s : Option Addr} {P : Hp} {d : T} {vs : List V} (h : Rps s P [d] vs) : ∃ v, vs = [v] ∧ Rp s P d v := by
  simp only [Rps] at h
  obtain ⟨v, r, rfl, h1, rfl⟩ := h
  exact ⟨v, rfl, h1⟩
theorem rps2 {s : Option Addr} {P : Hp} {d e : T} {vs : List V} (h : Rps s P [d, e] vs) : ∃ v w, vs = [v, w] ∧ Rp s P d v ∧ Rp s P e w := by
  simp only [Rps] at h
  obtain ⟨v, r, rfl, h1, w, r2, rfl, h2, rfl⟩ := h
  exact ⟨v, w, rfl, h1, h2⟩
theorem rcb_len : RCB rLenH oLen := fun s P H vs ds k Q w h ⟨d, es, g1, g2, h3⟩ q => by
  subst g1
  obtain ⟨v, rfl, h1⟩ := rps1 h
  obtain ⟨a, us, rfl, g4, g5, g6⟩ := rp_items w h1 g2
  exact ⟨a, us, rfl, g4, by rw [rps_len g5]; exact q P H _ _ (Ext.refl w) (by simp [Rp]) (h3 g6)⟩
def oAbs : List T → (T → Prop) → Prop := fun ds k => ∃ i, ds = [.int i] ∧ k (.int (if i < 0 then -i else i))
theorem rcb_abs : RCB rAbsH oAbs := fun s P H vs ds k Q w h ⟨i, g1, h3⟩ q => by
  subst g1
  obtain ⟨v, rfl, h1⟩ := rps1 h
  exact ⟨i, by rw [rp_int h1], q P H _ _ (Ext.refl w) (by simp [Rp]) h3⟩
def oInt : List T → (T → Prop) → Prop := fun ds k => (∃ i, ds = [.int i] ∧ k (.int i)) ∨ ∃ b, ds = [.bl b] ∧ k (.int (if b = true then 1 else 0))
theorem rcb_int : RCB rInt1 oInt := fun s P H vs ds k Q w h h3 q => by
  rcases h3 with ⟨i, rfl, h3⟩ | ⟨i, rfl, h3⟩
  · obtain ⟨v, rfl, h1⟩ := rps1 h
    exact Or.inl ⟨i, by rw [rp_int h1], q P H _ _ (Ext.refl w) (by simp [Rp]) h3⟩
  · obtain ⟨v, rfl, h1⟩ := rps1 h
    exact Or.inr ⟨i, by rw [rp_bl h1], q P H _ _ (Ext.refl w) (by simp [Rp]) h3⟩
def oGcd : List T → (T → Prop) → Prop := fun ds k => ∃ a b : Int, ds = [.int a, .int b] ∧ k (.int ((Nat.gcd a.natAbs b.natAbs : Nat) : Int))
theorem rcb_gcd : RCB rGcd oGcd := fun s P H vs ds k Q w h ⟨a, b, g1, h3⟩ q => by
  subst g1
  obtain ⟨v, u, rfl, h1, h2⟩ := rps2 h
  exact ⟨a, b, by rw [rp_int h1, rp_int h2], q P H _ _ (Ext.refl w) (by simp [Rp]) h3⟩
def oStr : List T → (T → Prop) → Prop := fun ds k => ∃ i : Int, ds = [.int i] ∧ i.natAbs.log2 < 1920 ∧ k (.str (Str.ofString (toString i)))
theorem rcb_str : RCB rStrH oStr := fun s P H vs ds k Q w h ⟨i, g1, g2, h3⟩ q => by
  subst g1
  obtain ⟨v, rfl, h1⟩ := rps1 h
  exact ⟨i, by rw [rp_int h1], g2, q P H _ _ (Ext.refl w) (by simp [Rp]) h3⟩
/-- which built-in class -/
def tyT : T → Option String
  | .non => some "NoneType"
  | .bl _ => some "bool"
  | .int _ => some "int"
  | .str _ => some "str"
  | .lst _ => some "list"
  | .tup _ => some "tuple"
  | _ => none
theorem rp_tyT {s : Option Addr} {P H : Hp} {d : T} {x : V} {n : String} (w : WF s P H) (h : Rp s P d x) (e : tyT d = some n) : zTyV x H = some n := by
  cases d with
  | non => simp only [Rp] at h; subst h; exact e
  | bl b => simp only [Rp] at h; subst h; exact e
  | int b => simp only [Rp] at h; subst h; exact e
  | str b => simp only [Rp] at h; subst h; exact e
  | ty b => cases e
  | sto => cases e
  | kc _ => cases e
  | fi _ => cases e
  | obj C ns ds => cases e
  | lst ds =>
    simp only [Rp] at h
    obtain ⟨a, vs, rfl, h1, _⟩ := h
    rw [w_zl (w.sub _ _ h1)]
    exact e
  | tup ds =>
    simp only [Rp] at h
    obtain ⟨a, vs, rfl, h1, _⟩ := h
    rw [w_zt (w.sub _ _ h1)]
    exact e
def oType : List T → (T → Prop) → Prop := fun ds k => ∃ d n, ds = [d] ∧ tyT d = some n ∧ k (.ty n)
def oIs1 : List T → (T → Prop) → Prop := fun ds k => ∃ d n m b, ds = [d, .ty n] ∧ tyT d = some m ∧ kitB m n = some b ∧ k (.bl b)
theorem rcb_is1 : RCB rIsH oIs1 := fun s P H vs ds k Q w h ⟨d, n, m, b, g1, g2, g3, h3⟩ q => by
  subst g1
  obtain ⟨v, u, rfl, h1, h2⟩ := rps2 h
  simp only [Rp] at h2
  subst h2
  exact ⟨v, n, m, b, rfl, rp_tyT w h1 g2, g3, q P H _ _ (Ext.refl w) (by simp [Rp]) h3⟩
def oIs2 : List T → (T → Prop) → Prop := fun ds k => ∃ d n1 n2 m b c, ds = [d, .tup [.ty n1, .ty n2]] ∧ tyT d = some m ∧ kitB m n1 = some b ∧ kitB m n2 = some c ∧ k (.bl (b || c))
theorem rcb_is2 : RCB rIsTH oIs2 := fun s P H vs ds k Q w h ⟨d, n1, n2, m, b, c, g1, g2, g3, g4, h3⟩ q => by
  subst g1
  obtain ⟨v, u, rfl, h1, h2⟩ := rps2 h
  simp only [Rp, Rps] at h2
  obtain ⟨a, vs, rfl, h5, ⟨v1, r1, rfl, rfl, v2, r2, rfl, rfl, rfl⟩, _⟩ := h2
  exact ⟨v, a, n1, n2, m, b, c, rfl, w.sub _ _ h5, rp_tyT w h1 g2, g3, g4, q P H _ _ (Ext.refl w) (by simp [Rp]) h3⟩
def oIsTy : T → T → (T → Prop) → Prop := fun d e k => ∃ m n, d = .ty m ∧ e = .ty n ∧ k (.bl (decide (m = n)))
theorem ro_isTy : ROp rIsTyH oIsTy := fun s P H x y d e k Q w h1 h2 ⟨m, n, e1, e2, h⟩ q => by
  subst e1 e2
  simp only [Rp] at h1 h2
  subst h1 h2
  exact ⟨m, n, rfl, rfl, q P H _ _ (Ext.refl w) (by simp [Rp]) h⟩
theorem rcb_type : RCB (r1 kTyp) oType := fun s P H vs ds k Q w h ⟨d, n, g1, g2, h3⟩ q => by
  subst g1
  obtain ⟨v, rfl, h1⟩ := rps1 h
  exact ⟨n, rp_tyT w h1 g2, q P H _ _ (Ext.refl w) (by simp [Rp]) h3⟩
def oCat : T → T → (T → Prop) → Prop := fun d e k => ∃ ds es, d = .lst ds ∧ e = .lst es ∧ ds.length + es.length < 1000000 ∧ k (.lst (ds ++ es))
theorem ro_cat : ROp rCat oCat := fun s P H x y d e k Q w h1 h2 ⟨ds, es, g1, g2, g3, h⟩ q => by
  subst g1 g2
  simp only [Rp] at h1 h2
  obtain ⟨a, vs, rfl, a1, a2, a3⟩ := h1
  obtain ⟨b, ws, rfl, b1, b2, b3⟩ := h2
  rw [w_cat (w.sub _ _ a1) (w.sub _ _ b1)]
  refine ⟨size_line (by rw [rps_len a2, rps_len b2]; exact g3), fun p hp => ?_⟩
  have e2 := ext_new (o := .lst (vs ++ ws)) w hp
  refine q _ _ _ (.lst (ds ++ es)) e2 ?_ h
  simp only [Rp]
  exact ⟨p, _, rfl, upd_same, rps_same e2.sub _ _ (rps_app a2 b2), by rw [List.length_append]; exact g3⟩
end
end Mt
/-! ### walks, targets, comprehensions, one's own lists -/
namespace Mt
open PySem PySem.Spec PyProof.Rows L2 L2H
def ItOk (s : Option Addr) (J : It) (P : Hp) (xs : List T) : Prop := ∀ P' H', Same P P' → WF s P' H' → (∀ i d, xs[i]? = some d → J.go i H' ∧ ∀ x H'', J.yld i H' x H'' → ∃ P'', Ext s P' H' P'' H'' ∧ Rp s P'' d x) ∧ ∀ i, xs.length ≤ i → J.stop i H'
def ItOkC (s : Option Addr) (J : It) (P H : Hp) (xs : List T) : Prop := ∀ P' H', Ext s P H P' H' → (∀ i d, xs[i]? = some d → J.go i H' ∧ ∀ x H'', J.yld i H' x H'' → ∃ P'', Ext s P' H' P'' H'' ∧ Rp s P'' d x) ∧ ∀ i, xs.length ≤ i → J.stop i H'
section
variable (A : Ad) (E : EK)
def RI (wi : TI) (mi : MA) : Prop := ∀ s H0 P σ H env XA k (R : It → Hp → Prop), Rel s H0 P σ H env → XC A s P σ H E XA → mi XA env k → (∀ P' H' J xs, Ext s P H P' H' → ItOk s J P' xs → xs.length < 1000000 → k xs → R J H') → wi σ H R
def RIc (wi : TI) (mi : MA) : Prop := ∀ s H0 P σ H env XA k (R : It → Hp → Prop), Rel s H0 P σ H env → XC A s P σ H E XA → mi XA env k → (∀ P' H' J xs, Ext s P H P' H' → ItOkC s J P' H' xs → xs.length < 1000000 → k xs → R J H') → wi σ H R
end
section
variable {A : Ad} {E : EK} {te ta tb tc : TE} {me ma mb mc : ME} {t u : TT} {mt mu : MT} {aa ar : TA} {am : MA} {K : PySem.W.Frag} {wi : TI} {mi : MA}
theorem ric_of (h : RI A E wi mi) : RIc A E wi mi := fun s H0 P σ H env XA k R re x hm q => h s H0 P σ H env XA k R re x hm fun P' H' J xs e i l h2 => q P' H' J xs e (fun P2 H2 e2 => i P2 H2 e2.sub e2.wf) l h2
theorem itl_ok {s : Option Addr} {P' H' : Hp} {a : Addr} {vs : List V} {ds : List T} (w : WF s P' H') (h : SqL K H' a vs) (r : Rps s P' ds vs) : (∀ i d, ds[i]? = some d → (Itl K a).go i H' ∧ ∀ x H'', (Itl K a).yld i H' x H'' → ∃ P'', Ext s P' H' P'' H'' ∧ Rp s P'' d x) ∧ ∀ i, ds.length ≤ i → (Itl K a).stop i H' := by
  refine ⟨fun i d hd => ?_, fun i hi => ⟨vs, h, by rw [rps_len r]; exact hi⟩⟩
  obtain ⟨v, hv, rv⟩ := rps_at r hd
  refine ⟨⟨vs, v, h, hv⟩, fun x H'' hy => ?_⟩
  obtain ⟨rfl, hx⟩ := hy
  have := hx vs h
  rw [hv] at this
  cases this
  exact ⟨P', Ext.refl w, rv⟩
theorem itt_ok {s : Option Addr} {P' H' : Hp} {a : Addr} {vs : List V} {ds : List T} (w : WF s P' H') (h : SqT K H' a vs) (r : Rps s P' ds vs) : (∀ i d, ds[i]? = some d → (Itt K a).go i H' ∧ ∀ x H'', (Itt K a).yld i H' x H'' → ∃ P'', Ext s P' H' P'' H'' ∧ Rp s P'' d x) ∧ ∀ i, ds.length ≤ i → (Itt K a).stop i H' := by
  refine ⟨fun i d hd => ?_, fun i hi => ⟨vs, h, by rw [rps_len r]; exact hi⟩⟩
  obtain ⟨v, hv, rv⟩ := rps_at r hd
  refine ⟨⟨vs, v, h, hv⟩, fun x H'' hy => ?_⟩
  obtain ⟨rfl, hx⟩ := hy
  have := hx vs h
  rw [hv] at this
  cases this
  exact ⟨P', Ext.refl w, rv⟩
def mList (me : ME) : MA := fun XA env k => me XA env fun d => ∃ ds, d = .lst ds ∧ k ds
def mTupl (me : ME) : MA := fun XA env k => me XA env fun d => ∃ ds, d = .tup ds ∧ k ds
theorem sql_of {H : Hp} {a : Addr} {vs : List V} (h : H a = some (.lst vs)) : SqL K H a vs := Or.inl (Or.inl h)
theorem sqt_of {H : Hp} {a : Addr} {vs : List V} (h : H a = some (.tup vs)) : SqT K H a vs := Or.inl (Or.inl h)
theorem ri_list (ha : RE A E te me) : RI A E (iList K te) (mList me) := fun s H0 P σ H env XA k R re x h q =>
  ha s H0 P σ H env XA _ _ re x h fun P1 H1 v d e1 r1 ⟨ds, h1, h2⟩ => by
    subst h1
    simp only [Rp] at r1
    obtain ⟨a, vs, rfl, g1, g2, g3⟩ := r1
    refine ⟨a, rfl, ⟨vs, sql_of (e1.wf.sub _ _ g1)⟩, q P1 H1 _ ds e1 (fun P' H' sp w => itl_ok w (sql_of (w.sub _ _ (sp _ _ g1))) (rps_same sp _ _ g2)) g3 h2⟩
theorem ri_tup (ha : RE A E te me) : RI A E (iTup K te) (mTupl me) := fun s H0 P σ H env XA k R re x h q =>
  ha s H0 P σ H env XA _ _ re x h fun P1 H1 v d e1 r1 ⟨ds, h1, h2⟩ => by
    subst h1
    simp only [Rp] at r1
    obtain ⟨a, vs, rfl, g1, g2, g3⟩ := r1
    refine ⟨a, rfl, ⟨vs, sqt_of (e1.wf.sub _ _ g1)⟩, q P1 H1 _ ds e1 (fun P' H' sp w => itt_ok w (sqt_of (w.sub _ _ (sp _ _ g1))) (rps_same sp _ _ g2)) g3 h2⟩
/-- a walk over one's own list, within a comprehension -/
def mListOwn (i : Nat) : MA := fun XA env k => ∃ ds, (env[i]? = some (some (.own ds)) ∨ env[i]? = some (some (.d (.lst ds)))) ∧ k ds
theorem ric_var {i : Nat} : RIc A E (iList K (tVar i)) (mListOwn i) := fun s H0 P σ H env XA k R re x h q => by
  obtain ⟨ds, h1, h2⟩ := h
  rcases h1 with h1 | h1
  · obtain ⟨a, vs, g1, g2, g3, g4, g5, g6, g7⟩ := re.own h1
    exact ⟨.ref a, g1, a, rfl, ⟨vs, sql_of g5⟩, q P H _ ds (Ext.refl re.wf) (fun P' H' e => itl_ok e.wf (sql_of (e.keep _ _ g4 g5)) (rps_same e.sub _ _ g6)) g7 h2⟩
  · exact ric_of (ri_list re_var) s H0 P σ H env XA k R re x ⟨_, h1, ds, rfl, h2⟩ q
def rngT (a : Int) (n : Nat) : List T := (List.range n).map fun i => T.int (a + (i : Nat))
theorem rngT_len {a : Int} {n : Nat} : (rngT a n).length = n := by
  unfold rngT
  rw [List.length_map, List.length_range]
theorem itr_ok {s : Option Addr} {P : Hp} {lo : Int} {n : Nat} : ItOk s (Itr lo n) P (rngT lo n) := fun P' H' sp w => by
  refine ⟨fun i d hd => ?_, fun i hi => by rw [rngT_len] at hi; exact hi⟩
  unfold rngT at hd
  rw [List.getElem?_map] at hd
  by_cases z : i < n
  · rw [List.getElem?_range z] at hd
    cases hd
    refine ⟨z, fun x H'' hy => ?_⟩
    obtain ⟨rfl, rfl⟩ := hy
    exact ⟨P', Ext.refl w, by simp [Rp]⟩
  · rw [List.getElem?_eq_none (by rw [List.length_range]; omega)] at hd
    cases hd
def mRng1 (am : MA) : MA := fun XA env k => am XA env fun ds => ∃ j : Int, ds = [.int j] ∧ j < 1000000 ∧ -1000000 < j ∧ k (rngT 0 j.toNat)
def mRng2 (am : MA) : MA := fun XA env k => am XA env fun ds => ∃ i j : Int, ds = [.int i, .int j] ∧ (-1000000 < i ∧ i < 1000000) ∧ (-1000000 < j ∧ j < 1000000) ∧ (j - i) < 1000000 ∧ k (rngT i (j - i).toNat)
theorem ri_rng1 (ha : RA A E aa am) : RI A E (iRng1 aa) (mRng1 am) := fun s H0 P σ H env XA k R re x h q =>
  ha s H0 P σ H env XA _ _ re x h fun P1 H1 vs ds e1 r1 ⟨j, h1, h2, h4, h3⟩ => by
    subst h1
    obtain ⟨v, rfl, g⟩ := rps1 r1
    exact ⟨j, by rw [rp_int g], by omega, by omega, q P1 H1 _ _ e1 itr_ok (by rw [rngT_len]; omega) h3⟩
theorem ri_rng2 (ha : RA A E aa am) : RI A E (iRng2 aa) (mRng2 am) := fun s H0 P σ H env XA k R re x h q =>
  ha s H0 P σ H env XA _ _ re x h fun P1 H1 vs ds e1 r1 ⟨i, j, h1, ⟨a1, a2⟩, ⟨b1, b2⟩, h2, h3⟩ => by
    subst h1
    obtain ⟨v, w, rfl, g, g'⟩ := rps2 r1
    exact ⟨i, j, by rw [rp_int g, rp_int g'], by omega, q P1 H1 _ _ e1 itr_ok (by rw [rngT_len]; omega) h3⟩
def enumT (ds : List T) : List T := ds.mapIdx fun i d => .tup [.int (i : Nat), d]
def zipT (ds es : List T) : List T := List.zipWith (fun a b => .tup [a, b]) ds es
def mEnum (am : MA) : MA := fun XA env k => am XA env fun ds => ∃ es, ds = [.lst es] ∧ k (enumT es)
def mZip (am : MA) : MA := fun XA env k => am XA env fun ds => ∃ es fs, ds = [.lst es, .lst fs] ∧ k (zipT es fs)
def mRev (am : MA) : MA := fun XA env k => am XA env fun ds => ∃ es, ds = [.lst es] ∧ k es.reverse
theorem ri_enum (ha : RA A E aa am) : RI A E (iEnum K aa) (mEnum am) := fun s H0 P σ H env XA k R re x h q =>
  ha s H0 P σ H env XA _ _ re x h fun P1 H1 vs ds e1 r1 ⟨es, h1, h3⟩ => by
    subst h1
    obtain ⟨v, rfl, g⟩ := rps1 r1
    simp only [Rp] at g
    obtain ⟨a, us, rfl, g1, g2, g3⟩ := g
    refine ⟨a, us, rfl, sql_of (e1.wf.sub _ _ g1), q P1 H1 _ _ e1 (fun P' H' sp w => ?_) (by unfold enumT; rw [List.length_mapIdx]; exact g3) h3⟩
    have sq : SqL K H' a us := sql_of (w.sub _ _ (sp _ _ g1))
    refine ⟨fun i d hd => ?_, fun i hi => ⟨us, sq, by unfold enumT at hi; rw [List.length_mapIdx] at hi; rw [rps_len g2]; exact hi⟩⟩
    unfold enumT at hd
    rw [List.getElem?_mapIdx] at hd
    cases hz : es[i]? with
    | none => rw [hz] at hd; cases hd
    | some z =>
      rw [hz] at hd
      cases hd
      obtain ⟨v, hv, rv⟩ := rps_at g2 hz
      refine ⟨⟨us, v, sq, hv⟩, fun x H'' hy => ?_⟩
      obtain ⟨p, y, rfl, hp, rfl, hx⟩ := hy
      have := hx us sq
      rw [hv] at this
      cases this
      have e2 := ext_new (o := .tup [.int (i : Nat), v]) w hp
      refine ⟨_, e2, ?_⟩
      simp only [Rp]
      exact ⟨p, _, rfl, upd_same, rps_cons (by simp [Rp]) (rps_cons (rp_same (sp.trans e2.sub) _ _ rv) rps_nil), by show 2 < 1000000; decide⟩
theorem zip_at {ds es : List T} {i : Nat} {d : T} (h : (zipT ds es)[i]? = some d) : ∃ a b, ds[i]? = some a ∧ es[i]? = some b ∧ d = .tup [a, b] := by
  unfold zipT at h
  rw [List.getElem?_zipWith] at h
  cases ha : ds[i]? with
  | none => rw [ha] at h; cases h
  | some a =>
    cases hb : es[i]? with
    | none => rw [ha, hb] at h; cases h
    | some b =>
      rw [ha, hb] at h
      cases h
      exact ⟨a, b, rfl, rfl, rfl⟩
theorem ri_zip (ha : RA A E aa am) : RI A E (iZip K aa) (mZip am) := fun s H0 P σ H env XA k R re x h q =>
  ha s H0 P σ H env XA _ _ re x h fun P1 H1 vs ds e1 r1 ⟨es, fs, h1, h3⟩ => by
    subst h1
    obtain ⟨v, w, rfl, g, g'⟩ := rps2 r1
    simp only [Rp] at g g'
    obtain ⟨a, us, rfl, g1, g2, g3⟩ := g
    obtain ⟨b, ws, rfl, g4, g5, g6⟩ := g'
    refine ⟨a, b, us, ws, rfl, sql_of (e1.wf.sub _ _ g1), sql_of (e1.wf.sub _ _ g4), q P1 H1 _ _ e1 (fun P' H' sp w => ?_) (by unfold zipT; rw [List.length_zipWith]; omega) h3⟩
    have sq : SqL K H' a us := sql_of (w.sub _ _ (sp _ _ g1))
    have sq2 : SqL K H' b ws := sql_of (w.sub _ _ (sp _ _ g4))
    refine ⟨fun i d hd => ?_, fun i hi => ⟨us, ws, sq, sq2, by unfold zipT at hi; rw [List.length_zipWith] at hi; rw [rps_len g2, rps_len g5]; omega⟩⟩
    obtain ⟨da, db, ha, hb, rfl⟩ := zip_at hd
    obtain ⟨v, hv, rv⟩ := rps_at g2 ha
    obtain ⟨u, hu, ru⟩ := rps_at g5 hb
    refine ⟨⟨us, ws, v, u, sq, sq2, hv, hu⟩, fun x H'' hy => ?_⟩
    obtain ⟨p, y, y2, rfl, hp, rfl, hx, hx2⟩ := hy
    have := hx us sq
    rw [hv] at this
    cases this
    have := hx2 ws sq2
    rw [hu] at this
    cases this
    have e2 := ext_new (o := .tup [v, u]) w hp
    refine ⟨_, e2, ?_⟩
    simp only [Rp]
    exact ⟨p, _, rfl, upd_same, rps_cons (rp_same (sp.trans e2.sub) _ _ rv) (rps_cons (rp_same (sp.trans e2.sub) _ _ ru) rps_nil), by show 2 < 1000000; decide⟩
theorem ri_rev (ha : RA A E aa am) : RI A E (iRev K aa) (mRev am) := fun s H0 P σ H env XA k R re x h q =>
  ha s H0 P σ H env XA _ _ re x h fun P1 H1 vs ds e1 r1 ⟨es, h1, h3⟩ => by
    subst h1
    obtain ⟨v, rfl, g⟩ := rps1 r1
    simp only [Rp] at g
    obtain ⟨a, us, rfl, g1, g2, g3⟩ := g
    refine ⟨a, us, rfl, sql_of (e1.wf.sub _ _ g1), q P1 H1 _ _ e1 (fun P' H' sp w => ?_) (by rw [List.length_reverse]; exact g3) h3⟩
    have sq : SqL K H' a us := sql_of (w.sub _ _ (sp _ _ g1))
    have lu := rps_len g2
    refine ⟨fun i d hd => ?_, fun i hi => by rw [List.length_reverse] at hi; show us.length ≤ i; omega⟩
    have hl : i < es.length := by
      have := (List.getElem?_eq_some_iff.mp hd).1
      rw [List.length_reverse] at this
      exact this
    rw [List.getElem?_reverse hl] at hd
    obtain ⟨v, hv, rv⟩ := rps_at g2 hd
    have hv' : us[us.length - 1 - i]? = some v := by
      rw [← hv]
      congr 1
      omega
    refine ⟨⟨by omega, us, v, sq, hv'⟩, fun x H'' hy => ?_⟩
    obtain ⟨rfl, hx⟩ := hy
    have := hx us sq
    rw [hv'] at this
    cases this
    exact ⟨P', Ext.refl w, rp_same sp _ _ rv⟩
/-! targets -/
abbrev MG := T → Env → (Env → Prop) → Prop
abbrev MGs := List T → Env → (Env → Prop) → Prop
def RG (g : TG) (mg : MG) (is : List Nat) : Prop := ∀ s H0 P σ H env t v k (R : L2.St → Hp → Prop), Rel s H0 P σ H env → Rp s P t v → mg t env k → (∀ σ' env', Rel s H0 P σ' H env' → (∀ vs, (∀ i, i ∈ is → i ∈ vs) → wipe σ' vs = wipe σ vs) → k env' → R σ' H) → g v σ H R
def RGs (g : TGs) (mg : MGs) (is : List Nat) : Prop := ∀ s H0 P σ H env ts vs k (R : L2.St → Hp → Prop), Rel s H0 P σ H env → Rps s P ts vs → mg ts env k → (∀ σ' env', Rel s H0 P σ' H env' → (∀ vs, (∀ i, i ∈ is → i ∈ vs) → wipe σ' vs = wipe σ vs) → k env' → R σ' H) → g vs σ H R
theorem wipe_set {σ : L2.St} {i : Nat} {x : Option V} : ∀ {vs : List Nat}, i ∈ vs → wipe (σ.set i x) vs = wipe σ vs
  | [], h => nomatch h
  | v :: vs, h => by
    show (wipe (σ.set i x) vs).set v none = (wipe σ vs).set v none
    by_cases z : i ∈ vs
    · rw [wipe_set z]
    · have e : v = i := by
        rcases List.mem_cons.mp h with h | h
        · exact h.symm
        · exact absurd h z
      subst e
      refine List.ext_getElem? fun j => ?_
      rw [List.getElem?_set, List.getElem?_set]
      by_cases e : v = j
      · rw [if_pos e, if_pos e, wipe_length, wipe_length, List.length_set]
      · rw [if_neg e, if_neg e]
        clear h
        induction vs with
        | nil => rw [wipe, wipe, List.getElem?_set_ne e]
        | cons w ws ih =>
          have z' := fun h => z (List.mem_cons_of_mem _ h)
          show ((wipe (σ.set v x) ws).set w none)[j]? = ((wipe σ ws).set w none)[j]?
          rw [List.getElem?_set, List.getElem?_set, wipe_length, wipe_length, List.length_set, ih z']
theorem wipe_wipe {σ : L2.St} {vs : List Nat} : ∀ {us : List Nat}, (∀ i, i ∈ us → i ∈ vs) → wipe (wipe σ us) vs = wipe σ vs
  | [], _ => rfl
  | u :: us, h => by
    show wipe ((wipe σ us).set u none) vs = _
    rw [wipe_set (h u (List.mem_cons_self ..)), wipe_wipe fun i hi => h i (List.mem_cons_of_mem _ hi)]
def mgName (i : Nat) : MG := fun t env k => k (env.set i (some (.d t)))
theorem rg_name {i : Nat} : RG (gName i) (mgName i) [i] := fun s H0 P σ H env t v k R re r h q => q _ _ (re.put r) (fun vs hv => wipe_set (hv i (List.mem_singleton.mpr rfl))) h
def mgNil : MGs := fun ts env k => ts = [] ∧ k env
def mgCons (m : MG) (ms : MGs) : MGs := fun ts env k => ∃ t r, ts = t :: r ∧ m t env fun env' => ms r env' k
theorem rgs_nil : RGs gNil mgNil [] := fun s H0 P σ H env ts vs k R re r ⟨h1, h2⟩ q => by
  subst h1
  simp only [Rps] at r
  exact ⟨r, q _ _ re (fun _ _ => rfl) h2⟩
theorem rgs_cons {g : TG} {gs : TGs} {m : MG} {ms : MGs} {is js : List Nat} (h1 : RG g m is) (h2 : RGs gs ms js) : RGs (gCons g gs) (mgCons m ms) (is ++ js) := fun s H0 P σ H env ts vs k R re r ⟨t, tr, e, h⟩ q => by
  subst e
  simp only [Rps] at r
  obtain ⟨v, vr, rfl, r1, r2⟩ := r
  exact ⟨v, vr, rfl, h1 s H0 P σ H env t v _ _ re r1 h fun σ1 env1 re1 w1 h3 => h2 s H0 P σ1 H env1 tr vr k R re1 r2 h3 fun σ2 env2 re2 w2 h4 => q σ2 env2 re2 (fun vs hv => by rw [w2 vs fun i hi => hv i (List.mem_append_right _ hi), w1 vs fun i hi => hv i (List.mem_append_left _ hi)]) h4⟩
def mgTup (n : Nat) (ms : MGs) : MG := fun t env k => ∃ ds, t = .tup ds ∧ ds.length = n ∧ ms ds env k
theorem rg_tup {n : Nat} {gs : TGs} {ms : MGs} {is : List Nat} (h2 : RGs gs ms is) : RG (gTup K n gs) (mgTup n ms) is := fun s H0 P σ H env t v k R re r ⟨ds, e, hl, h⟩ q => by
  subst e
  simp only [Rp] at r
  obtain ⟨a, vs, rfl, g1, g2, g3⟩ := r
  exact ⟨a, vs, rfl, sqt_of (re.wf.sub _ _ g1), by rw [rps_len g2]; exact hl, h2 s H0 P σ H env ds vs k R re g2 h q⟩
/-! comprehensions -/
def wipeE (env : Env) : List Nat → Env
  | [] => env
  | v :: vs => (wipeE env vs).set v none
theorem Rel.wipe {s : Option Addr} {H0 P H : Hp} {σ : L2.St} {env : Env} (r : Rel s H0 P σ H env) : ∀ vs : List Nat, Rel s H0 P (L2.wipe σ vs) H (wipeE env vs)
  | [] => r
  | v :: vs => (r.wipe vs).drop
/-- a comprehension by an invariant over the turn and the list so far -/
def lcInv (f : T → (Option T → Prop) → Prop) (xs : List T) (k : List T → Prop) : Prop := ∃ I : Nat → List T → Prop, I 0 [] ∧ (∀ i x acc, xs[i]? = some x → I i acc → f x fun o => match o with
    | some d => I (i + 1) (acc ++ [d])
    | none => I (i + 1) acc) ∧ ∀ acc, I xs.length acc → k acc
def lcTurn (mg : MG) (mt : MT) (me : ME) (XA : Ex → Prop) (env : Env) : T → (Option T → Prop) → Prop := fun x r => mg x env fun env' => mt XA env' fun b => if b = true then me XA env' fun d => r (some d) else r none
def mLc (mi : MA) (mg : MG) (mt : MT) (me : ME) (vs : List Nat) : ME := fun XA env k => mi XA env fun xs => lcInv (lcTurn mg mt me XA (wipeE env vs)) xs fun ds => k (.lst ds)
def ET : EK := fun _ _ _ _ => True
/-- the reading of a comprehension ends with a list that nobody else has -/
theorem lc_own {g : TG} {mg : MG} {is vs : List Nat} (hi : RIc A E wi mi) (hg : RG g mg is) (his : (is.all fun i => vs.contains i) = true) {E' : L2.St → EK} (hx : ∀ s P σ H XA, XC A s P σ H E XA → ∀ σ' P' H', Ext s P H P' H' → XC A s P' σ' H' (E' σ) XA)
    {te' : L2.St → TE} {tt' : TT} (ht : ∀ σ, RT A (E' σ) tt' mt) (he : ∀ σ, RE A (E' σ) (te' σ) me) :
    ∀ s H0 P σ H env XA k Q, Rel s H0 P σ H env → XC A s P σ H E XA → mi XA env (fun xs => lcInv (lcTurn mg mt me XA (wipeE env vs)) xs k) → (∀ P' H1 H' p acc ds, Ext s P H P' H1 → H1 p = none → H' = upd H1 p (.lst acc) → Rps s P' ds acc → ds.length < 1000000 → k ds → Q (.ref p) H') →
      tLc wi g tt' (te' σ) vs σ H Q := fun s H0 P σ H env XA k Q re x h q =>
  hi s H0 P σ H env XA _ _ re x h fun P1 H1 J xs e1 ij hl h1 D hD => by
    have mem : ∀ i, i ∈ is → i ∈ vs := fun i h => by
      have := List.all_eq_true.mp his i h
      exact List.elem_iff.mp this
    have re1 := re.ext e1
    obtain ⟨I, i0, iS, iE⟩ := h1
    -- the state in the midst: the list's place D beside a heap G in which it isn't
    refine ⟨fun i m H' => m = xs.length - i ∧ i ≤ xs.length ∧ ∃ P' G ds acc, Ext s P1 H1 P' G ∧ G D = none ∧ H' = upd G D (.lst acc) ∧ Rps s P' ds acc ∧ ds.length ≤ i ∧ I i ds, ⟨xs.length, rfl, Nat.zero_le _, P1, H1, [], [], Ext.refl e1.wf, hD, rfl, rps_nil, Nat.le_refl _, i0⟩, ?_⟩
    rintro i m H' ⟨rfl, hi, P', G, ds, acc, eG, gD, rfl, rp, hd, hgo⟩
    have eo : Ext s P' G P' (upd G D (.lst acc)) := ext_own eG.wf gD
    have eO := eG.trans eo
    obtain ⟨j1, j2⟩ := ij P' _ eO
    by_cases hlt : i < xs.length
    · have hx' : xs[i]? = some xs[i] := List.getElem?_eq_getElem hlt
      obtain ⟨go, y⟩ := j1 i _ hx'
      refine Or.inr ⟨go, fun H2 => ∃ P' G ds acc, Ext s P1 H1 P' G ∧ G D = none ∧ H2 = upd G D (.lst acc) ∧ Rps s P' ds acc ∧ ds.length ≤ i + 1 ∧ I (i + 1) ds, fun H2 z => ⟨xs.length - (i + 1), by omega, rfl, hlt, z⟩, fun xv H2 hy => ?_⟩
      obtain ⟨P2, e2, rx⟩ := y _ _ hy
      have hgo := iS i _ _ hx' hgo
      have re2 := ((re1.ext eO).ext e2).wipe vs
      refine hg s H0 P2 _ H2 _ _ _ _ _ re2 rx hgo fun σ3 env3 re3 w3 h3 => ⟨by rw [w3 vs mem]; exact wipe_wipe fun i hi => hi, ?_⟩
      have x2 : XC A s P2 σ3 H2 (E' σ) XA := hx s P σ H XA x _ _ _ (e1.trans (eO.trans e2))
      refine ht σ s H0 P2 σ3 H2 env3 XA _ _ re3 x2 h3 fun P4 H4 b e4 h4 => ?_
      -- the heap without D
      have fin : ∀ {P5 H5}, Ext s P2 H2 P5 H5 → ∃ G5, Ext s P1 H1 P5 G5 ∧ G5 D = none ∧ H5 = upd G5 D (.lst acc) ∧ Same P' P5 := fun {P5 H5} e5 => by
        have e25 := e2.trans e5
        have hD5 : H5 D = some (.lst acc) := e25.keep D _ (fun z => by
          obtain ⟨_, t, _, h3⟩ := e1.wf.sto D z
          rw [hD] at h3
          cases h3) upd_same
        have nP : P5 D = none := by
          cases q5 : P5 D with
          | none => rfl
          | some o =>
            have := e25.new D (eG.wf.sub.free gD) (by rw [q5]; exact fun z => nomatch z)
            rw [upd_same] at this
            cases this
        have ee := eO.trans e25
        have isD : ∀ a, s = some a → a ≠ D := fun a ha z => by
          obtain ⟨_, t, _, h3⟩ := e1.wf.sto a ha
          rw [z, hD] at h3
          cases h3
        refine ⟨del H5 D, ⟨⟨fun b o g => ?_, fun a ha => ?_⟩, ee.sub, fun b o hb g => ?_, ee.new, fun a t t' hs h g => ee.lst a t t' hs h (by rw [del_ne (isD a hs)] at g; exact g)⟩, del_same, ?_, e25.sub⟩
        · have z : b ≠ D := fun z => by rw [z, nP] at g; cases g
          rw [del_ne z]
          exact e25.wf.sub _ _ g
        · obtain ⟨g1, t, g2, g3⟩ := e25.wf.sto a ha
          exact ⟨g1, t, g2, by rw [del_ne (isD a ha)]; exact g3⟩
        · have z : b ≠ D := fun z => by rw [z, hD] at g; cases g
          rw [del_ne z]
          exact ee.keep b o hb g
        · funext b
          by_cases z : b = D
          · rw [z, upd_same, hD5]
          · rw [upd_ne z, del_ne z]
      cases b with
      | true =>
        refine he σ s H0 P4 σ3 H4 env3 XA _ _ (re3.ext e4) (x2.ext e4) h4 fun P5 H5 v d e5 r5 h5 => ?_
        obtain ⟨G5, k1, k2, k3, k4⟩ := fin (e4.trans e5)
        refine ⟨acc, by rw [k3]; exact upd_same, ?_, P5, G5, ds ++ [d], acc ++ [v], k1, k2, by rw [k3, upd_upd], rps_snoc (rps_same k4 _ _ rp) r5, by rw [List.length_append]; show ds.length + 1 ≤ i + 1; omega, h5⟩
        rw [rps_len rp, sizeLine_eq]
        omega
      | false =>
        obtain ⟨G5, k1, k2, k3, k4⟩ := fin e4
        exact ⟨P4, G5, ds, acc, k1, k2, k3, rps_same k4 _ _ rp, by omega, h4⟩
    · have e : i = xs.length := by omega
      subst e
      exact Or.inl ⟨j2 _ (Nat.le_refl _), q P' G _ D acc ds (e1.trans eG) gD rfl rp (by omega) (iE _ hgo)⟩
theorem xc_true {s : Option Addr} {P H : Hp} {σ : L2.St} {XA : Ex → Prop} : XC A s P σ H ET XA := fun _ _ _ _ _ _ _ _ => trivial
theorem re_lc {g : TG} {mg : MG} {is vs : List Nat} (hi : RIc A E wi mi) (hg : RG g mg is) (ht : RT A ET t mt) (he : RE A ET te me) (his : (is.all fun i => vs.contains i) = true := by rfl) : RE A E (tLc wi g t te vs) (mLc mi mg mt me vs) := fun s H0 P σ H env XA k Q re x h q =>
  lc_own hi hg his (E' := fun _ => ET) (fun _ _ _ _ _ _ _ _ _ _ => xc_true) (te' := fun _ => te) (fun _ => ht) (fun _ => he) s H0 P σ H env XA _ Q re x h fun P' H1 H' p acc ds e1 hp hH r hl h1 => by
    subst hH
    have e2 := ext_new (o := .lst acc) e1.wf hp
    refine q _ _ _ (.lst ds) (e1.trans e2) ?_ h1
    simp only [Rp]
    exact ⟨p, acc, rfl, upd_same, rps_same e2.sub _ _ r, hl⟩
theorem re_lcX {W : WX} {g : TG} {mg : MG} {is vs : List Nat} {teX : XK → TE} (hi : RIc A (WE W) wi mi) (hg : RG g mg is) (ht : ∀ V, RT A (fun _ => V) t mt) (he : ∀ V, RE A (fun _ => V) (teX V) me) (his : (is.all fun i => vs.contains i) = true := by rfl) :
    RE A (WE W) (tLcX W wi g t teX vs) (mLc mi mg mt me vs) := fun s H0 P σ H env XA k Q re x h q =>
  lc_own hi hg his (E' := fun σ _ => WE W σ) (fun s P σ H XA x σ' P' H' e P2 H2 z C d e2 h3 h4 => x P2 H2 z C d (e.trans e2) h3 h4) (te' := fun σ => teX (WE W σ)) (fun _ => ht _) (fun _ => he _) s H0 P σ H env XA _ Q re x h fun P' H1 H' p acc ds e1 hp hH r hl h1 => by
    subst hH
    have e2 := ext_new (o := .lst acc) e1.wf hp
    refine q _ _ _ (.lst ds) (e1.trans e2) ?_ h1
    simp only [Rp]
    exact ⟨p, acc, rfl, upd_same, rps_same e2.sub _ _ r, hl⟩
/-! ### reading a list that stands in a slot, whoever has it -/
def seqOf : Sl → Option (List T)
  | .own ds => some ds
  | .d t => itemsOf t
  | _ => none
def mSeqV (i : Nat) (env : Env) (k : List T → Prop) : Prop := ∃ x ds, env[i]? = some (some x) ∧ seqOf x = some ds ∧ k ds
theorem Rel.seq {s : Option Addr} {H0 P H : Hp} {σ : L2.St} {env : Env} {i : Nat} {x : Sl} {ds : List T} (r : Rel s H0 P σ H env) (h : env[i]? = some (some x)) (e : seqOf x = some ds) : ∃ a vs, σ[i]? = some (some (.ref a)) ∧ seqAt H a = some vs ∧ Rps s P ds vs ∧ ds.length < 1000000 := by
  cases x with
  | own es =>
    cases e
    obtain ⟨a, vs, g1, g2, g3, g4, g5, g6, g7⟩ := r.own h
    exact ⟨a, vs, g1, seqAt_l g5, g6, g7⟩
  | d t =>
    obtain ⟨v, g1, g2⟩ := r.data h
    obtain ⟨a, vs, rfl, g3, g4, g5⟩ := rp_items r.wf g2 e
    exact ⟨a, vs, g1, g3, g4, g5⟩
  | ob z C ns es => cases e
  | tr t => cases e
def mLenV (i : Nat) : ME := fun XA env k => mSeqV i env fun ds => ds.length < 1000000 → k (.int ds.length)
theorem re_lenV {i : Nat} : RE A E (tCB rLenH (tCons (tVar i) tNil)) (mLenV i) := fun s H0 P σ H env XA k Q re x ⟨y, ds, h1, h2, h3⟩ q => by
  obtain ⟨a, vs, g1, g2, g3, g4⟩ := re.seq h1 h2
  exact ⟨.ref a, g1, a, vs, rfl, g2, by rw [rps_len g3]; exact q P H _ _ (Ext.refl re.wf) (by simp [Rp]) (h3 g4)⟩
def mIxV (i : Nat) (mb : ME) : ME := fun XA env k => mSeqV i env fun ds => mb XA env fun e => ∃ n t, e = .int n ∧ atI ds n = some t ∧ k t
theorem re_ixV {i : Nat} (hb : RE A E tb mb) : RE A E (tOp rIxH (tVar i) tb) (mIxV i mb) := fun s H0 P σ H env XA k Q re x ⟨y, ds, h1, h2, h3⟩ q => by
  obtain ⟨a, vs, g1, g2, g3, g4⟩ := re.seq h1 h2
  refine ⟨.ref a, g1, hb s H0 P σ H env XA _ _ re x h3 fun P1 H1 w d e1 r1 ⟨n, t, e, et, h4⟩ => ?_⟩
  subst e
  have w1 := (re.ext e1).seq h1 h2
  obtain ⟨a', vs', g1', g2', g3', g4'⟩ := w1
  rw [g1] at g1'
  cases g1'
  obtain ⟨v, hv, rv⟩ := rps_atI g3' et
  exact ⟨a, n, vs', v, rfl, rp_int r1, g2', hv, q P1 H1 v t e1 rv h4⟩
/-! slices -/
def cutT (ds : List T) (lo hi : Option Int) : List T := (ds.drop (HT.sIx ds.length 0 lo)).take (HT.sIx ds.length ds.length hi - HT.sIx ds.length 0 lo)
theorem rps_cut {s : Option Addr} {P : Hp} {ds : List T} {vs : List V} {lo hi : Option Int} (h : Rps s P ds vs) : Rps s P (cutT ds lo hi) (cutV vs lo hi) := by
  unfold cutT cutV
  rw [rps_len h]
  exact rps_take _ (rps_drop _ h)
theorem cutT_len {ds : List T} {lo hi : Option Int} : (cutT ds lo hi).length ≤ ds.length := by
  unfold cutT
  rw [List.length_take, List.length_drop]
  omega
abbrev MO := (Ex → Prop) → Env → (Option Int → Prop) → Prop
def RO (A : Ad) (E : EK) (to : TO) (mo : MO) : Prop := ∀ s H0 P σ H env XA k (R : Option Int → Hp → Prop), Rel s H0 P σ H env → XC A s P σ H E XA → mo XA env k → (∀ P' H' o, Ext s P H P' H' → k o → R o H') → to σ H R
def mNoPart : MO := fun _ _ k => k none
def mPart (me : ME) : MO := fun XA env k => me XA env fun d => ∃ i, d = .int i ∧ k (some i)
theorem ro_no : RO A E tNoPart mNoPart := fun s H0 P σ H env XA k R re x h q => q P H none (Ext.refl re.wf) h
theorem ro_part (ha : RE A E te me) : RO A E (tPart te) (mPart me) := fun s H0 P σ H env XA k R re x h q =>
  ha s H0 P σ H env XA _ _ re x h fun P1 H1 v d e1 r1 ⟨i, h1, h2⟩ => by
    subst h1
    exact ⟨i, rp_int r1, q P1 H1 _ e1 h2⟩
def mSl (me : ME) (ml mh : MO) : ME := fun XA env k => me XA env fun d => ml XA env fun lo => mh XA env fun hi => ∃ ds, d = .lst ds ∧ k (.lst (cutT ds lo hi))
theorem re_sl {tl th : TO} {ml mh : MO} (ha : RE A E te me) (hl : RO A E tl ml) (hh : RO A E th mh) : RE A E (tSl rSlH te tl th) (mSl me ml mh) := fun s H0 P σ H env XA k Q re x h q =>
  ha s H0 P σ H env XA _ _ re x h fun P1 H1 v d e1 r1 h1 => hl s H0 P1 σ H1 env XA _ _ (re.ext e1) (x.ext e1) h1 fun P2 H2 lo e2 h2 => hh s H0 P2 σ H2 env XA _ _ ((re.ext e1).ext e2) ((x.ext e1).ext e2) h2 fun P3 H3 hi e3 ⟨ds, h3, h4⟩ => by
    subst h3
    have r3 := rp_same (e2.sub.trans e3.sub) _ _ r1
    simp only [Rp] at r3
    obtain ⟨a, vs, rfl, g1, g2, g3⟩ := r3
    rw [w_slH (e3.wf.sub _ _ g1)]
    intro p hp
    have e4 := ext_new (o := .lst (cutV vs lo hi)) e3.wf hp
    refine q _ _ _ _ (e1.trans (e2.trans (e3.trans e4))) ?_ h4
    simp only [Rp]
    exact ⟨p, _, rfl, upd_same, rps_same e4.sub _ _ (rps_cut g2), Nat.lt_of_le_of_lt cutT_len g3⟩
end
end Mt
/-! ### statements over data -/
namespace Mt
open PySem PySem.Spec PyProof.Rows L2 L2H
structure MEnds where
  nx : Env → Prop
  rt : T → Prop
  bk : Env → Prop := fun _ => False
  ct : Env → Prop := fun _ => False
  xr : Env → Ex → Prop := fun _ _ => False
  ro : OT → Prop := fun _ => False
abbrev MS := Env → MEnds → Prop
structure Link (A : Ad) (E : EK) (s : Option Addr) (P0 H0 P : Hp) (D : Ends) (M : MEnds) : Prop where
  nx : ∀ P' σ H env, Ext s P0 H0 P' H → Same P P' → Rel s H0 P' σ H env → M.nx env → D.nx σ H
  rt : ∀ P' H v t, Ext s P0 H0 P' H → Same P P' → Rp s P' t v → M.rt t → D.rt v H
  bk : ∀ P' σ H env, Ext s P0 H0 P' H → Same P P' → Rel s H0 P' σ H env → M.bk env → D.bk σ H
  ct : ∀ P' σ H env, Ext s P0 H0 P' H → Same P P' → Rel s H0 P' σ H env → M.ct env → D.ct σ H
  xr : ∀ P' σ H env, Ext s P0 H0 P' H → Same P P' → Rel s H0 P' σ H env → XC A s P' σ H E (M.xr env)
  ro : ∀ P' H v t S, Ext s P0 H0 P' H → Same P P' → OtOk s P' H t S v → S.Nodup → (∀ a, a ∈ S → P' a = none ∧ H0 a = none) → M.ro t → D.rt v H
theorem Link.up {A : Ad} {E : EK} {s : Option Addr} {P0 H0 P P1 : Hp} {D : Ends} {M : MEnds} (l : Link A E s P0 H0 P D M) (h : Same P P1) : Link A E s P0 H0 P1 D M :=
  ⟨fun P' σ H env e g => l.nx P' σ H env e (h.trans g), fun P' H v t e g => l.rt P' H v t e (h.trans g), fun P' σ H env e g => l.bk P' σ H env e (h.trans g), fun P' σ H env e g => l.ct P' σ H env e (h.trans g), fun P' σ H env e g => l.xr P' σ H env e (h.trans g), fun P' H v t S e g => l.ro P' H v t S e (h.trans g)⟩
def RS (A : Ad) (E : EK) (ts : TS) (ms : MS) : Prop := ∀ s P0 H0 P σ H env D M, Ext s P0 H0 P H → Rel s H0 P σ H env → Link A E s P0 H0 P D M → ms env M → ts D σ H
section
variable {A : Ad} {E : EK} {te ta tb tc : TE} {me ma mb mc : ME} {t u : TT} {mt mu : MT} {aa ar : TA} {am : MA} {K : PySem.W.Frag} {wi : TI} {mi : MA} {s1 s2 : TS} {m1 m2 : MS}
def mSeq (m1 m2 : MS) : MS := fun env M => m1 env { M with nx := fun env' => m2 env' M }
theorem rs_seq (h1 : RS A E s1 m1) (h2 : RS A E s2 m2) : RS A E (tSeq s1 s2) (mSeq m1 m2) := fun s P0 H0 P σ H env D M e re l h =>
  h1 s P0 H0 P σ H env _ { M with nx := fun env' => m2 env' M } e re ⟨fun P' σ' H' env' e' g re' h' => h2 s P0 H0 P' σ' H' env' D M e' re' (l.up g) h', l.rt, l.bk, l.ct, l.xr, l.ro⟩ h
def mNext : MS := fun env M => M.nx env
theorem rs_next : RS A E tNext mNext := fun s P0 H0 P σ H env D M e re l h => l.nx P σ H env e (Same.refl _) re h
def mBrk : MS := fun env M => M.bk env
theorem rs_brk : RS A E tBreak mBrk := fun s P0 H0 P σ H env D M e re l h => l.bk P σ H env e (Same.refl _) re h
def mCnt : MS := fun env M => M.ct env
theorem rs_cnt : RS A E tCont mCnt := fun s P0 H0 P σ H env D M e re l h => l.ct P σ H env e (Same.refl _) re h
def mRet (me : ME) : MS := fun env M => me (M.xr env) env M.rt
theorem rs_ret (ha : RE A E te me) : RS A E (tRet te) (mRet me) := fun s P0 H0 P σ H env D M e re l h =>
  ha s H0 P σ H env _ _ _ re (l.xr P σ H env e (Same.refl _) re) h fun P1 H1 v d e1 r1 h1 => l.rt P1 H1 v d (e.trans e1) e1.sub r1 h1
def mRetN : MS := fun env M => M.rt .non
theorem rs_retN : RS A E tRetN mRetN := fun s P0 H0 P σ H env D M e re l h => l.rt P H _ _ e (Same.refl _) (by simp [Rp]) h
def mIfS (mt : MT) (m1 m2 : MS) : MS := fun env M => mt (M.xr env) env fun b => if b = true then m1 env M else m2 env M
theorem rs_if (ht : RT A E t mt) (h1 : RS A E s1 m1) (h2 : RS A E s2 m2) : RS A E (tIfS t s1 s2) (mIfS mt m1 m2) := fun s P0 H0 P σ H env D M e re l h =>
  ht s H0 P σ H env _ _ _ re (l.xr P σ H env e (Same.refl _) re) h fun P1 H1 b e1 h3 => by
    cases b with
    | true => exact h1 s P0 H0 P1 σ H1 env D M (e.trans e1) (re.ext e1) (l.up e1.sub) h3
    | false => exact h2 s P0 H0 P1 σ H1 env D M (e.trans e1) (re.ext e1) (l.up e1.sub) h3
def mDrop (me : ME) : MS := fun env M => me (M.xr env) env fun _ => M.nx env
theorem rs_drop (ha : RE A E te me) : RS A E (tDrop te) (mDrop me) := fun s P0 H0 P σ H env D M e re l h =>
  ha s H0 P σ H env _ _ _ re (l.xr P σ H env e (Same.refl _) re) h fun P1 H1 v d e1 r1 h1 => l.nx P1 σ H1 env (e.trans e1) e1.sub (re.ext e1) h1
def mAsg (me : ME) (mg : MG) : MS := fun env M => me (M.xr env) env fun t => mg t env M.nx
theorem rs_asg {g : TG} {mg : MG} {is : List Nat} (ha : RE A E te me) (hg : RG g mg is) : RS A E (tAsg te g) (mAsg me mg) := fun s P0 H0 P σ H env D M e re l h =>
  ha s H0 P σ H env _ _ _ re (l.xr P σ H env e (Same.refl _) re) h fun P1 H1 v d e1 r1 h1 => hg s H0 P1 σ H1 env d v _ _ (re.ext e1) r1 h1 fun σ2 env2 re2 _ h2 => l.nx P1 σ2 H1 env2 (e.trans e1) e1.sub re2 h2
/-! a new list of one's own -/
def ROw (A : Ad) (E : EK) (te : TE) (mo : MA) : Prop := ∀ s H0 P σ H env XA k (Q : VK), Rel s H0 P σ H env → XC A s P σ H E XA → mo XA env k → (∀ P' H1 p acc ds, Ext s P H P' H1 → H1 p = none → Rps s P' ds acc → ds.length < 1000000 → k ds → Q (.ref p) (upd H1 p (.lst acc))) → te σ H Q
def mOwn (mo : MA) (i : Nat) : MS := fun env M => mo (M.xr env) env fun ds => M.nx (env.set i (some (.own ds)))
theorem h0_free {s : Option Addr} {P0 H0 P H : Hp} {p : Addr} (e : Ext s P0 H0 P H) (hp : H p = none) : H0 p = none := by
  cases q : H0 p with
  | none => rfl
  | some o =>
    by_cases hs : s = some p
    · obtain ⟨_, t, _, h⟩ := e.wf.sto p hs
      rw [hp] at h
      cases h
    · have := e.keep p o hs q
      rw [hp] at this
      cases this
theorem rs_own {mo : MA} {i : Nat} (ha : ROw A E te mo) : RS A E (tAsg te (gName i)) (mOwn mo i) := fun s P0 H0 P σ H env D M e re l h =>
  ha s H0 P σ H env _ _ _ re (l.xr P σ H env e (Same.refl _) re) h fun P1 H1 p acc ds e1 hp r hl h1 => by
    have e2 := ext_own (o := .lst acc) e1.wf hp
    have ee := e.trans e1
    exact l.nx P1 _ _ _ (ee.trans e2) e1.sub ((re.ext e1).putOwn hp (h0_free ee hp) r hl) h1
def mLstO (am : MA) : MA := fun XA env k => am XA env fun ds => ds.length < 1000 ∧ k ds
theorem row_lst (ha : RA A E aa am) : ROw A E (tLst aa) (mLstO am) := fun s H0 P σ H env XA k Q re x h q =>
  ha s H0 P σ H env XA _ _ re x h fun P1 H1 vs ds e1 r1 ⟨h1, h2⟩ => ⟨size_line (by rw [rps_len r1]; omega), fun p hp => q P1 H1 p vs ds e1 hp r1 (by omega) h2⟩
def mListC (am : MA) : MA := fun XA env k => am XA env fun ds => ∃ d es, ds = [d] ∧ itemsOf d = some es ∧ k es
theorem row_list (ha : RA A E aa am) : ROw A E (tCB rListH aa) (mListC am) := fun s H0 P σ H env XA k Q re x h q =>
  ha s H0 P σ H env XA _ _ re x h fun P1 H1 vs ds e1 r1 ⟨d, es, h1, h2, h3⟩ => by
    subst h1
    obtain ⟨v, rfl, g⟩ := rps1 r1
    obtain ⟨a, us, rfl, g1, g2, g3⟩ := rp_items e1.wf g h2
    exact ⟨a, us, rfl, g1, fun p hp => q P1 H1 p us es e1 hp g2 g3 h3⟩
def mLcO (mi : MA) (mg : MG) (mt : MT) (me : ME) (vs : List Nat) : MA := fun XA env k => mi XA env fun xs => lcInv (lcTurn mg mt me XA (wipeE env vs)) xs k
theorem row_lc {g : TG} {mg : MG} {is vs : List Nat} (hi : RIc A E wi mi) (hg : RG g mg is) (ht : RT A ET t mt) (he : RE A ET te me) (his : (is.all fun i => vs.contains i) = true := by rfl) : ROw A E (tLc wi g t te vs) (mLcO mi mg mt me vs) := fun s H0 P σ H env XA k Q re x h q =>
  lc_own hi hg his (E' := fun _ => ET) (fun _ _ _ _ _ _ _ _ _ _ => xc_true) (te' := fun _ => te) (fun _ => ht) (fun _ => he) s H0 P σ H env XA _ Q re x h fun P' H1 H' p acc ds e1 hp hH r hl h1 => by
    subst hH
    exact q P' H1 p acc ds e1 hp r hl h1
theorem row_lcX {W : WX} {g : TG} {mg : MG} {is vs : List Nat} {teX : XK → TE} (hi : RIc A (WE W) wi mi) (hg : RG g mg is) (ht : ∀ V, RT A (fun _ => V) t mt) (he : ∀ V, RE A (fun _ => V) (teX V) me) (his : (is.all fun i => vs.contains i) = true := by rfl) :
    ROw A (WE W) (tLcX W wi g t teX vs) (mLcO mi mg mt me vs) := fun s H0 P σ H env XA k Q re x h q =>
  lc_own hi hg his (E' := fun σ _ => WE W σ) (fun s P σ H XA x σ' P' H' e P2 H2 z C d e2 h3 h4 => x P2 H2 z C d (e.trans e2) h3 h4) (te' := fun σ => teX (WE W σ)) (fun _ => ht _) (fun _ => he _) s H0 P σ H env XA _ Q re x h fun P' H1 H' p acc ds e1 hp hH r hl h1 => by
    subst hH
    exact q P' H1 p acc ds e1 hp r hl h1
def oCatO (ma mb : ME) : MA := fun XA env k => ma XA env fun d => mb XA env fun e => ∃ ds es, d = .lst ds ∧ e = .lst es ∧ ds.length + es.length < 1000000 ∧ k (ds ++ es)
theorem row_cat (ha : RE A E ta ma) (hb : RE A E tb mb) : ROw A E (tOp rCat ta tb) (oCatO ma mb) := fun s H0 P σ H env XA k Q re x h q =>
  ha s H0 P σ H env XA _ _ re x h fun P1 H1 v d e1 r1 h1 => hb s H0 P1 σ H1 env XA _ _ (re.ext e1) (x.ext e1) h1 fun P2 H2 w e e2 r2 ⟨ds, es, g1, g2, g3, g4⟩ => by
    subst g1 g2
    have r1 := rp_same e2.sub _ _ r1
    simp only [Rp] at r1 r2
    obtain ⟨a, vs, rfl, a1, a2, a3⟩ := r1
    obtain ⟨b, ws, rfl, b1, b2, b3⟩ := r2
    rw [w_cat (e2.wf.sub _ _ a1) (e2.wf.sub _ _ b1)]
    exact ⟨size_line (by rw [rps_len a2, rps_len b2]; exact g3), fun p hp => q P2 H2 p _ _ (e1.trans e2) hp (rps_app a2 b2) (by rw [List.length_append]; exact g3) g4⟩
/-- a value that no one keeps apart -/
def mShr (mo : MA) : ME := fun XA env k => mo XA env fun ds => k (.lst ds)
theorem re_own {mo : MA} (ha : ROw A E te mo) : RE A E te (mShr mo) := fun s H0 P σ H env XA k Q re x h q =>
  ha s H0 P σ H env XA _ _ re x h fun P1 H1 p acc ds e1 hp r hl h1 => by
    have e2 := ext_new (o := .lst acc) e1.wf hp
    refine q _ _ _ (.lst ds) (e1.trans e2) ?_ h1
    simp only [Rp]
    exact ⟨p, acc, rfl, upd_same, rps_same e2.sub _ _ r, hl⟩
/-! a list of one's own is changed -/
def mApp (i : Nat) (me : ME) : MS := fun env M => ∃ ds, env[i]? = some (some (.own ds)) ∧ me (M.xr env) env fun t => ds.length + 1 < 1000000 ∧ M.nx (env.set i (some (.own (ds ++ [t]))))
theorem rs_app {i : Nat} (ha : RE A E te me) : RS A E (tDrop (tBM K "list" rAppend (tVar i) (tCons te tNil))) (mApp i me) := fun s P0 H0 P σ H env D M e re l ⟨ds, h1, h2⟩ => by
  obtain ⟨a, vs, g1, g2, g3, g4, g5, g6, g7⟩ := re.own h1
  refine ⟨.ref a, g1, by rw [w_tyL g5]; trivial, ha s H0 P σ H env _ _ _ re (l.xr P σ H env e (Same.refl _) re) h2 fun P1 H1 v d e1 r1 ⟨hl, h3⟩ => ?_⟩
  have re1 := re.ext e1
  obtain ⟨a', vs', q1, q2, q3, q4, q5, q6, q7⟩ := re1.own h1
  rw [g1] at q1
  cases q1
  show rAppend (V.ref a) [v] H1 (fun _ H2 => D.nx σ H2)
  rw [w_append q5]
  refine ⟨by rw [rps_len q6, sizeLine_eq]; omega, ?_⟩
  exact l.nx P1 σ _ _ (ext_change (e.trans e1) q2 q3 q4) e1.sub (re1.change h1 g1 (rps_snoc q6 r1) (by rw [List.length_append]; exact hl)) h3
def mPutI (me : ME) (i : Nat) (mj : ME) : MS := fun env M => me (M.xr env) env fun t => ∃ ds, env[i]? = some (some (.own ds)) ∧ mj (M.xr env) env fun j => ∃ n q, j = .int n ∧ ixN ds.length n = some q ∧ M.nx (env.set i (some (.own (ds.set q t))))
theorem rs_putI {i : Nat} {tj : TE} {mj : ME} (ha : RE A E te me) (hj : RE A E tj mj) : RS A E (tAsg te (gSub (tVar i) tj rSetL)) (mPutI me i mj) := fun s P0 H0 P σ H env D M e re l h =>
  ha s H0 P σ H env _ _ _ re (l.xr P σ H env e (Same.refl _) re) h fun P1 H1 v d e1 r1 ⟨ds, h1, h2⟩ => by
    have re1 := re.ext e1
    obtain ⟨a, vs, g1, g2, g3, g4, g5, g6, g7⟩ := re1.own h1
    refine ⟨.ref a, g1, hj s H0 P1 σ H1 env _ _ _ re1 (l.xr P1 σ H1 env (e.trans e1) e1.sub re1) h2 fun P2 H2 w d2 e2 r2 ⟨n, j, h3, h4, h5⟩ => ?_⟩
    subst h3
    have re2 := re1.ext e2
    obtain ⟨a', vs', q1, q2, q3, q4, q5, q6, q7⟩ := re2.own h1
    rw [g1] at q1
    cases q1
    rw [rp_int r2]
    show rSetL (.ref a) (.int n) v H2 _
    rw [w_setE q5 (j := j) (by rw [rps_len q6]; exact h4)]
    exact l.nx P2 σ _ _ (ext_change (e.trans (e1.trans e2)) q2 q3 q4) (e1.sub.trans e2.sub) (re2.change h1 g1 (rps_set q6 (rp_same e2.sub _ _ r1)) (by rw [List.length_set]; exact q7)) h5
/-- from here on the list in slot i is data -/
def mFrz (i : Nat) (ms : MS) : MS := fun env M => ms (frz env i) M
theorem rs_frz (i : Nat) (h1 : RS A E s1 m1) : RS A E s1 (mFrz i m1) := fun s P0 H0 P σ H env D M e re l h => by
  obtain ⟨P', sp, e', re'⟩ := re.frz i e
  exact h1 s P0 H0 P' σ H _ D M e' re' (l.up sp) h
end
end Mt
/-! ### loops, errors, defs over data -/
namespace Mt
open PySem PySem.Spec PyProof.Rows L2 L2H
section
variable {A : Ad} {E : EK} {te ta tb tc : TE} {me ma mb mc : ME} {t u : TT} {mt mu : MT} {aa ar : TA} {am : MA} {K : PySem.W.Frag} {wi : TI} {mi : MA} {s1 s2 ts : TS} {m1 m2 ms : MS}
/-- a loop by an invariant over the turn and the slots -/
def forInv (mg : MG) (mb : MS) (M : MEnds) (xs : List T) (env : Env) : Prop := ∃ I : Nat → Env → Prop, I 0 env ∧ (∀ i x env, xs[i]? = some x → I i env → mg x env fun env' => mb env' { nx := I (i + 1), rt := M.rt, bk := M.nx, ct := I (i + 1), xr := M.xr, ro := M.ro }) ∧ ∀ env, I xs.length env → M.nx env
def mFor (mi : MA) (mg : MG) (mb : MS) : MS := fun env M => mi (M.xr env) env fun xs => forInv mg mb M xs env
theorem rs_for {g : TG} {mg : MG} {is : List Nat} {mb : MS} (hi : RI A E wi mi) (hg : RG g mg is) (hb : RS A E ts mb) : RS A E (tFor wi g ts) (mFor mi mg mb) := fun s P0 H0 P σ H env D M e re l h =>
  hi s H0 P σ H env _ _ _ re (l.xr P σ H env e (Same.refl _) re) h fun P1 H1 J xs e1 ij hl h1 => by
    obtain ⟨I, i0, iS, iE⟩ := h1
    refine ⟨fun i m σ H => m = xs.length - i ∧ i ≤ xs.length ∧ ∃ P' env, Ext s P0 H0 P' H ∧ Same P1 P' ∧ Rel s H0 P' σ H env ∧ I i env, ⟨xs.length, rfl, Nat.zero_le _, P1, env, e.trans e1, Same.refl _, re.ext e1, i0⟩, ?_⟩
    rintro i m σ H ⟨rfl, hi, P', env', e', sp, re', hgo⟩
    obtain ⟨j1, j2⟩ := ij P' H sp re'.wf
    by_cases hlt : i < xs.length
    · have hx' : xs[i]? = some xs[i] := List.getElem?_eq_getElem hlt
      obtain ⟨go, y⟩ := j1 i _ hx'
      have hgo := iS i _ _ hx' hgo
      refine Or.inr ⟨go, fun σ H => ∃ P' env, Ext s P0 H0 P' H ∧ Same P1 P' ∧ Rel s H0 P' σ H env ∧ I (i + 1) env, fun σ H z => ⟨xs.length - (i + 1), by omega, rfl, hlt, z⟩, fun xv H2 hy => ?_⟩
      obtain ⟨P2, e2, rx⟩ := y _ _ hy
      refine hg s H0 P2 σ H2 _ _ _ _ _ (re'.ext e2) rx hgo fun σ3 env3 re3 _ h3 => ?_
      have sp2 := sp.trans e2.sub
      exact hb s P0 H0 P2 σ3 H2 env3 _ { nx := I (i + 1), rt := M.rt, bk := M.nx, ct := I (i + 1), xr := M.xr, ro := M.ro } (e'.trans e2) re3
        ⟨fun P4 σ H env a b c d => ⟨P4, env, a, sp2.trans b, c, d⟩, fun P4 H v t a b => l.rt P4 H v t a (e1.sub.trans (sp2.trans b)), fun P4 σ H env a b => l.nx P4 σ H env a (e1.sub.trans (sp2.trans b)), fun P4 σ H env a b c d => ⟨P4, env, a, sp2.trans b, c, d⟩, fun P4 σ H env a b => l.xr P4 σ H env a (e1.sub.trans (sp2.trans b)), fun P4 H v t S a b => l.ro P4 H v t S a (e1.sub.trans (sp2.trans b))⟩ h3
    · have ei : i = xs.length := by omega
      subst ei
      exact Or.inl ⟨j2 _ (Nat.le_refl _), l.nx P' σ H env' e' (e1.sub.trans sp) re' (iE _ hgo)⟩
def mWhile (mt : MT) (mb : MS) : MS := fun env M => ∃ I : Nat → Env → Prop, (∃ n, I n env) ∧ ∀ n env, I n env → mt (M.xr env) env fun b => if b = true then mb env { nx := fun env' => ∃ m, m < n ∧ I m env', rt := M.rt, bk := M.nx, ct := fun env' => ∃ m, m < n ∧ I m env', xr := M.xr, ro := M.ro } else M.nx env
theorem rs_while {mb : MS} (ht : RT A E t mt) (hb : RS A E ts mb) : RS A E (tWhile t ts) (mWhile mt mb) := fun s P0 H0 P σ H env D M e re l ⟨I, ⟨n, h1⟩, h2⟩ => by
  refine ⟨fun m σ H => ∃ P' env, Ext s P0 H0 P' H ∧ Same P P' ∧ Rel s H0 P' σ H env ∧ I m env, ⟨n, P, env, e, Same.refl _, re, h1⟩, ?_⟩
  rintro m σ H ⟨P', env', e', sp, re', hI⟩
  refine ht s H0 P' σ H env' _ _ _ re' (l.xr P' σ H env' e' sp re') (h2 m env' hI) fun P1 H1 b e1 h3 => ?_
  cases b with
  | true =>
    refine ⟨fun σ H => ∃ m', m' < m ∧ ∃ P' env, Ext s P0 H0 P' H ∧ Same P P' ∧ Rel s H0 P' σ H env ∧ I m' env, fun σ H z => z, ?_⟩
    have sp1 := sp.trans e1.sub
    exact hb s P0 H0 P1 σ H1 env' _ { nx := fun env' => ∃ m', m' < m ∧ I m' env', rt := M.rt, bk := M.nx, ct := fun env' => ∃ m', m' < m ∧ I m' env', xr := M.xr, ro := M.ro } (e'.trans e1) (re'.ext e1)
      ⟨fun P4 σ H env a b c ⟨m', d, f⟩ => ⟨m', d, P4, env, a, sp1.trans b, c, f⟩, fun P4 H v t a b => l.rt P4 H v t a (sp1.trans b), fun P4 σ H env a b => l.nx P4 σ H env a (sp1.trans b), fun P4 σ H env a b c ⟨m', d, f⟩ => ⟨m', d, P4, env, a, sp1.trans b, c, f⟩, fun P4 σ H env a b => l.xr P4 σ H env a (sp1.trans b), fun P4 H v t S a b => l.ro P4 H v t S a (sp1.trans b)⟩ h3
  | false => exact l.nx P1 σ H1 env' (e'.trans e1) (sp.trans e1.sub) (re'.ext e1) h3
/-! x op= e; a, b = e, f -/
def RIp (r : TIp) (o : T → T → (T → Prop) → Prop) : Prop := ∀ s P H x y d e k Q, WF s P H → Rp s P d x → Rp s P e y → o d e k → (∀ P' H' v t, Ext s P H P' H' → Rp s P' t v → k t → Q v H') → r x y H Q
def mAug (i : Nat) (me : ME) (o : T → T → (T → Prop) → Prop) : MS := fun env M => ∃ d, env[i]? = some (some (.d d)) ∧ me (M.xr env) env fun e => o d e fun t => M.nx (env.set i (some (.d t)))
theorem rs_aug {i : Nat} {r : TIp} {o : T → T → (T → Prop) → Prop} (ho : RIp r o) (ha : RE A E te me) : RS A E (tAug i te r) (mAug i me o) := fun s P0 H0 P σ H env D M e re l ⟨d, h1, h2⟩ => by
  obtain ⟨v, g1, g2⟩ := re.data h1
  refine ⟨v, g1, ha s H0 P σ H env _ _ _ re (l.xr P σ H env e (Same.refl _) re) h2 fun P1 H1 w f e1 r1 h3 => ho s P1 H1 v w d f _ _ e1.wf (rp_same e1.sub _ _ g2) r1 h3 fun P2 H2 z t e2 r2 h4 => ?_⟩
  exact l.nx P2 _ H2 _ (e.trans (e1.trans e2)) (e1.sub.trans e2.sub) (((re.ext e1).ext e2).put r2) h4
def mPar (i j : Nat) (am : MA) : MS := fun env M => am (M.xr env) env fun ds => ∃ a b, ds = [a, b] ∧ M.nx ((env.set i (some (.d a))).set j (some (.d b)))
theorem rs_par {i j : Nat} (ha : RA A E aa am) : RS A E (tPar i j aa) (mPar i j am) := fun s P0 H0 P σ H env D M e re l h =>
  ha s H0 P σ H env _ _ _ re (l.xr P σ H env e (Same.refl _) re) h fun P1 H1 vs ds e1 r1 ⟨a, b, h1, h2⟩ => by
    subst h1
    obtain ⟨v, w, rfl, g1, g2⟩ := rps2 r1
    exact ⟨v, w, rfl, l.nx P1 _ H1 _ (e.trans e1) e1.sub (((re.ext e1).put g1).put g2) h2⟩
/-! raise C(e), C one of the classes whose errors bear an argument -/
def mRaise (c : Ec) (me : ME) : MS := fun env M => me (M.xr env) env fun d => M.xr env (.arg c d)
theorem rs_raise {W : WX} {c : Ec} {C : Addr} (hC : C = c.adr A) (hat : c.attr = "argument") (ha : RE A (WE W) te me) : RS A (WE W) (fun _ σ H => tMkO C (sp_init K C) [] (tCons te tNil) σ H fun cls d H' => W cls d σ H') (mRaise c me) := fun s P0 H0 P σ H env D M e re l h => by
  have xc := l.xr P σ H env e (Same.refl _) re
  show tMkO C (sp_init K C) [] (tCons te tNil) σ H _
  rw [w_mkO]
  refine ha s H0 P σ H env _ _ _ re xc h fun P1 H1 v d e1 r1 h1 => ?_
  refine ⟨by show 1 ≤ 1000; decide, fun a hna => ?_⟩
  show sp_init K C [V.ref a, v] _ _ _
  refine u_mkO (Q := fun cls d H' => W cls d σ H') (fun dd hd => ?_) a hna
  have e2 := ext_own (o := .xd [("argument", v)]) e1.wf hd
  refine xc P1 _ (.arg c d) _ _ (e1.trans e2) h1 ⟨by rw [hC], dd, v, rfl, ?_, r1⟩
  rw [hat]
  exact upd_same
/-! try: .. except C as n: suite -/
/-- the classes' places, where each is one of C -/
structure AllOf (K : PySem.W.Frag) (A : Ad) (C : Value) : Prop where
  bn : PySem.W.exmOne K (.ref A.bn) C = some true
  bs : PySem.W.exmOne K (.ref A.bs) C = some true
  be : PySem.W.exmOne K (.ref A.be) C = some true
  bt : PySem.W.exmOne K (.ref A.bt) C = some true
  tl : PySem.W.exmOne K (.ref A.tl) C = some true
  cl : PySem.W.exmOne K (.ref A.cl) C = some true
  ni : PySem.W.exmOne K (.ref A.ni) C = some true
  nm : PySem.W.exmOne K (.ref A.nm) C = some true
  en : PySem.W.exmOne K (.ref A.en) C = some true
/-- which errors the clause takes -/
def Takes1 (K : PySem.W.Frag) (A : Ad) (C : Value) (x : Ex) : Prop := match x with
  | .arg c _ => PySem.W.exmOne K (.ref (c.adr A)) C = some true
  | .ni => PySem.W.exmOne K (.ref A.ni) C = some true
  | .nm => PySem.W.exmOne K (.ref A.nm) C = some true
  | .en => PySem.W.exmOne K (.ref A.en) C = some true
theorem takes1_cls {C cls : Value} {x : Ex} {s : Option Addr} {P H : Hp} {d : Option Addr} (h : Takes1 K A C x) (g : ExAt A s P H x cls d) : PySem.W.exmOne K cls C = some true := by
  cases x with
  | arg c pl => rw [g.1]; exact h
  | ni => rw [g.1]; exact h
  | nm => rw [g.1]; exact h
  | en => rw [g.1]; exact h
/-- the suite's reading, and what is left over data: the error x caught -/
def RH (A : Ad) (E : EK) (i : Nat) (ts : Addr → Value → Option Addr → TS) (mh : Ex → MS) : Prop := ∀ a cls d x s P0 H0 P σ H env D M, σ[i]? = some (some (.ref a)) → H a = none → ExAt A s P H x cls d → Ext s P0 H0 P H → Rel s H0 P σ H env → Link A E s P0 H0 P D M → mh x env M → ts a cls d D σ H
def tryM (K : PySem.W.Frag) (A : Ad) (C : Value) (i : Nat) (mh : Ex → MS) (M : MEnds) : MEnds := { M with xr := fun env' x => Takes1 K A C x ∧ i < env'.length ∧ mh x (env'.set i none) { nx := fun e2 => M.nx (e2.set i none), rt := M.rt, bk := fun e2 => M.bk (e2.set i none), ct := fun e2 => M.ct (e2.set i none), xr := M.xr, ro := M.ro } }
def mTry (K : PySem.W.Frag) (A : Ad) (C : Value) (i : Nat) (mb : MS) (mh : Ex → MS) : MS := fun env M => mb env (tryM K A C i mh M)
theorem rs_try {C : Value} {i : Nat} {tb : WX → TS} {mb : MS} {mh : Ex → MS} {ts : Addr → Value → Option Addr → TS} {Wout : WX} (hb : ∀ W, RS A (WE W) (tb W) mb) (hh : RH A E i ts mh) : RS A E (fun D σ H => tb (wAs K C i ts Wout D) D σ H) (mTry K A C i mb mh) := fun s P0 H0 P σ H env D M e re l h => by
  refine hb (wAs K C i ts Wout D) s P0 H0 P σ H env D (tryM K A C i mh M) e re ⟨l.nx, l.rt, l.bk, l.ct, fun P1 σ1 H1 env1 e1 sp re1 P2 H2 x cls d e2 hx hat => ?_, l.ro⟩ h
  obtain ⟨hk, hil, hx⟩ := hx
  refine ⟨true, takes1_cls hk hat, fun _ a ha => ?_, fun z => nomatch z⟩
  have re2 := re1.ext e2
  have li : i < σ1.length := by rw [re1.len]; exact hil
  have sp2 := sp.trans e2.sub
  refine hh a cls d x s P0 H0 P2 _ H2 _ _ { nx := fun e2 => M.nx (e2.set i none), rt := M.rt, bk := fun e2 => M.bk (e2.set i none), ct := fun e2 => M.ct (e2.set i none), xr := M.xr, ro := M.ro } (List.getElem?_set_self li) ha hat (e1.trans e2) re2.drop ⟨fun P3 σ3 H3 env3 a3 b3 c3 => l.nx P3 _ H3 _ a3 (sp2.trans b3) c3.drop, fun P3 H3 v t a3 b3 => l.rt P3 H3 v t a3 (sp2.trans b3), fun P3 σ3 H3 env3 a3 b3 c3 => l.bk P3 _ H3 _ a3 (sp2.trans b3) c3.drop, fun P3 σ3 H3 env3 a3 b3 c3 => l.ct P3 _ H3 _ a3 (sp2.trans b3) c3.drop, fun P3 σ3 H3 env3 a3 b3 => l.xr P3 σ3 H3 env3 a3 (sp2.trans b3), fun P3 H3 v t S a3 b3 => l.ro P3 H3 v t S a3 (sp2.trans b3)⟩ hx
/-- a suite that does not look at the error -/
theorem rh_plain {i : Nat} {ts : TS} {ms : MS} (h : RS A E ts ms) : RH A E i (fun _ _ _ => ts) (fun _ => ms) := fun a cls d x s P0 H0 P σ H env D M _ _ _ e re l hm => h s P0 H0 P σ H env D M e re l hm
/-! a def's run -/
def startE (n : Nat) (ds : List T) : Env := ds.map (fun d => some (Sl.d d)) ++ List.replicate (n - ds.length) none
theorem rel_start {s : Option Addr} {P H : Hp} {N : List Str} {ds : List T} {vs : List V} (w : WF s P H) (r : Rps s P ds vs) : Rel s H P (L2.start N vs) H (startE N.length ds) := by
  refine ⟨w, ?_, fun _ => [], fun i j a hi _ ha => (nomatch ha), fun i x hx => ?_⟩
  · rw [w_start]
    unfold startE
    rw [List.length_append, List.length_append, List.length_map, List.length_map, List.length_replicate, List.length_replicate, rps_len r]
  · unfold startE at hx
    rcases Nat.lt_or_ge i ds.length with z | z
    · rw [List.getElem?_append_left (by rw [List.length_map]; exact z), List.getElem?_map, List.getElem?_eq_getElem z] at hx
      cases hx
      obtain ⟨v, h1, h2⟩ := rps_at r (List.getElem?_eq_getElem z)
      refine ⟨v, ?_, h2⟩
      rw [w_start, List.getElem?_append_left (by rw [List.length_map, rps_len r]; exact z), List.getElem?_map, h1]
      rfl
    · rw [List.getElem?_append_right (by rw [List.length_map]; exact z), List.getElem?_replicate] at hx
      split at hx <;> cases hx
theorem run0 {s : Option Addr} {P H : Hp} {ds : List T} {k : T → Prop} {XA : Ex → Prop} {N : List Str} {vs : List V} {Q : VK} {ts : TS} {ms : MS} (h1 : WF s P H) (h2 : Rps s P ds vs) (h5 : ∀ P' H' v d, Ext s P H P' H' → Rp s P' d v → k d → Q v H') (r : RS A ET ts ms) (u : ms (startE N.length ds) { nx := fun _ => k .non, rt := k, xr := fun _ => XA }) :
    ts { nx := fun _ H' => Q .non H', rt := Q } (L2.start N vs) H :=
  r s P H P _ H _ _ { nx := fun _ => k .non, rt := k, xr := fun _ => XA } (Ext.refl h1) (rel_start h1 h2) ⟨fun P' σ H' env e _ _ h => h5 P' H' _ _ e (by simp [Rp]) h, fun P' H' v t e _ rp h => h5 P' H' v t e rp h, fun _ _ _ _ _ _ _ h => h.elim, fun _ _ _ _ _ _ _ h => h.elim, fun _ _ _ _ _ _ _ => xc_true, fun _ _ _ _ _ _ _ _ _ _ h => h.elim⟩ u
theorem runX {s : Option Addr} {P H : Hp} {ds : List T} {k : T → Prop} {XA : Ex → Prop} {N : List Str} {vs : List V} {Q : VK} {E' : XK} {W : WX} {ts : TS} {ms : MS} (h1 : WF s P H) (h2 : Rps s P ds vs) (h5 : ∀ P' H' v d, Ext s P H P' H' → Rp s P' d v → k d → Q v H') (h6 : ∀ P' H' x C d, Ext s P H P' H' → XA x → ExAt A s P' H' x C d → E' C d H') (hW : ∀ cls d σ H, E' cls d H → W cls d σ H) (r : RS A (WE W) ts ms) (u : ms (startE N.length ds) { nx := fun _ => k .non, rt := k, xr := fun _ => XA }) :
    ts { nx := fun _ H' => Q .non H', rt := Q } (L2.start N vs) H :=
  r s P H P _ H _ _ { nx := fun _ => k .non, rt := k, xr := fun _ => XA } (Ext.refl h1) (rel_start h1 h2) ⟨fun P' σ H' env e _ _ h => h5 P' H' _ _ e (by simp [Rp]) h, fun P' H' v t e _ rp h => h5 P' H' v t e rp h, fun _ _ _ _ _ _ _ h => h.elim, fun _ _ _ _ _ _ _ h => h.elim, fun P' σ H' env e _ _ P2 H2 x C d e2 hx hat => hW _ _ _ _ (h6 P2 H2 x C d (e.trans e2) hx hat), fun _ _ _ _ _ _ _ _ _ _ h => h.elim⟩ u
end
end Mt
/-! ### more operators; the words by rewriting; calls with keywords -/
namespace Mt
open PySem PySem.Spec PyProof.Rows L2 L2H
section
variable {X : Cx}
def rMax2H : List V → Hp → VK → Prop := fun xs H Q => ∃ i j, xs = [.int i, .int j] ∧ Q (.int (if j > i then j else i)) H
def rMin2H : List V → Hp → VK → Prop := fun xs H Q => ∃ i j, xs = [.int i, .int j] ∧ Q (.int (if j < i then j else i)) H
def rDivmodH : List V → Hp → VK → Prop := fun xs H Q => ∃ i j, xs = [.int i, .int j] ∧ CDiv i j ∧ ∀ p, H p = none → Q (.ref p) (upd H p (.tup [.int (i / j), .int (i % j)]))
theorem call_max2H (hc : X.calm = true) : CallR X (.builtin "max") rMax2H := call_max2 hc
theorem call_min2H (hc : X.calm = true) : CallR X (.builtin "min") rMin2H := call_min2 hc
def rIsNH : R2 := fun x y H Q => y = .non ∧ Q (.bl (decide (x = .non))) H
def rNotNH : R2 := fun x y H Q => y = .non ∧ Q (.bl (!decide (x = .non))) H
theorem op_isNH : OpR X (compareOp .Is) rIsNH := op_isN
theorem op_notNH : OpR X (compareOp .IsNot) rNotNH := op_notN
theorem call_divmodH : CallR X (.builtin "divmod") rDivmodH := call_divmod
end
section
variable {A : Ad} {E : EK} {te ta tb tc : TE} {me ma mb mc : ME} {t u : TT} {mt mu : MT} {aa ar ak : TA} {am ap : MA} {K : PySem.W.Frag} {wi : TI} {mi : MA} {s1 s2 ts : TS} {m1 m2 ms : MS}
def oMax : List T → (T → Prop) → Prop := fun ds k => ∃ i j, ds = [.int i, .int j] ∧ k (.int (max i j))
def oMin : List T → (T → Prop) → Prop := fun ds k => ∃ i j, ds = [.int i, .int j] ∧ k (.int (min i j))
def oDivmod : List T → (T → Prop) → Prop := fun ds k => ∃ i j, ds = [.int i, .int j] ∧ CDiv i j ∧ k (.tup [.int (i / j), .int (i % j)])
theorem rcb_max2 : RCB rMax2H oMax := fun s P H vs ds k Q w h ⟨i, j, g1, h3⟩ q => by
  subst g1
  obtain ⟨v, u, rfl, h1, h2⟩ := rps2 h
  have e : (if j > i then j else i) = max i j := by omega
  exact ⟨i, j, by rw [rp_int h1, rp_int h2], by rw [e]; exact q P H _ _ (Ext.refl w) (by simp [Rp]) h3⟩
theorem rcb_min2 : RCB rMin2H oMin := fun s P H vs ds k Q w h ⟨i, j, g1, h3⟩ q => by
  subst g1
  obtain ⟨v, u, rfl, h1, h2⟩ := rps2 h
  have e : (if j < i then j else i) = min i j := by omega
  exact ⟨i, j, by rw [rp_int h1, rp_int h2], by rw [e]; exact q P H _ _ (Ext.refl w) (by simp [Rp]) h3⟩
theorem rcb_divmod : RCB rDivmodH oDivmod := fun s P H vs ds k Q w h ⟨i, j, g1, c, h3⟩ q => by
  subst g1
  obtain ⟨v, u, rfl, h1, h2⟩ := rps2 h
  refine ⟨i, j, by rw [rp_int h1, rp_int h2], c, fun p hp => ?_⟩
  have e2 := ext_new (o := .tup [.int (i / j), .int (i % j)]) w hp
  refine q _ _ _ _ e2 ?_ h3
  simp only [Rp]
  exact ⟨p, _, rfl, upd_same, rps_cons (by simp [Rp]) (rps_cons (by simp [Rp]) rps_nil), by show 2 < 1000000; decide⟩
/-! is None, is not None by the operators' rules -/
def oIsN : T → T → (T → Prop) → Prop := fun d e k => e = .non ∧ k (.bl (isNon d))
def oNotN : T → T → (T → Prop) → Prop := fun d e k => e = .non ∧ k (.bl (!isNon d))
theorem ro_isN : ROp rIsNH oIsN := fun s P H x y d e k Q w h1 h2 ⟨e1, h⟩ q => by
  subst e1
  simp only [Rp] at h2
  exact ⟨h2, by rw [rp_non h1]; exact q P H _ _ (Ext.refl w) (by simp [Rp]) h⟩
theorem ro_notN : ROp rNotNH oNotN := fun s P H x y d e k Q w h1 h2 ⟨e1, h⟩ q => by
  subst e1
  simp only [Rp] at h2
  exact ⟨h2, by rw [rp_non h1]; exact q P H _ _ (Ext.refl w) (by simp [Rp]) h⟩
theorem oIsN_w {d : T} {k : T → Prop} : oIsN d .non k = k (.bl (isNon d)) := propext ⟨fun h => h.2, fun h => ⟨rfl, h⟩⟩
theorem oNotN_w {d : T} {k : T → Prop} : oNotN d .non k = k (.bl (!isNon d)) := propext ⟨fun h => h.2, fun h => ⟨rfl, h⟩⟩
/-! the caught error is looked at by a def -/
def exName : Ex → Str
  | .arg .bn _ => "BadNumber"
  | .arg .bs _ => "BadShape"
  | .arg .be _ => "BadElement"
  | .arg .bt _ => "BadText"
  | .arg .tl _ => "TooLarge"
  | .arg .cl _ => "Clash"
  | .ni => "NoInverse"
  | .nm => "NotMade"
  | .en => "Ended"
def exPl : Ex → T
  | .arg _ p => p
  | _ => .non
/-- a def of a suite that tells the error by its name and what it bears: of the errors with an argument -/
def SpK (A : Ad) (al : Ec → Bool) (p : Addr × Obj) : Sp := fun vs H Q _ => ∃ (c : Ec) (d : Addr) (y : V), vs = [.ref p.1] ∧ al c = true ∧ c.attr = "argument" ∧ ErrAt p (c.adr A) d ∧ H d = some (.xd [("argument", y)]) ∧
  ∀ t H', Same H H' → H t = none → H' t = some (.tup [.str (exName (.arg c .non)), y]) → Q (.ref t) H'
def mKind (al : Ec → Bool) (x : Ex) : MS := fun _ M => ∃ c pl, x = .arg c pl ∧ al c = true ∧ c.attr = "argument" ∧ M.rt (.tup [.str (exName x), pl])
theorem exName_pl {c : Ec} {a b : T} : exName (.arg c a) = exName (.arg c b) := by cases c <;> rfl
theorem rh_kind {al : Ec → Bool} {i : Nat} : RH A E i (fun a cls d => tRet (tCallE a cls d (SpK A al) (tCons (tVar i) tNil))) (mKind al) := fun a cls d x s P0 H0 P σ H env D M hi ha hx e re l ⟨c, pl, hx2, hal, hat, h⟩ => by
  subst hx2
  obtain ⟨rfl, dd, v, rfl, hd, hr⟩ := hx
  refine ⟨_, dd, rfl, rfl, .ref a, hi, fun oe he => ⟨c, dd, v, rfl, hal, hat, he, by rw [hat] at hd; exact hd, fun t H' sm ht et => ?_⟩⟩
  -- the new pair is data; what else is new is nobody's
  have w := re.wf
  have tP : P t = none := w.sub.free ht
  have sP : Same P (upd P t (.tup [.str (exName (.arg c .non)), v])) := same_new tP
  have ts : ∀ b, s = some b → b ≠ t := fun b hb z => by
    obtain ⟨_, u, _, h3⟩ := w.sto b hb
    rw [z, ht] at h3
    cases h3
  have e2 : Ext s P H (upd P t (.tup [.str (exName (.arg c .non)), v])) H' := by
    refine ⟨⟨fun b o g => ?_, fun b hb => ?_⟩, sP, fun b o _ g => sm _ _ g, fun b hb g => ?_, fun a t t' _ h g => st_inj (sm _ _ h) g⟩
    · by_cases z : b = t
      · rw [z, upd_same] at g
        rw [z, ← g]
        exact et
      · rw [upd_ne z] at g
        exact sm _ _ (w.sub _ _ g)
    · obtain ⟨g1, u, g2, g3⟩ := w.sto b hb
      exact ⟨by rw [upd_ne (ts b hb)]; exact g1, u, stok_same sP g2, sm _ _ g3⟩
    · by_cases z : b = t
      · rw [z]
        exact ht
      · rw [upd_ne z] at g
        exact absurd hb g
  refine l.rt _ H' (.ref t) _ (e.trans e2) sP ?_ h
  simp only [Rp]
  exact ⟨t, _, rfl, upd_same, rps_cons (by simp only [Rp]; rw [exName_pl]) (rps_cons (rp_same sP _ _ hr) rps_nil), by show 2 < 1000000; decide⟩
/-! ### readings by rewriting -/
theorem oI_w {g : Int → Int → Int} {a b : Int} {k : T → Prop} : oI g (.int a) (.int b) k = k (.int (g a b)) := propext ⟨fun ⟨i, j, e1, e2, h⟩ => by cases e1; cases e2; exact h, fun h => ⟨a, b, rfl, rfl, h⟩⟩
theorem oB_w {g : Int → Int → Bool} {a b : Int} {k : T → Prop} : oB g (.int a) (.int b) k = k (.bl (g a b)) := propext ⟨fun ⟨i, j, e1, e2, h⟩ => by cases e1; cases e2; exact h, fun h => ⟨a, b, rfl, rfl, h⟩⟩
theorem oIC_w {C : Int → Int → Prop} {g : Int → Int → Int} {a b : Int} {k : T → Prop} : oIC C g (.int a) (.int b) k = (C a b ∧ k (.int (g a b))) := propext ⟨fun ⟨i, j, e1, e2, c, h⟩ => by cases e1; cases e2; exact ⟨c, h⟩, fun ⟨c, h⟩ => ⟨a, b, rfl, rfl, c, h⟩⟩
theorem oU_w {g : Int → Int} {a : Int} {k : T → Prop} : oU g (.int a) k = k (.int (g a)) := propext ⟨fun ⟨i, e1, h⟩ => by cases e1; exact h, fun h => ⟨a, rfl, h⟩⟩
theorem isB_w {b : Bool} {k : Bool → Prop} : isB (.bl b) k = k b := propext ⟨fun ⟨c, e, h⟩ => by cases e; exact h, fun h => ⟨b, rfl, h⟩⟩
theorem oEq_w {a b : T} {k : T → Prop} : oEq a b k = ∃ c, scEq a b = some c ∧ k (.bl c) := rfl
theorem oNe_w {a b : T} {k : T → Prop} : oNe a b k = ∃ c, scEq a b = some c ∧ k (.bl (!c)) := rfl
theorem exS_w {α : Type} {a : α} {R : α → Prop} : (∃ c, some a = some c ∧ R c) = R a := propext ⟨fun ⟨c, e, h⟩ => by cases e; exact h, fun h => ⟨a, rfl, h⟩⟩
theorem oIx_w {d : T} {i : Int} {k : T → Prop} : oIx d (.int i) k = ∃ ds, itemsOf d = some ds ∧ ∃ t, atI ds i = some t ∧ k t := propext ⟨fun ⟨ds, j, t, h1, e, h2, h⟩ => by cases e; exact ⟨ds, h1, t, h2, h⟩, fun ⟨ds, h1, t, h2, h⟩ => ⟨ds, i, t, h1, rfl, h2, h⟩⟩
theorem items_l {ds : List T} : itemsOf (.lst ds) = some ds := rfl
theorem items_t {ds : List T} : itemsOf (.tup ds) = some ds := rfl
theorem oLen_w {d : T} {k : T → Prop} : oLen [d] k = ∃ es, itemsOf d = some es ∧ (es.length < 1000000 → k (.int es.length)) := propext ⟨fun ⟨d', es, e, h1, h⟩ => by cases e; exact ⟨es, h1, h⟩, fun ⟨es, h1, h⟩ => ⟨d, es, rfl, h1, h⟩⟩
theorem oAbs_w {i : Int} {k : T → Prop} : oAbs [.int i] k = k (.int (if i < 0 then -i else i)) := propext ⟨fun ⟨a, e, h⟩ => by cases e; exact h, fun h => ⟨i, rfl, h⟩⟩
theorem oInt_i {i : Int} {k : T → Prop} : oInt [.int i] k = k (.int i) := propext ⟨fun h => by rcases h with ⟨a, e, h⟩ | ⟨a, e, h⟩ <;> cases e; exact h, fun h => Or.inl ⟨i, rfl, h⟩⟩
theorem oInt_b {i : Bool} {k : T → Prop} : oInt [.bl i] k = k (.int (if i = true then 1 else 0)) := propext ⟨fun h => by rcases h with ⟨a, e, h⟩ | ⟨a, e, h⟩ <;> cases e; exact h, fun h => Or.inr ⟨i, rfl, h⟩⟩
theorem oGcd_w {a b : Int} {k : T → Prop} : oGcd [.int a, .int b] k = k (.int ((Nat.gcd a.natAbs b.natAbs : Nat) : Int)) := propext ⟨fun ⟨i, j, e, h⟩ => by cases e; exact h, fun h => ⟨a, b, rfl, h⟩⟩
theorem oMax_w {a b : Int} {k : T → Prop} : oMax [.int a, .int b] k = k (.int (max a b)) := propext ⟨fun ⟨i, j, e, h⟩ => by cases e; exact h, fun h => ⟨a, b, rfl, h⟩⟩
theorem oMin_w {a b : Int} {k : T → Prop} : oMin [.int a, .int b] k = k (.int (min a b)) := propext ⟨fun ⟨i, j, e, h⟩ => by cases e; exact h, fun h => ⟨a, b, rfl, h⟩⟩
theorem oDivmod_w {a b : Int} {k : T → Prop} : oDivmod [.int a, .int b] k = (CDiv a b ∧ k (.tup [.int (a / b), .int (a % b)])) := propext ⟨fun ⟨i, j, e, c, h⟩ => by cases e; exact ⟨c, h⟩, fun ⟨c, h⟩ => ⟨a, b, rfl, c, h⟩⟩
theorem oStr_w {i : Int} {k : T → Prop} : oStr [.int i] k = (i.natAbs.log2 < 1920 ∧ k (.str (Str.ofString (toString i)))) := propext ⟨fun ⟨a, e, c, h⟩ => by cases e; exact ⟨c, h⟩, fun ⟨c, h⟩ => ⟨i, rfl, c, h⟩⟩
theorem oType_w {d : T} {k : T → Prop} : oType [d] k = ∃ n, tyT d = some n ∧ k (.ty n) := propext ⟨fun ⟨d', n, e, h1, h⟩ => by cases e; exact ⟨n, h1, h⟩, fun ⟨n, h1, h⟩ => ⟨d, n, rfl, h1, h⟩⟩
theorem oIs1_w {d : T} {n : String} {k : T → Prop} : oIs1 [d, .ty n] k = ∃ m, tyT d = some m ∧ ∃ b, kitB m n = some b ∧ k (.bl b) := propext ⟨fun ⟨d', n', m, b, e, h1, h2, h⟩ => by cases e; exact ⟨m, h1, b, h2, h⟩, fun ⟨m, h1, b, h2, h⟩ => ⟨d, n, m, b, rfl, h1, h2, h⟩⟩
theorem oIs2_w {d : T} {n1 n2 : String} {k : T → Prop} : oIs2 [d, .tup [.ty n1, .ty n2]] k = ∃ m, tyT d = some m ∧ ∃ b, kitB m n1 = some b ∧ ∃ c, kitB m n2 = some c ∧ k (.bl (b || c)) :=
  propext ⟨fun ⟨d', a, a', m, b, c, e, h1, h2, h3, h⟩ => by cases e; exact ⟨m, h1, b, h2, c, h3, h⟩, fun ⟨m, h1, b, h2, c, h3, h⟩ => ⟨d, n1, n2, m, b, c, rfl, h1, h2, h3, h⟩⟩
theorem oIsTy_w {m n : String} {k : T → Prop} : oIsTy (.ty m) (.ty n) k = k (.bl (decide (m = n))) := propext ⟨fun ⟨a, b, e1, e2, h⟩ => by cases e1; cases e2; exact h, fun h => ⟨m, n, rfl, rfl, h⟩⟩
theorem oCat_w {a b : List T} {k : T → Prop} : oCat (.lst a) (.lst b) k = (a.length + b.length < 1000000 ∧ k (.lst (a ++ b))) := propext ⟨fun ⟨i, j, e1, e2, c, h⟩ => by cases e1; cases e2; exact ⟨c, h⟩, fun ⟨c, h⟩ => ⟨a, b, rfl, rfl, c, h⟩⟩
theorem exD_w {x : T} {R : T → Prop} : (∃ d, some (some (Sl.d x)) = some (some (Sl.d d)) ∧ R d) = R x := propext ⟨fun ⟨c, e, h⟩ => by cases e; exact h, fun h => ⟨x, rfl, h⟩⟩
theorem exO_w {x : List T} {R : List T → Prop} : (∃ d, some (some (Sl.own x)) = some (some (Sl.own d)) ∧ R d) = R x := propext ⟨fun ⟨c, e, h⟩ => by cases e; exact h, fun h => ⟨x, rfl, h⟩⟩
theorem exD2_w {x : T} {R : T → Prop} : (∃ d, Sl.d x = Sl.d d ∧ R d) = R x := propext ⟨fun ⟨c, e, h⟩ => by cases e; exact h, fun h => ⟨x, rfl, h⟩⟩
theorem exO2_w {x : List T} {R : List T → Prop} : (∃ d, Sl.own x = Sl.own d ∧ R d) = R x := propext ⟨fun ⟨c, e, h⟩ => by cases e; exact h, fun h => ⟨x, rfl, h⟩⟩
theorem scEq_i {i j : Int} : scEq (.int i) (.int j) = some (decide (i = j)) := rfl
theorem scEq_b {i j : Bool} : scEq (.bl i) (.bl j) = some (decide (i = j)) := rfl
theorem scEq_s {i j : Str} : scEq (.str i) (.str j) = some (decide (i = j)) := rfl
theorem scEq_n : scEq .non .non = some true := rfl
theorem exL_w {x : List T} {R : List T → Prop} : (∃ d, T.lst x = T.lst d ∧ R d) = R x := propext ⟨fun ⟨c, e, h⟩ => by cases e; exact h, fun h => ⟨x, rfl, h⟩⟩
theorem exT_w {x : List T} {R : List T → Prop} : (∃ d, T.tup x = T.tup d ∧ R d) = R x := propext ⟨fun ⟨c, e, h⟩ => by cases e; exact h, fun h => ⟨x, rfl, h⟩⟩
theorem exI_w {x : Int} {R : Int → Prop} : (∃ d, T.int x = T.int d ∧ R d) = R x := propext ⟨fun ⟨c, e, h⟩ => by cases e; exact h, fun h => ⟨x, rfl, h⟩⟩
theorem ex1_w {x : T} {R : T → Prop} : (∃ d, [x] = [d] ∧ R d) = R x := propext ⟨fun ⟨c, e, h⟩ => by cases e; exact h, fun h => ⟨x, rfl, h⟩⟩
theorem ex1i_w {x : Int} {R : Int → Prop} : (∃ d, [T.int x] = [T.int d] ∧ R d) = R x := propext ⟨fun ⟨c, e, h⟩ => by cases e; exact h, fun h => ⟨x, rfl, h⟩⟩
theorem mSeqV_w {i : Nat} {env : Env} {k : List T → Prop} : mSeqV i env k = ∃ x, env[i]? = some (some x) ∧ ∃ ds, seqOf x = some ds ∧ k ds := propext ⟨fun ⟨x, ds, h1, h2, h⟩ => ⟨x, h1, ds, h2, h⟩, fun ⟨x, h1, ds, h2, h⟩ => ⟨x, ds, h1, h2, h⟩⟩
theorem exX_w {x : Sl} {R : Sl → Prop} : (∃ d, some (some x) = some (some d) ∧ R d) = R x := propext ⟨fun ⟨c, e, h⟩ => by cases e; exact h, fun h => ⟨x, rfl, h⟩⟩
theorem seqOf_o {ds : List T} : seqOf (.own ds) = some ds := rfl
theorem seqOf_d {t : T} : seqOf (.d t) = itemsOf t := rfl
theorem mgCons_w {m : MG} {ms : MGs} {t : T} {ts : List T} {env : Env} {k : Env → Prop} : mgCons m ms (t :: ts) env k = m t env fun env' => ms ts env' k := propext ⟨fun ⟨a, b, e, h⟩ => by cases e; exact h, fun h => ⟨t, ts, rfl, h⟩⟩
theorem mgNil_w {env : Env} {k : Env → Prop} : mgNil [] env k = k env := propext ⟨fun ⟨_, h⟩ => h, fun h => ⟨rfl, h⟩⟩
theorem mgTup_w {n : Nat} {ms : MGs} {ds : List T} {env : Env} {k : Env → Prop} : mgTup n ms (.tup ds) env k = (ds.length = n ∧ ms ds env k) := propext ⟨fun ⟨a, e, h⟩ => by cases e; exact h, fun h => ⟨ds, rfl, h⟩⟩
theorem listC_w {x : T} {R : List T → Prop} : (∃ d es, [x] = [d] ∧ itemsOf d = some es ∧ R es) = ∃ es, itemsOf x = some es ∧ R es := propext ⟨fun ⟨d, es, e, h1, h⟩ => by cases e; exact ⟨es, h1, h⟩, fun ⟨es, h1, h⟩ => ⟨x, es, rfl, h1, h⟩⟩
theorem putI_w {j : Int} {m : Nat} {R : Nat → Prop} : (∃ n q, T.int j = T.int n ∧ ixN m n = some q ∧ R q) = ∃ q, ixN m j = some q ∧ R q := propext ⟨fun ⟨n, q, e, h1, h⟩ => by cases e; exact ⟨q, h1, h⟩, fun ⟨q, h1, h⟩ => ⟨j, q, rfl, h1, h⟩⟩
theorem ixV_w {j : Int} {ds : List T} {R : T → Prop} : (∃ n t, T.int j = T.int n ∧ atI ds n = some t ∧ R t) = ∃ t, atI ds j = some t ∧ R t := propext ⟨fun ⟨n, q, e, h1, h⟩ => by cases e; exact ⟨q, h1, h⟩, fun ⟨q, h1, h⟩ => ⟨j, q, rfl, h1, h⟩⟩
theorem exPar_w {a b : T} {R : T → T → Prop} : (∃ x y, [a, b] = [x, y] ∧ R x y) = R a b := propext ⟨fun ⟨x, y, e, h⟩ => by cases e; exact h, fun h => ⟨a, b, rfl, h⟩⟩
theorem rng1_w {j : Int} {R : Int → Prop} : (∃ i, [T.int j] = [T.int i] ∧ i < 1000000 ∧ -1000000 < i ∧ R i) = (j < 1000000 ∧ -1000000 < j ∧ R j) := propext ⟨fun ⟨x, e, h⟩ => by cases e; exact h, fun h => ⟨j, rfl, h⟩⟩
theorem rng2_w {a b : Int} {R : Int → Int → Prop} : (∃ i j, [T.int a, T.int b] = [T.int i, T.int j] ∧ R i j) = R a b := propext ⟨fun ⟨x, y, e, h⟩ => by cases e; exact h, fun h => ⟨a, b, rfl, h⟩⟩
def lcGo (f : T → (Option T → Prop) → Prop) : List T → List T → (List T → Prop) → Prop
  | [], acc, k => k acc
  | x :: xs, acc, k => f x fun o => match o with
    | some d => lcGo f xs (acc ++ [d]) k
    | none => lcGo f xs acc k
/-- turn by turn -/
theorem lc_go {f : T → (Option T → Prop) → Prop} {xs : List T} {k : List T → Prop} (h : lcGo f xs [] k) : lcInv f xs k := by
  refine ⟨fun i acc => lcGo f (xs.drop i) acc k, h, fun i x acc hx hi => ?_, fun acc hi => ?_⟩
  · obtain ⟨hlt, he⟩ := List.getElem?_eq_some_iff.mp hx
    replace hi : lcGo f (xs.drop i) acc k := hi
    rw [List.drop_eq_getElem_cons hlt, he] at hi
    exact hi
  · replace hi : lcGo f (xs.drop xs.length) acc k := hi
    rw [List.drop_length] at hi
    exact hi
/-- every item gives one value or none -/
theorem lc_pure {f : T → (Option T → Prop) → Prop} {xs : List T} {k : List T → Prop} (G : T → Option T) (h : ∀ (i : Nat) (x : T) r, xs[i]? = some x → r (G x) → f x r) (hk : k (xs.filterMap G)) : lcInv f xs k := by
  have st : ∀ (i : Nat) (x : T), xs[i]? = some x → (xs.take (i + 1)).filterMap G = (xs.take i).filterMap G ++ (G x).toList := fun i x hx => by
    rw [List.take_add_one, hx, List.filterMap_append]
    cases q : G x with
    | none => simp [q]
    | some d => simp [q]
  refine ⟨fun i acc => acc = (xs.take i).filterMap G, by simp, fun i x acc hx e => ?_, fun acc e => ?_⟩
  · refine h i x _ hx ?_
    have e : acc = (xs.take i).filterMap G := e
    have s := st i x hx
    cases q : G x with
    | none =>
      show acc = (xs.take (i + 1)).filterMap G
      rw [s, q, e]
      simp
    | some d =>
      show acc ++ [d] = (xs.take (i + 1)).filterMap G
      rw [s, q, e]
      simp
  · have e : acc = (xs.take xs.length).filterMap G := e
    rw [e, List.take_length]
    exact hk
theorem lc_map {f : T → (Option T → Prop) → Prop} {xs : List T} {k : List T → Prop} (G : Nat → T) (h : ∀ (i : Nat) (x : T) r, xs[i]? = some x → r (some (G i)) → f x r) (hk : k ((List.range xs.length).map G)) : lcInv f xs k := by
  refine ⟨fun i acc => acc = (List.range i).map G, rfl, fun i x acc hx e => ?_, fun acc e => ?_⟩
  · refine h i x _ hx ?_
    have e : acc = (List.range i).map G := e
    show acc ++ [G i] = (List.range (i + 1)).map G
    rw [List.range_succ, List.map_append, e]
    rfl
  · have e : acc = (List.range xs.length).map G := e
    rw [e]
    exact hk
theorem rng_at {a : Int} {n i : Nat} {x : T} (h : (rngT a n)[i]? = some x) : i < n ∧ x = .int (a + (i : Nat)) := by
  unfold rngT at h
  rw [List.getElem?_map] at h
  by_cases z : i < n
  · rw [List.getElem?_range z] at h
    cases h
    exact ⟨z, rfl⟩
  · rw [List.getElem?_eq_none (by rw [List.length_range]; omega)] at h
    cases h
def forGo (mg : MG) (mb : MS) (M : MEnds) : List T → Env → Prop
  | [], env => M.nx env
  | x :: xs, env => mg x env fun env' => mb env' { nx := forGo mg mb M xs, rt := M.rt, bk := M.nx, ct := forGo mg mb M xs, xr := M.xr, ro := M.ro }
theorem for_go {mg : MG} {mb : MS} {M : MEnds} {xs : List T} {env : Env} (h : forGo mg mb M xs env) : forInv mg mb M xs env := by
  refine ⟨fun i env => forGo mg mb M (xs.drop i) env, h, fun i x env hx hi => ?_, fun env hi => ?_⟩
  · obtain ⟨hlt, he⟩ := List.getElem?_eq_some_iff.mp hx
    replace hi : forGo mg mb M (xs.drop i) env := hi
    rw [List.drop_eq_getElem_cons hlt, he] at hi
    exact hi
  · replace hi : forGo mg mb M (xs.drop xs.length) env := hi
    rw [List.drop_length] at hi
    exact hi
theorem lcGo_n {f : T → (Option T → Prop) → Prop} {acc : List T} {k : List T → Prop} : lcGo f [] acc k = k acc := rfl
theorem lcGo_c {f : T → (Option T → Prop) → Prop} {x : T} {xs acc : List T} {k : List T → Prop} : lcGo f (x :: xs) acc k = f x fun o => match o with
    | some d => lcGo f xs (acc ++ [d]) k
    | none => lcGo f xs acc k := rfl
theorem forGo_n {mg : MG} {mb : MS} {M : MEnds} {env : Env} : forGo mg mb M [] env = M.nx env := rfl
theorem forGo_c {mg : MG} {mb : MS} {M : MEnds} {x : T} {xs : List T} {env : Env} : forGo mg mb M (x :: xs) env = mg x env fun env' => mb env' { nx := forGo mg mb M xs, rt := M.rt, bk := M.nx, ct := forGo mg mb M xs, xr := M.xr, ro := M.ro } := rfl
theorem frz_w {env : Env} {i : Nat} : frz env i = match env[i]? with
  | some (some (.own ds)) => env.set i (some (.d (.lst ds)))
  | some (some (.ob _ C ns ds)) => env.set i (some (.d (.obj C ns ds)))
  | some (some (.tr t)) => env.set i (some (.d t.t))
  | _ => env := rfl
theorem rngT_0 {a : Int} : rngT a 0 = [] := rfl
theorem rngT_s {a : Int} {n : Nat} : rngT a (n + 1) = .int a :: rngT (a + 1) n := by
  unfold rngT
  rw [List.range_succ_eq_map, List.map_cons, List.map_map]
  congr 1
  · simp
  · refine List.map_congr_left fun i _ => ?_
    show T.int (a + ((i + 1 : Nat) : Int)) = T.int (a + 1 + i)
    congr 1
    omega
end
end Mt
/-! ### the store of drawn numbers; the law's own run; plain helpers -/
namespace Mt
open PySem PySem.Spec PyProof.Rows L2 L2H
theorem wr_self {H : Hp} {a : Addr} {t : Sto} (h : H a = some (.lst (stV t))) : Wr (del H a) a t = H := by
  funext b
  show upd (del H a) a (.lst (stV t)) b = H b
  by_cases z : b = a
  · rw [z, upd_same, h]
  · rw [upd_ne z, del_ne z]
/-- a drawn number below many, by the heap -/
def sp_take : Sp := fun vs H Q _ => ∃ (G : Hp) (s : Addr) (t : Sto) (m : Int), vs = [.ref s, .int m] ∧ H = Wr G s t ∧ G s = none ∧ StOk G t ∧ m.natAbs < 2 ^ 200 ∧
  ∀ (r : Int) (t' : Sto), StOk G t' → t'.l = t.l → t'.ns = t.ns → 0 ≤ r → (r < m ∨ (m < 2 ∧ r = 0)) → Q (.int r) (Wr G s t')
/-- a drawn number below many -/
def c_law_take : Ct := fun ds k _ => ∃ m : Int, ds = [.sto, .int m] ∧ m.natAbs < 2 ^ 200 ∧ ∀ r : Int, 0 ≤ r → (r < m ∨ (m < 2 ∧ r = 0)) → k (.int r)
theorem take_spec {A : Ad} {vs : List V} {H : Hp} {Q : VK} {E : XK} (h : SpU A 2 c_law_take vs H Q E) : sp_take vs H Q E := by
  obtain ⟨s, P, ds, k, XA, w, r, _, ⟨m, rfl, hm, hk⟩, q, _⟩ := h
  obtain ⟨v, u, rfl, h1, h2⟩ := rps2 r
  simp only [Rp] at h1 h2
  obtain ⟨a, rfl, rfl⟩ := h1
  subst h2
  obtain ⟨g1, t, g2, g3⟩ := w.sto a rfl
  have sG : Same P (del H a) := fun b o e => by
    have z : b ≠ a := fun z => by
      rw [z, g1] at e
      cases e
    rw [del_ne z]
    exact w.sub _ _ e
  refine ⟨del H a, a, t, m, rfl, (wr_self g3).symm, del_same, stok_same sG g2, hm, fun x t' ok e1 e2 x0 x1 => q P _ _ _ ⟨⟨fun b o e => ?_, fun b hb => ?_⟩, Same.refl _, fun b o hb e => ?_, fun b hb g => absurd hb g, fun b u u' hb h g => ?_⟩ (by simp [Rp]) (hk x x0 x1)⟩
  · have z : b ≠ a := fun z => by
      rw [z, g1] at e
      cases e
    show upd (del H a) a _ b = _
    rw [upd_ne z]
    exact sG _ _ e
  · cases hb
    refine ⟨g1, t', ⟨by rw [e1, e2]; exact g2.at_, ok.i0, ok.il, ok.g0, ok.gi⟩, ?_⟩
    show upd (del H a) a _ a = _
    rw [upd_same]
  · have z : b ≠ a := fun z => hb (by rw [z])
    show upd (del H a) a _ b = _
    rw [upd_ne z, del_ne z]
    exact e
  · cases hb
    have g : upd (del H a) a (.lst (stV t')) a = _ := g
    rw [upd_same] at g
    exact (st_inj rfl g).trans (e1.trans (st_inj h g3))
def sp_mixed : Sp := fun vs H Q _ => ∃ a b, vs = [.int a, .int b] ∧ ∀ r : Int, 0 ≤ r → Q (.int r) H
/-- a new store over the script -/
def sp_store (K : PySem.W.Frag) : Sp := fun vs H Q _ => ∃ (a : Addr) (ns : List Int), vs = [.ref a] ∧ SqL K H a (ns.map V.int) ∧ ns.length ≤ 63 ∧
  ∀ (G : Hp) (s : Addr) (t : Sto), Same H G → H s = none → G s = none → StOk G t → Q (.ref s) (Wr G s t)
def sp_law (K : PySem.W.Frag) : Sp := fun vs H Q _ => ∃ (a : Addr) (ns : List Int), vs = [.ref a] ∧ SqL K H a (ns.map V.int) ∧ ns.length ≤ 63 ∧ ∀ H', Q (.bl true) H'
/-- what follows the store's making -/
theorem run_law {A : Ad} {E : EK} {a st : Addr} {G : Hp} {t : Sto} {m : Nat} {Q : VK} {ts : TS} {ms : MS} (hs : G st = none) (ok : StOk G t) (q : ∀ H', Q (.bl true) H') (r : RS A E ts ms)
    (u : ms (none :: some (.d .sto) :: List.replicate m none) { nx := fun _ => False, rt := fun d => d = .bl true }) (hE : ∀ σ C d H, E σ C d H ∨ True) :
    ts { nx := fun _ H' => Q .non H', rt := Q } (some (.ref a) :: some (.ref st) :: List.replicate m none) (Wr G st t) := by
  have ls : t.l ≠ st := ne_of_none ok.at_ hs
  have w : WF (some st) (fun b => if b = t.l then some (.lst (t.ns.map V.int)) else none) (Wr G st t) := by
    refine ⟨fun b o e => ?_, fun b hb => ?_⟩
    · by_cases z : b = t.l
      · have e : (if b = t.l then some (HO.lst (t.ns.map V.int)) else none) = some o := e
        rw [if_pos z] at e
        cases e
        rw [z]
        exact wr_l ok hs
      · have e : (if b = t.l then some (HO.lst (t.ns.map V.int)) else none) = some o := e
        rw [if_neg z] at e
        cases e
    · cases hb
      exact ⟨if_neg (Ne.symm ls), t, ⟨if_pos rfl, ok.i0, ok.il, ok.g0, ok.gi⟩, wr_s⟩
  refine r (some st) _ (Wr G st t) _ _ _ _ _ { nx := fun _ => False, rt := fun d => d = .bl true } (Ext.refl w) ⟨w, by simp, fun _ => [], fun i j a hi _ ha => (nomatch ha), fun i x hx => ?_⟩ ⟨fun _ _ _ _ _ _ _ h => h.elim, fun P' H' v d _ _ rp h => by rw [h] at rp; rw [rp_bl rp]; exact q H', fun _ _ _ _ _ _ _ h => h.elim, fun _ _ _ _ _ _ _ h => h.elim, fun P' σ H env _ _ _ P2 H2 x C d _ h => h.elim, fun _ _ _ _ _ _ _ _ _ _ h => h.elim⟩ u
  · match i, hx with
    | 0, h => cases h
    | 1, h =>
      cases h
      refine ⟨.ref st, rfl, ?_⟩
      simp only [Rp]
      exact ⟨st, rfl, rfl⟩
    | i + 2, h =>
      rw [List.getElem?_cons_succ, List.getElem?_cons_succ, List.getElem?_replicate] at h
      split at h <;> cases h
theorem tf {b : Bool} {p : Prop} (h : b = true) (e : b = false) : p := by
  rw [h] at e
  cases e
def wholeT : T → Int → Int → Bool
  | .int i, lo, hi => decide (lo ≤ i) && decide (i ≤ hi)
  | _, _, _ => false
/-! two data the same -/
mutual
def sameT : T → T → Bool
  | .non, .non => true
  | .bl a, .bl b => decide (a = b)
  | .int a, .int b => decide (a = b)
  | .str a, .str b => decide (a = b)
  | .lst a, .lst b => sameTs a b
  | .tup a, .tup b => sameTs a b
  | _, _ => false
def sameTs : List T → List T → Bool
  | [], [] => true
  | a :: as, b :: bs => sameT a b && sameTs as bs
  | _, _ => false
end
mutual
/-- None, bools, ints, texts, lists and tuples of such, so deep -/
def okT : Nat → T → Bool
  | _, .non => true
  | _, .bl _ => true
  | _, .int _ => true
  | _, .str _ => true
  | 0, _ => false
  | n + 1, .lst a => okTs n a
  | n + 1, .tup a => okTs n a
  | _, _ => false
def okTs : Nat → List T → Bool
  | _, [] => true
  | n, a :: as => okT n a && okTs n as
end
theorem okTs_at : ∀ {n : Nat} {ds : List T} {i : Nat} {d : T}, okTs n ds = true → ds[i]? = some d → okT n d = true
  | n, [], i, d, h, e => by simp at e
  | n, a :: as, 0, d, h, e => by
    simp only [okTs, Bool.and_eq_true] at h
    cases e
    exact h.1
  | n, a :: as, i + 1, d, h, e => by
    simp only [okTs, Bool.and_eq_true] at h
    exact okTs_at h.2 e
theorem sameTs_len : ∀ {a b : List T}, a.length ≠ b.length → sameTs a b = false
  | [], [], h => absurd rfl h
  | [], _ :: _, _ => by simp [sameTs]
  | _ :: _, [], _ => by simp [sameTs]
  | a :: as, b :: bs, h => by
    simp only [sameTs]
    rw [sameTs_len (fun e => h (congrArg Nat.succ e)), Bool.and_false]
mutual
theorem sameT_refl : ∀ {n : Nat} {a : T}, okT n a = true → sameT a a = true
  | n, .non, h => by simp [sameT]
  | n, .bl b, h => by simp [sameT]
  | n, .int b, h => by simp [sameT]
  | n, .str b, h => by simp [sameT]
  | 0, .lst ds, h => by simp [okT] at h
  | 0, .tup ds, h => by simp [okT] at h
  | n + 1, .lst ds, h => by
    simp only [okT] at h
    simp only [sameT]
    exact sameTs_refl h
  | n + 1, .tup ds, h => by
    simp only [okT] at h
    simp only [sameT]
    exact sameTs_refl h
  | 0, .ty _, h => by simp [okT] at h
  | n + 1, .ty _, h => by simp [okT] at h
  | 0, .sto, h => by simp [okT] at h
  | 0, .kc _, h => by simp [okT] at h
  | 0, .fi _, h => by simp [okT] at h
  | n + 1, .sto, h => by simp [okT] at h
  | n + 1, .kc _, h => by simp [okT] at h
  | n + 1, .fi _, h => by simp [okT] at h
  | 0, .obj _ _ _, h => by simp [okT] at h
  | n + 1, .obj _ _ _, h => by simp [okT] at h
theorem sameTs_refl : ∀ {n : Nat} {a : List T}, okTs n a = true → sameTs a a = true
  | n, [], h => by simp [sameTs]
  | n, a :: as, h => by
    simp only [okTs, Bool.and_eq_true] at h
    simp only [sameTs, Bool.and_eq_true]
    exact ⟨sameT_refl h.1, sameTs_refl h.2⟩
end
mutual
theorem okT_up : ∀ {n : Nat} {a : T}, okT n a = true → okT (n + 1) a = true
  | n, .non, h => by simp [okT]
  | n, .bl b, h => by simp [okT]
  | n, .int b, h => by simp [okT]
  | n, .str b, h => by simp [okT]
  | 0, .lst ds, h => by simp [okT] at h
  | 0, .tup ds, h => by simp [okT] at h
  | n + 1, .lst ds, h => by
    simp only [okT] at h ⊢
    exact okTs_up h
  | n + 1, .tup ds, h => by
    simp only [okT] at h ⊢
    exact okTs_up h
  | 0, .ty _, h => by simp [okT] at h
  | n + 1, .ty _, h => by simp [okT] at h
  | 0, .sto, h => by simp [okT] at h
  | 0, .kc _, h => by simp [okT] at h
  | 0, .fi _, h => by simp [okT] at h
  | n + 1, .sto, h => by simp [okT] at h
  | n + 1, .kc _, h => by simp [okT] at h
  | n + 1, .fi _, h => by simp [okT] at h
  | 0, .obj _ _ _, h => by simp [okT] at h
  | n + 1, .obj _ _ _, h => by simp [okT] at h
theorem okTs_up : ∀ {n : Nat} {a : List T}, okTs n a = true → okTs (n + 1) a = true
  | n, [], h => by simp [okTs]
  | n, a :: as, h => by
    simp only [okTs, Bool.and_eq_true] at h ⊢
    exact ⟨okT_up h.1, okTs_up h.2⟩
end
theorem okT_le {n m : Nat} {a : T} (h : okT n a = true) (l : n ≤ m) : okT m a = true := by
  obtain ⟨d, rfl⟩ := Nat.exists_eq_add_of_le l
  clear l
  induction d with
  | zero => exact h
  | succ d ih => exact okT_up ih
def c_law_same (n : Nat) : Ct := fun ds k _ => ∃ a b, ds = [a, b] ∧ okT n a = true ∧ okT 20 b = true ∧ k (.bl (sameT a b))
/-- two values that are the same -/
theorem same_yes {n : Nat} {a b : T} {k : T → Prop} {XA : Ex → Prop} (e : a = b) (h : okT n a = true) (hk : k (.bl true)) (hn : n ≤ 20 := by decide) : c_law_same n [a, b] k XA := by
  subst e
  exact ⟨a, a, rfl, h, okT_le h hn, by rw [sameT_refl h]; exact hk⟩
theorem okT_ty {n : Nat} {a : T} (h : okT n a = true) : ∃ m, tyT a = some m := by
  cases a with
  | ty _ => cases n <;> simp [okT] at h
  | sto => cases n <;> simp [okT] at h
  | kc _ => cases n <;> simp [okT] at h
  | fi _ => cases n <;> simp [okT] at h
  | obj _ _ _ => cases n <;> simp [okT] at h
  | _ => exact ⟨_, rfl⟩
/-- the law's run: the store is made, then the rest -/
theorem run_law2 {A : Ad} {E' : EK} {K : PySem.W.Frag} {N : List Str} {m : Nat} {vs : List V} {H : Hp} {Q : VK} {E : XK} {ts : TS} {ms : MS} (hN : N.length = m + 2) (h : sp_law K vs H Q E) (r : RS A E' ts ms)
    (u : ms (none :: some (.d .sto) :: List.replicate m none) { nx := fun _ => False, rt := fun d => d = .bl true }) :
    tSeq (tAsg (tCall (sp_store K) [] E0 (tCons (tVar 0) tNil)) (gName 1)) ts { nx := fun _ H' => Q .non H', rt := Q } (L2.start N vs) H := by
  obtain ⟨a, ns, rfl, hL, hz, q⟩ := h
  refine ⟨.ref a, ?_, a, ns, rfl, hL, hz, fun G st t s0 ns0 hs ok => ?_⟩
  · rw [w_start]
    rfl
  · have e : (L2.start N [V.ref a]).set 1 (some (.ref st)) = some (.ref a) :: some (.ref st) :: List.replicate m none := by
      rw [w_start, hN]
      rfl
    show ts _ ((L2.start N [V.ref a]).set 1 (some (.ref st))) (Wr G st t)
    rw [e]
    exact run_law (A := A) hs ok q r u fun _ _ _ _ => Or.inr trivial
/-! ### the names of caught errors -/
def kindS (b1 b2 : Bool) : Str := if b1 = true then "BadNumber" else if b2 = true then "BadShape" else "BadElement"
def sp_kind (K : PySem.W.Frag) (A : Ad) (p : Addr × Obj) : Sp := fun vs H Q _ => ∃ (C d : Addr) (y : V) (b1 b2 b3 : Bool), vs = [.ref p.1] ∧ ErrAt p C d ∧ XcC K C ∧ PySem.W.findIn K (.ref C) "argument" = some none ∧ Kinds K A C b1 b2 b3 ∧
  ((b1, b2, b3) = (true, false, false) ∨ (b1, b2, b3) = (false, true, false) ∨ (b1, b2, b3) = (false, false, true)) ∧ H d = some (.xd [("argument", y)]) ∧
  ∀ t H', Same H H' → H t = none → H' t = some (.tup [.str (kindS b1 b2), y]) → Q (.ref t) H'
structure KOne (K : PySem.W.Frag) (A : Ad) (C : Addr) (b1 b2 b3 : Bool) : Prop where
  xc : XcC K C
  no : PySem.W.findIn K (.ref C) "argument" = some none
  kk : Kinds K A C b1 b2 b3
structure KOk (K : PySem.W.Frag) (A : Ad) (al : Ec → Bool) : Prop where
  bn : al .bn = true → KOne K A A.bn true false false
  bs : al .bs = true → KOne K A A.bs false true false
  be : al .be = true → KOne K A A.be false false true
theorem kind_spec {K : PySem.W.Frag} {A : Ad} {al : Ec → Bool} (O : KOk K A al) {p : Addr × Obj} {vs : List V} {H : Hp} {Q : VK} {E : XK} (h : SpK A al p vs H Q E) : sp_kind K A p vs H Q E := by
  obtain ⟨c, d, y, e1, hal, hat, z, hd, q⟩ := h
  cases c with
  | bn => exact ⟨A.bn, d, y, true, false, false, e1, z, (O.bn hal).xc, (O.bn hal).no, (O.bn hal).kk, Or.inl rfl, hd, fun t H' s ht e => q t H' s ht e⟩
  | bs => exact ⟨A.bs, d, y, false, true, false, e1, z, (O.bs hal).xc, (O.bs hal).no, (O.bs hal).kk, Or.inr (Or.inl rfl), hd, fun t H' s ht e => q t H' s ht e⟩
  | be => exact ⟨A.be, d, y, false, false, true, e1, z, (O.be hal).xc, (O.be hal).no, (O.be hal).kk, Or.inr (Or.inr rfl), hd, fun t H' s ht e => q t H' s ht e⟩
  | bt => exact absurd hat (by decide)
  | tl => exact absurd hat (by decide)
  | cl => exact absurd hat (by decide)
theorem FnE.imp {P : Program} {w : World} {K : PySem.W.Frag} {mg : Str → Option Value} {base : Heap} {k : Nat} {f : Addr} {fd : FuncData} {ps : List Str} {sp sp' : Addr × Obj → Sp} (F : FnE P w K mg base k f fd ps sp) (h : ∀ p vs H Q E, sp' p vs H Q E → sp p vs H Q E) : FnE P w K mg base k f fd ps sp' :=
  ⟨fun p vs H Q E g => F.len p vs H Q E (h _ _ _ _ _ g), fun p A outer s H args us vs Q E a b c d e f g => F.run p A outer s H args us vs Q E a b c d e f (h _ _ _ _ _ g)⟩
/-- a def of the top -/
def Dn (K : PySem.W.Frag) (x : Str) (s : Stmt) : Prop := ∃ f fd, PySem.W.nsIn K mainGlobals x = some (some (.ref f)) ∧ Fun K x x s f fd
theorem exm_sub {K : PySem.W.Frag} {C S : Addr} (h1 : PySem.W.subIn K (.ref S) (.type "BaseException") = some true) (h2 : PySem.W.isClsIn K S = true) (h3 : PySem.W.typeIn K (.ref S) = some (.type "type")) (h4 : PySem.W.subIn K (.ref C) (.ref S) = some true) : PySem.W.exmOne K (.ref C) (.ref S) = some true := by
  have e1 : (PySem.W.subIn K (.ref S) (.type "BaseException") == some true) = true := by rw [h1] <;> rfl
  have e2 : ((PySem.W.clsIn K S).isSome && PySem.W.typeIn K (.ref S) == some (.type "type")) = true := by
    have h2' : (PySem.W.clsIn K S).isSome = true := h2
    rw [h2', h3] <;> rfl
  show (if _ = true then (if _ = true then _ else none) else none) = some true
  rw [if_pos e1, if_pos e2]
  exact h4
/-- an error class that bears an argument, as a def of it makes it -/
theorem init_of {P : Program} {w : World} {K : PySem.W.Frag} {mg : Str → Option Value} {base : Heap} {f : Addr} {fd : FuncData} {C : Addr} {q : Str} {st : Stmt} (F : Fun K "__init__" q st f fd) (S : FnScope ["self", "argument"] ["self", "argument"] (defScope st))
    (hb : ∀ (cdv : Value) (A : Around) (outer : List PySem.Env) (s : Shared) (H : Hp) (E : XK), PSs (cxOf CX0 P w K mg base ["self", "argument"] q (defScope st) f cdv A outer s H E).nox (defBody st) (tOst K "argument" (tVar 0) (tVar 1))) (oex : OexC K C) (no : PySem.W.findIn K (.ref C) "argument" = some none) : FnOk P w K mg base CX0 1 f fd ["self", "argument"] (sp_init K C) := by
  refine F.ok S (fun vs H Q E h => ?_) (fun cdv A outer s H vs Q E hr h => ?_)
  · obtain ⟨a, y, rfl, _⟩ := h
    rfl
  · obtain ⟨a, y, rfl, ea, q⟩ := h
    exact ⟨_, hb cdv A outer s H E, y, rfl, .ref a, rfl, a, C, rfl, oex, no, Or.inl ⟨ea, q⟩⟩
/-! ### division -/
theorem step_div {c i : Int} (hc : 0 < c) (h0 : 0 ≤ i) : (i % c + 1 = c → (i + 1) % c = 0 ∧ (i + 1) / c = i / c + 1) ∧ (i % c + 1 ≠ c → (i + 1) % c = i % c + 1 ∧ (i + 1) / c = i / c) := by
  have e := Int.emod_add_mul_ediv i c
  have r0 := Int.emod_nonneg i (show c ≠ 0 by omega)
  have r1 := Int.emod_lt_of_pos i hc
  refine ⟨fun h => ?_, fun h => ?_⟩
  · have := (Int.ediv_emod_unique (a := i + 1) (b := c) (r := 0) (q := i / c + 1) hc).mpr ⟨by rw [Int.mul_add]; omega, Int.le_refl 0, hc⟩
    exact ⟨this.2, this.1⟩
  · have := (Int.ediv_emod_unique (a := i + 1) (b := c) (r := i % c + 1) (q := i / c) hc).mpr ⟨by omega, by omega, by omega⟩
    exact ⟨this.2, this.1⟩
theorem cn_false {P : Program} {w : World} {H : Hp} {s s' : Shared} {e : Value} (h : CN P w [] H s (fun _ _ _ => False) e s') : False := by
  obtain ⟨_, _, _, _, _, _, _, _, _, _, _, _, z⟩ := h
  exact z
end Mt
/-! ### calls by name -/
namespace Mt
open PySem PySem.Spec PyProof.Rows L2 L2H
/-- items in another order -/
def perm {α : Type} (js : List Nat) (ws : List α) : List α := js.filterMap fun j => ws[j]?
theorem rps_perm {s : Option Addr} {P : Hp} {ds : List T} {vs : List V} (h : Rps s P ds vs) : ∀ js : List Nat, Rps s P (perm js ds) (perm js vs)
  | [] => rps_nil
  | j :: js => by
    unfold perm
    rw [List.filterMap_cons, List.filterMap_cons]
    cases q : ds[j]? with
    | none =>
      have q2 : vs[j]? = none := by
        rw [List.getElem?_eq_none_iff, rps_len h]
        exact List.getElem?_eq_none_iff.mp q
      rw [q2]
      exact rps_perm h js
    | some d =>
      obtain ⟨v, hv, r⟩ := rps_at h q
      rw [hv]
      exact rps_cons r (rps_perm h js)
theorem vals_perm {vs : List V} {us : List Value} (h : Vals vs us) : ∀ js : List Nat, Vals (perm js vs) (perm js us)
  | [] => .nil
  | j :: js => by
    unfold perm
    rw [List.filterMap_cons, List.filterMap_cons]
    have hl := h.length
    cases q : vs[j]? with
    | none =>
      have q2 : us[j]? = none := by
        rw [List.getElem?_eq_none_iff, ← hl]
        exact List.getElem?_eq_none_iff.mp q
      rw [q2]
      exact vals_perm h js
    | some d =>
      obtain ⟨u, hu, r⟩ := h.get q
      rw [hu]
      exact .cons r (vals_perm h js)
theorem vals_app : ∀ {vs : List V} {us : List Value} {zs : List V} {ws : List Value}, Vals vs us → Vals zs ws → Vals (vs ++ zs) (us ++ ws)
  | _, _, _, _, .nil, h => h
  | _, _, _, _, .cons r t, h => .cons r (vals_app t h)
/-- f(.., k = v, ..): the errors of the call are told with the slots -/
def tCallKS (n m : Nat) (js : List Nat) (sp : Sp) (E : L2.St → XK) (t tk : TA) : TE := fun σ H Q => t σ H fun vs H1 => tk σ H1 fun zs H2 => vs.length = n ∧ zs.length = m ∧ sp (vs ++ perm js zs) H2 Q (E σ)
section
variable {X : Cx} {CX : CXT} {k n : Nat} {f : Addr} {fd : FuncData} {ps ks : List Str} {js : List Nat} {sp : Sp} {x : Str} {p pos : Pos} {kws : List Keyword} {t tk : TA} {e : Expr} {es : List Expr}
theorem run_fnKS {pins : List (Addr × Obj)} {σ : L2.St} {H : Hp} {s : Shared} {Q : VK} {E : XK} {us ws : List Value} {vs zs : List V} (F : FnOk X.prog X.w X.K X.mg X.base CX k f fd ps sp) (hr : Room k X.A) (hb : KBn X.K fd ps n ks (fun us ws => us ++ perm js ws) (fun vs zs => vs ++ perm js zs)) (hx : PassesAt CX X σ E)
    (I : L2.Inv X pins σ H s) (r : Vals vs us) (rz : Vals zs ws) (l1 : vs.length = n) (l2 : zs.length = ks.length) (h : sp (vs ++ perm js zs) H Q E) : wpAny (model X.prog X.w) X.A (call (.ref f) us (ks.zip ws)) (EP X pins σ Q) X.xe s := by
  have r2 := hb.rel r rz
  have bt := hb.to s us ws I.kIn (r.length.symm.trans l1) (rz.length.symm.trans l2)
  refine wpAny_call (codeAny_mono (F.run X.A X.stack s H ⟨us, ks.zip ws⟩ _ _ Q E hr I.env0 bt r2 h) fun rr s1 hq => ?_)
  cases rr with
  | error er => exact hx pins H s er s1 I hq
  | ok fl =>
    cases fl with
    | ret u => exact I.after hq
    | _ => exact False.elim hq
/-- a def that may raise, called by names -/
structure CalKX (P : Program) (w : World) (K : PySem.W.Frag) (mg : Str → Option Value) (base : Heap) (x : Str) (k : Nat) (ps : List Str) (n : Nat) (ks : List Str) (js : List Nat) (sp : Sp) : Prop where
  ex : ∃ f fd, FnOk P w K mg base (CN P w) k f fd ps sp ∧ mg x = some (.ref f) ∧ PySem.W.keepIn K (.ref f) = true ∧ KBn K fd ps n ks (fun us ws => us ++ perm js ws) (fun vs zs => vs ++ perm js zs)
theorem p_callKX0 {W : WX} {j : Nat} {m : Nat} (C : CalKX X.prog X.w X.K X.mg X.base x j ps 0 ks js sp) (hr : Room k X.A) (tks : L2N.Takes X W) (hkw : PK X kws tk) (hj : j ≤ k := by decide) (hm : ks.length = m := by rfl) (hg : Gl X x := by rfl)
    (hall : (backToKw pos (keywordEach kws X.env)).all (·.1.isSome) = true := by rfl) (hks : (backToKw pos (keywordEach kws X.env)).filterMap (·.1) = ks := by rfl) (hdb : (x == ("__debug__" : Str)) = false := by decide)
    (hpl : ((backTo pos (starEach [] X.env)).any (·.1) || (backToKw pos (keywordEach kws X.env)).any (·.1.isNone)) = false := by rfl) :
    PE X (.Call (.Name x p) [] kws pos) (tCallKS 0 m js sp (WE W) tNil tk) := by
  obtain ⟨f, fd, F, gm, kp, b⟩ := C.ex
  refine ⟨fun pins s σ H Q I h => ?_⟩
  refine wpAny_Call_Name_kw (ld_glob I hg gm ?_ hdb)
  refine PySem.W.callWith_KW0 (h₀ := X.base) I.ok.mod.kin kp hall (thn (hkw.run pos pins s σ H _ I h) fun ws s2 ⟨zs, H2, I2, rz, _, l2, q2⟩ => ⟨I2.kIn, ?_⟩) hpl
  rw [hks]
  exact run_fnKS (us := []) (vs := []) F (hr.mono hj) b (L2N.passAt tks σ) I2 .nil rz rfl (l2.trans hm.symm) q2
theorem p_callKX {W : WX} {j : Nat} {m : Nat} (C : CalKX X.prog X.w X.K X.mg X.base x j ps n ks js sp) (hr : Room k X.A) (tks : L2N.Takes X W) (ha : PA X (e :: es) t) (hkw : PK X kws tk) (hj : j ≤ k := by decide) (hm : ks.length = m := by rfl) (hg : Gl X x := by rfl)
    (hall : (backToKw pos (keywordEach kws X.env)).all (·.1.isSome) = true := by rfl) (hks : (backToKw pos (keywordEach kws X.env)).filterMap (·.1) = ks := by rfl)
    (hdb : (x == ("__debug__" : Str)) = false := by decide) (he : starEach (e :: es) X.env = (false, eval e X.env) :: starEach es X.env := by rfl)
    (hpl : ((backTo pos (starEach (e :: es) X.env)).any (·.1) || (backToKw pos (keywordEach kws X.env)).any (·.1.isNone)) = false := by rfl) :
    PE X (.Call (.Name x p) (e :: es) kws pos) (tCallKS n m js sp (WE W) t tk) := by
  obtain ⟨f, fd, F, gm, kp, b⟩ := C.ex
  refine ⟨fun pins s σ H Q I h => ?_⟩
  refine wpAny_Call_Name_kw (ld_glob I hg gm ?_ hdb)
  refine PySem.W.callWith_KW (h₀ := X.base) I.ok.mod.kin kp hall (thn (ha.run pos pins s σ H _ I h) fun us s1 ⟨vs, H1, I1, r, q⟩ => ?_) hpl he
  refine thn (hkw.run pos pins s1 σ H1 _ I1 q) fun ws s2 ⟨zs, H2, I2, rz, l1, l2, q2⟩ => ⟨I2.kIn, ?_⟩
  rw [hks]
  exact run_fnKS F (hr.mono hj) b (L2N.passAt tks σ) I2 r rz l1 (l2.trans hm.symm) q2
end
section
variable {A : Ad} {E : EK} {aa ak : TA} {am ap : MA}
def mCallKX (n m : Nat) (js : List Nat) (N : Nat) (c : Ct) (am ap : MA) : ME := fun XA env k => am XA env fun ds => ap XA env fun es => ds.length = n ∧ es.length = m ∧ (ds ++ perm js es).length = N ∧ c (ds ++ perm js es) k XA
theorem re_callKX {n m : Nat} {js : List Nat} {N : Nat} {c : Ct} (ha : RA A E aa am) (hk : RA A E ak ap) : RE A E (tCallKS n m js (SpU A N c) E aa ak) (mCallKX n m js N c am ap) := fun s H0 P σ H env XA k Q re x h q =>
  ha s H0 P σ H env XA _ _ re x h fun P1 H1 vs ds e1 r1 h1 => hk s H0 P1 σ H1 env XA _ _ (re.ext e1) (x.ext e1) h1 fun P2 H2 ws es e2 r2 ⟨l1, l2, l3, h2⟩ =>
    ⟨by rw [rps_len r1]; exact l1, by rw [rps_len r2]; exact l2, s, P2, ds ++ perm js es, k, XA, e2.wf, rps_app (rps_same e2.sub _ _ r1) (rps_perm r2 js), l3, h2, fun P' H' v d e3 r3 h3 => q P' H' v d (e1.trans (e2.trans e3)) r3 h3, fun P' H' z C d e3 h3 h4 => x P' H' z C d (e1.trans (e2.trans e3)) h3 h4⟩
end
/-! try, its parts kept apart -/
def tTryR (K : PySem.W.Frag) (c : Value) (i : Nat) (tb : WX → TS) (ts : Addr → Value → Option Addr → TS) (Wout : WX) : TS := fun D σ H => tb (wAs K c i ts Wout D) D σ H
section
variable {X : Cx} {x n : Str} {c : Value} {i : Nat} {body suite : List Stmt} {b₀ : Stmt} {np pos pos' : Pos} {tb : WX → TS} {ts : Addr → Value → Option Addr → TS} {Wout : WX}
theorem p_tryR (hs : X.stack = X.env :: X.outer) (hf : X.env.frame = some X.env.locals) (hN : X.N.Nodup) (hi : X.N[i]? = some n) (hln : X.env.kindOf n = some .local) (hc : Names X x c) (tk : L2N.Takes X Wout)
    (hb : ∀ (W : WX) (pn : List (Addr × Obj)) (xe : Value → Shared → Prop), L2N.Takes (X.tr pn xe) W → PassesOwn (model X.prog X.w) X.A X.env xe → PSs (X.tr pn xe) body (tb W))
    (hsu : ∀ (a : Addr) (oe : Obj) (cls : Value) (d : Option Addr) (pn : List (Addr × Obj)), L2N.Zn cls d oe → (∃ vs, oe.data = .fields vs) → PSs (X.suite a ((a, oe) :: pn)) (b₀ :: suite) (ts a cls d)) :
    PS X (.Try body [.ExceptHandler (some (.Name x np)) (some n) (b₀ :: suite) pos'] [] [] pos) (tTryR X.K c i tb ts Wout) := L2N.ps_try_as hs hf hN hi hln hc tk hb hsu
end
theorem rs_tryR {A : Ad} {E : EK} {K : PySem.W.Frag} {C : Value} {i : Nat} {tb : WX → TS} {mb : MS} {mh : Ex → MS} {ts : Addr → Value → Option Addr → TS} {Wout : WX} (hb : ∀ W, RS A (WE W) (tb W) mb) (hh : RH A E i ts mh) : RS A E (tTryR K C i tb ts Wout) (mTry K A C i mb mh) := rs_try hb hh
end Mt
/-! ### max of three, all -/
namespace Mt
open PySem PySem.Spec PyProof.Rows L2 L2H
section
variable {X : Cx}
def rMax3H : List V → Hp → VK → Prop := fun xs H Q => ∃ i j k : Int, xs = [.int i, .int j, .int k] ∧ Q (.int (max (max i j) k)) H
theorem call_max3H (hc : X.calm = true) : CallR X (.builtin "max") rMax3H := by
  intro pins s σ H xs us Q I r h
  obtain ⟨i, j, k, rfl, q⟩ := h
  cases r with
  | cons r1 rr =>
    obtain ⟨u, w', rfl, ⟨t, rfl⟩, ⟨t', rfl⟩⟩ := vals2 rr
    obtain ⟨t0, rfl⟩ := r1
    refine max_three_ints (I.ok.hd hc) fun h' tk kk => ⟨_, H, I.kept kk, ?_, q⟩
    by_cases h1 : j > i
    · rw [if_pos h1]
      by_cases h2 : k > j
      · rw [if_pos h2, show max (max i j) k = k by omega]
        exact ⟨_, rfl⟩
      · rw [if_neg h2, show max (max i j) k = j by omega]
        exact ⟨_, rfl⟩
    · rw [if_neg h1]
      by_cases h2 : k > i
      · rw [if_pos h2, show max (max i j) k = k by omega]
        exact ⟨_, rfl⟩
      · rw [if_neg h2, show max (max i j) k = i by omega]
        exact ⟨_, rfl⟩
end
def oMax3 : List T → (T → Prop) → Prop := fun ds k => ∃ i j l : Int, ds = [.int i, .int j, .int l] ∧ k (.int (max (max i j) l))
theorem rps3 {s : Option Addr} {P : Hp} {d e f : T} {vs : List V} (h : Rps s P [d, e, f] vs) : ∃ v w u, vs = [v, w, u] ∧ Rp s P d v ∧ Rp s P e w ∧ Rp s P f u := by
  simp only [Rps] at h
  obtain ⟨v, r, rfl, h1, w, r2, rfl, h2, u, r3, rfl, h3, rfl⟩ := h
  exact ⟨v, w, u, rfl, h1, h2, h3⟩
theorem rcb_max3 : RCB rMax3H oMax3 := fun s P H vs ds k Q w h ⟨i, j, l, g1, h3⟩ q => by
  subst g1
  obtain ⟨v, u, x, rfl, h1, h2, h4⟩ := rps3 h
  exact ⟨i, j, l, by rw [rp_int h1, rp_int h2, rp_int h4], q P H _ _ (Ext.refl w) (by simp [Rp]) h3⟩
theorem oMax3_w {a b c : Int} {k : T → Prop} : oMax3 [.int a, .int b, .int c] k = k (.int (max (max a b) c)) := propext ⟨fun ⟨i, j, l, e, h⟩ => by cases e; exact h, fun h => ⟨a, b, c, rfl, h⟩⟩
theorem rps_bls {s : Option Addr} {P : Hp} : ∀ {bs : List Bool} {vs : List V}, Rps s P (bs.map T.bl) vs → vs = bs.map V.bl
  | [], vs, h => by
    simp only [List.map_nil, Rps] at h
    exact h
  | b :: bs, vs, h => by
    simp only [List.map_cons, Rps, Rp] at h
    obtain ⟨v, r, rfl, rfl, h3⟩ := h
    rw [rps_bls h3, List.map_cons]
def oAll : List T → (T → Prop) → Prop := fun ds k => ∃ bs : List Bool, ds = [.lst (bs.map T.bl)] ∧ k (.bl (bs.all id))
def oAny : List T → (T → Prop) → Prop := fun ds k => ∃ bs : List Bool, ds = [.lst (bs.map T.bl)] ∧ k (.bl (bs.any id))
theorem rcb_all {K : PySem.W.Frag} : RCB (rAll K) oAll := fun s P H vs ds k Q w h ⟨bs, g1, h3⟩ q => by
  subst g1
  obtain ⟨v, rfl, h1⟩ := rps1 h
  simp only [Rp] at h1
  obtain ⟨a, us, rfl, g1, g2, g3⟩ := h1
  have e := rps_bls g2
  subst e
  exact ⟨a, bs, rfl, sql_of (w.sub _ _ g1), q P H _ _ (Ext.refl w) (by simp [Rp]) h3⟩
end Mt
/-! ### objects of own classes: made, their fields, properties and methods -/
namespace Mt
open PySem PySem.Spec PyProof.Rows L2 L2H
section
variable {X : Cx} {CX : CXT} {k : Nat} {f C : Addr} {fd : FuncData} {ps : List Str} {sp : Sp}
theorem run_makeS {pins : List (Addr × Obj)} {σ : L2.St} {H : Hp} {s : Shared} {Q : VK} {E : XK} {us : List Value} {vs : List V} (M : Mk X.K C f) (F : FnOk X.prog X.w X.K X.mg X.base CX k f fd ps sp) (hr : Room (k + 1) X.A) (hb : Binds X.K fd ps []) (hx : PassesAt CX X σ E)
    (I : L2.Inv X pins σ H s) (r : Vals vs us) (h : ∀ x dx, H x = none → H dx = none → dx ≠ x → sp (.ref x :: vs) (upd (upd H dx (.own x)) x (.ins C dx [])) (fun v H2 => v = .non ∧ Q (.ref x) H2) E) : wpAny (model X.prog X.w) X.A (call (.ref C) us) (EP X pins σ Q) X.xe s := by
  obtain ⟨hp, g, dr, tk, os⟩ := s
  have I2 := I.made (C := C)
  have hq := h (hp.objs.size + 1) hp.objs.size (I.hok.fresh (Nat.le_succ _)) (I.hok.fresh (Nat.le_refl _)) (Nat.ne_of_lt (Nat.lt_succ_self hp.objs.size))
  have r2 : Vals (V.ref (hp.objs.size + 1) :: vs) (Value.ref (hp.objs.size + 1) :: us) := .cons rfl r
  have n2 : (Value.ref (hp.objs.size + 1) :: us).length = ps.length := by
    rw [← r2.length]
    exact F.len _ _ _ _ hq
  have b2 := hb _ (Value.ref (hp.objs.size + 1) :: us) I2.kIn (by rw [List.append_nil]; exact n2)
  rw [List.append_nil] at b2
  refine wpAny_call (Att.make_obj I.kIn M.makes M.init M.fn (codeAny_mono (F.run _ X.stack _ _ ⟨Value.ref (hp.objs.size + 1) :: us, []⟩ _ _ _ E (hr.make C us []) (I2.env0.make C us []) b2 r2 hq) fun rr s1 hq => ?_))
  cases rr with
  | error er => exact hx pins _ _ er s1 I2 hq
  | ok fl =>
    cases fl with
    | ret u =>
      obtain ⟨v, H', J, rv, ev, q⟩ := I2.after hq
      subst ev
      exact ⟨rv, .ref (hp.objs.size + 1), _, J, rfl, q⟩
    | _ => exact False.elim hq
/-- C(e, ..): the errors of the making are told with the slots -/
def tMakeS (C : Addr) (sp : Sp) (E : L2.St → XK) (t : TA) : TE := fun σ H Q => t σ H fun vs H1 => ∀ x dx, H1 x = none → H1 dx = none → dx ≠ x → sp (.ref x :: vs) (upd (upd H1 dx (.own x)) x (.ins C dx [])) (fun v H2 => v = .non ∧ Q (.ref x) H2) (E σ)
/-- a class of the module, made by a def that may raise -/
structure CalM (P : Program) (w : World) (K : PySem.W.Frag) (mg : Str → Option Value) (base : Heap) (x : Str) (C : Addr) (k : Nat) (ps : List Str) (sp : Sp) : Prop where
  ex : ∃ f fd, FnOk P w K mg base (CN P w) k f fd ps sp ∧ mg x = some (.ref C) ∧ Mk K C f ∧ Binds K fd ps []
theorem p_makeX {W : WX} {x : Str} {j : Nat} {e : Expr} {es : List Expr} {t : TA} {p pos : Pos} (c : CalM X.prog X.w X.K X.mg X.base x C j ps sp) (hr : Room k X.A) (tks : L2N.Takes X W) (ha : PA X (e :: es) t) (hj : j + 1 ≤ k := by decide) (hg : Gl X x := by rfl)
    (hdb : (x == ("__debug__" : Str)) = false := by decide) (he : starEach (e :: es) X.env = (false, eval e X.env) :: starEach es X.env := by rfl) (hpl : (backTo pos (starEach es X.env)).any (·.1) = false := by rfl) :
    PE X (.Call (.Name x p) (e :: es) [] pos) (tMakeS C sp (WE W) t) := by
  obtain ⟨f, fd, F, gm, M, b⟩ := c.ex
  refine ⟨fun pins s σ H Q I h => ?_⟩
  refine wpAny_Call_Name_kw (ld_glob I hg gm ?_ hdb)
  exact PySem.W.callWith_K (h₀ := X.base) I.ok.mod.kin M.kp (thn (ha.run pos pins s σ H _ I h) fun us s1 ⟨vs, H1, I1, r, q⟩ => ⟨I1.kIn, run_makeS M F (hr.mono hj) b (L2N.passAt tks σ) I1 r q⟩) he hpl
/-- a method of a class that may raise -/
structure CalO (P : Program) (w : World) (K : PySem.W.Frag) (mg : Str → Option Value) (base : Heap) (C : Addr) (m : Str) (k : Nat) (ps : List Str) (sp : Sp) : Prop where
  ex : ∃ f fd, FnOk P w K mg base (CN P w) k f fd ps sp ∧ Cls K C ∧ Meth K C m f ∧ Binds K fd ps []
/-- o.m(e, ..): the errors of the method are told with the slots -/
def tMethW (C : Addr) (m : Str) (sp : Sp) (E : L2.St → XK) (ta : TE) (t : TA) : TE := fun σ H Q => ta σ H fun x H1 => ∃ a dx fs, x = .ref a ∧ H1 a = some (.ins C dx fs) ∧ fs.lookup m = none ∧ t σ H1 fun vs H2 => sp (x :: vs) H2 Q (E σ)
theorem p_methX {W : WX} {m : Str} {j : Nat} {o e : Expr} {es : List Expr} {ta : TE} {t : TA} {apos pos : Pos} {pl : Sem Bool} (c : CalO X.prog X.w X.K X.mg X.base C m j ps sp) (hr : Room k X.A) (tks : L2N.Takes X W) (ho : PE X o ta) (ha : PA X (e :: es) t) (hj : j ≤ k := by decide)
    (hst : starEach (e :: es) X.env = (false, eval e X.env) :: starEach es X.env := by rfl) (hpl : (backTo pos (starEach es X.env)).any (·.1) = false := by rfl)
    (ht : eval (.Call (.Attribute o m apos) (e :: es) [] pos) X.env = (do
      let ov ← eval o X.env
      standAt apos.atName
      let __x ← holding [ov] (getMethod ov m pl)
      match __x with
        | (f, first) => callWith pos f first (backTo pos (starEach (e :: es) X.env)) (backToKw pos (keywordEach [] X.env))) := by rfl) :
    PE X (.Call (.Attribute o m apos) (e :: es) [] pos) (tMethW C m sp (WE W) ta t) := by
  obtain ⟨f, fd, F, cl, M, b⟩ := c.ex
  constructor
  intro pins s σ H Q I h
  refine PySem.W.methodCall_KW (pl := pl) (thn (ho.run pins s σ H _ I h) fun u s1 ⟨x, H1, I1, rx, a, dx, fs, ex, ea, l, q⟩ => ?_) ht
  subst ex
  cases rx
  exact getmeth_ok I1 ea cl M l (PySem.W.callWith_K (first := [.ref a]) (h₀ := X.base) I.ok.mod.kin M.kp (thn (ha.run pos pins s1 σ H1 _ I1 q) fun us s2 ⟨vs, H2, I2, r, q2⟩ => ⟨I2.kIn, run_fnS (E := WE W) (us := .ref a :: us) (vs := .ref a :: vs) F (hr.mono hj) b (L2N.passAt tks σ) I2 (.cons rfl r) q2⟩) hst hpl)
end
end Mt
/-! ### objects as data -/
namespace Mt
open PySem PySem.Spec PyProof.Rows L2 L2H
theorem lk_zip {s : Option Addr} {P : Hp} {f : Str} : ∀ {ns : List Str} {ds : List T} {vs : List V} {t : T}, Rps s P ds vs → (ns.zip ds).lookup f = some t → ∃ v, (ns.zip vs).lookup f = some v ∧ Rp s P t v
  | [], ds, vs, t, r, h => by cases h
  | n :: ns, [], vs, t, r, h => by cases h
  | n :: ns, d :: ds, vs, t, r, h => by
    simp only [Rps] at r
    obtain ⟨v, q, rfl, e2, e3⟩ := r
    rw [List.zip_cons_cons, List.lookup_cons] at h ⊢
    cases c : f == n with
    | true =>
      rw [c] at h
      cases h
      exact ⟨v, rfl, e2⟩
    | false =>
      rw [c] at h
      exact lk_zip e3 h
theorem lk_no {f : Str} : ∀ {ns : List Str} {vs : List V}, ns.contains f = false → (ns.zip vs).lookup f = none
  | [], vs, h => rfl
  | n :: ns, [], h => rfl
  | n :: ns, v :: vs, h => by
    rw [List.contains_cons, Bool.or_eq_false_iff] at h
    rw [List.zip_cons_cons, List.lookup_cons, h.1]
    exact lk_no h.2
theorem put_zip {f : Str} {y : V} : ∀ {ns : List Str} {vs : List V}, ns.length = vs.length → ns.contains f = false → putF f y (ns.zip vs) = (ns ++ [f]).zip (vs ++ [y])
  | [], [], _, h => rfl
  | [], _ :: _, e, _ => nomatch e
  | _ :: _, [], e, _ => nomatch e
  | n :: ns, v :: vs, e, h => by
    rw [List.contains_cons, Bool.or_eq_false_iff] at h
    show (if n = f then _ else _) = _
    have hn : ¬ n = f := fun z => by
      rw [z, beq_self_eq_true] at h
      cases h.1
    rw [if_neg hn]
    exact congrArg ((n, v) :: ·) (put_zip (Nat.succ.inj e) h.2)
/-- the heap without the thing at x -/
def del (H : Hp) (x : Addr) : Hp := fun b => if b = x then none else H b
/-- the contract of an __init__ over data: what it makes of the arguments -/
def SpI (A : Ad) (C : Addr) (n : Nat) (c : Ct) : Sp := fun vs H Q E => ∃ x dx ws s P ds k EA, vs = .ref x :: ws ∧ H x = some (.ins C dx []) ∧ P x = none ∧ s ≠ some x ∧ WF s P H ∧ Rps s P ds ws ∧ ds.length = n ∧ c ds k EA ∧
  (∀ P' H' d, Ext s P (del H x) P' H' → Rp s P' d (.ref x) → k d → Q .non H') ∧ (∀ P' H' z C d, Ext s P (del H x) P' H' → EA z → ExAt A s P' H' z C d → E C d H')
theorem SpI.len {A : Ad} {C : Addr} {n : Nat} {c : Ct} {vs : List V} {H : Hp} {Q : VK} {E : XK} (h : SpI A C n c vs H Q E) : vs.length = n + 1 := by
  obtain ⟨x, dx, ws, s, P, ds, k, EA, rfl, _, _, _, _, h2, h3, _⟩ := h
  rw [List.length_cons, rps_len h2, h3]
section
variable {A : Ad} {E : EK} {te ta tb tc : TE} {me ma mb mc : ME} {aa : TA} {am : MA} {K : PySem.W.Frag}
theorem re_makeX {C : Addr} {n : Nat} {c : Ct} (ha : RA A E aa am) : RE A E (tMakeS C (SpI A C n c) E aa) (mCallX n c am) := fun s H0 P σ H env XA k Q re x h q =>
  ha s H0 P σ H env XA _ _ re x h fun P1 H1 vs ds e1 r1 ⟨h1, h2⟩ y dx hy hdx ne => by
    have a1 := ext_own (o := .own y) e1.wf hdx
    have hy1 : (upd H1 dx (.own y)) y = none := by
      rw [upd_ne (Ne.symm ne)]
      exact hy
    have a2 := ext_own (o := .ins C dx []) a1.wf hy1
    have e0 : del (upd (upd H1 dx (.own y)) y (.ins C dx [])) y = upd H1 dx (.own y) := by
      funext b
      unfold del
      by_cases z : b = y
      · rw [if_pos z, z, hy1]
      · rw [if_neg z, upd_ne z]
    refine ⟨y, dx, vs, s, P1, ds, k, XA, rfl, upd_same, e1.wf.sub.free hy, fun z => ?_, a2.wf, r1, h1, h2, fun P' H' d e2 r2 h3 => ?_, fun P' H' z C d e2 h3 h4 => ?_⟩
    · obtain ⟨_, t, _, h3⟩ := e1.wf.sto y z
      rw [hy] at h3
      cases h3
    · rw [e0] at e2
      exact ⟨rfl, q P' H' _ d (e1.trans (a1.trans e2)) r2 h3⟩
    · rw [e0] at e2
      exact x P' H' z C d (e1.trans (a1.trans e2)) h3 h4
/-! the fields -/
def mFld (C : Addr) (f : Str) (me : ME) : ME := fun XA env k => me XA env fun d => ∃ ns ds t, d = .obj C ns ds ∧ (ns.zip ds).lookup f = some t ∧ k t
theorem re_fld {C : Addr} {f : Str} (hc : Cls K C) (hn : NoAttr K C f) (ha : RE A E te me) : RE A E (tFld K te f) (mFld C f me) := fun s H0 P σ H env XA k Q re x h q =>
  ha s H0 P σ H env XA _ _ re x h fun P1 H1 v d e1 r1 ⟨ns, ds, t, g1, g2, h1⟩ => by
    subst g1
    simp only [Rp] at r1
    obtain ⟨a, dx, vs, rfl, r2, r3, r4⟩ := r1
    obtain ⟨u, l1, l2⟩ := lk_zip r3 g2
    exact ⟨a, C, dx, _, u, rfl, e1.wf.sub _ _ r2, hc, hn, l1, q P1 H1 u t e1 l2 h1⟩
/-- in __init__: self.f = e, f for the first time -/
def mFldS (C : Addr) (f : Str) (i : Nat) (me : ME) : MS := fun env M => me (M.xr env) env fun t => ∃ x ns ds, env[i]? = some (some (.ob x C ns ds)) ∧ ns.length < 900 ∧ ns.contains f = false ∧ M.nx (env.set i (some (.ob x C (ns ++ [f]) (ds ++ [t]))))
theorem rs_fld {C : Addr} {f : Str} {i : Nat} (hc : Cls K C) (hn : NoAttr K C f) (ha : RE A E te me) : RS A E (sFld K (tVar i) te f) (mFldS C f i me) := fun s P0 H0 P σ H env D M e re l h =>
  ha s H0 P σ H env _ _ _ re (l.xr P σ H env e (Same.refl _) re) h fun P1 H1 v d e1 r1 ⟨x, ns, ds, g1, g2, g3, h1⟩ => by
    have re1 := re.ext e1
    obtain ⟨dx, vs, q1, q2, q3, q4, q5, q6, q7⟩ := re1.ob g1
    have lz : (ns.zip vs).length < 1000 := by
      rw [List.length_zip]
      omega
    refine ⟨.ref x, q1, x, C, dx, _, rfl, q5, hc, hn, lz, ?_⟩
    rw [put_zip (by rw [rps_len q6]; exact q7) g3]
    exact l.nx P1 σ _ _ (ext_change (e.trans e1) q2 q3 q4) e1.sub (re1.changeB g1 q1 (rps_snoc q6 r1) (by rw [List.length_append, List.length_append, q7]; rfl)) h1
/-- in __init__: self.f is read -/
def mFldO (C : Addr) (f : Str) (i : Nat) : ME := fun XA env k => ∃ x ns ds t, env[i]? = some (some (.ob x C ns ds)) ∧ (ns.zip ds).lookup f = some t ∧ k t
theorem re_fldO {C : Addr} {f : Str} {i : Nat} (hc : Cls K C) (hn : NoAttr K C f) : RE A E (tFld K (tVar i) f) (mFldO C f i) := fun s H0 P σ H env XA k Q re x ⟨z, ns, ds, t, g1, g2, h1⟩ q => by
  obtain ⟨dx, vs, q1, q2, q3, q4, q5, q6, q7⟩ := re.ob g1
  obtain ⟨u, l1, l2⟩ := lk_zip q6 g2
  exact ⟨.ref z, q1, z, C, dx, _, u, rfl, q5, hc, hn, l1, q P H u t (Ext.refl re.wf) l2 h1⟩
/-! properties and methods -/
def mProp (C : Addr) (c : Ct) (me : ME) : ME := fun XA env k => me XA env fun d => (∃ ns ds, d = .obj C ns ds) ∧ c [d] k fun _ => False
theorem re_prop {C : Addr} {c : Ct} (ha : RE A E te me) : RE A E (tProp C (SpU A 1 c) [] E0 te) (mProp C c me) := fun s H0 P σ H env XA k Q re x h q =>
  ha s H0 P σ H env XA _ _ re x h fun P1 H1 v d e1 r1 ⟨⟨ns, ds, g1⟩, h1⟩ => by
    have r2 := r1
    subst g1
    simp only [Rp] at r1
    obtain ⟨a, dx, vs, rfl, r3, _⟩ := r1
    exact ⟨a, dx, _, rfl, e1.wf.sub _ _ r3, s, P1, _, k, _, e1.wf, rps_cons r2 rps_nil, rfl, h1, fun P' H' v d e2 r4 h3 => q P' H' v d (e1.trans e2) r4 h3, fun _ _ _ _ _ _ z => z.elim⟩
def mMeth (C : Addr) (m : Str) (n : Nat) (c : Ct) (me : ME) (am : MA) : ME := fun XA env k => me XA env fun d => (∃ ns ds, d = .obj C ns ds ∧ ns.contains m = false) ∧ am XA env fun ds => ds.length + 1 = n ∧ c (d :: ds) k fun _ => False
theorem re_meth {C : Addr} {m : Str} {n : Nat} {c : Ct} (ha : RE A E te me) (hs : RA A E aa am) : RE A E (tMeth C m (SpU A n c) [] E0 te aa) (mMeth C m n c me am) := fun s H0 P σ H env XA k Q re x h q =>
  ha s H0 P σ H env XA _ _ re x h fun P1 H1 v d e1 r1 ⟨⟨ns, ds, g1, g2⟩, h1⟩ => by
    have r2 := r1
    subst g1
    simp only [Rp] at r1
    obtain ⟨a, dx, vs, rfl, r3, _⟩ := r1
    refine ⟨a, dx, _, rfl, e1.wf.sub _ _ r3, lk_no g2, hs s H0 P1 σ H1 env XA _ _ (re.ext e1) (x.ext e1) h1 fun P2 H2 ws es e2 r5 ⟨h2, h3⟩ => ?_⟩
    rw [List.append_nil]
    exact ⟨s, P2, _, k, _, e2.wf, rps_cons (rp_same e2.sub _ _ r2) r5, h2, h3, fun P' H' v d e3 r4 h3 => q P' H' v d (e1.trans (e2.trans e3)) r4 h3, fun _ _ _ _ _ _ z => z.elim⟩
def mMethX (C : Addr) (m : Str) (n : Nat) (c : Ct) (me : ME) (am : MA) : ME := fun XA env k => me XA env fun d => (∃ ns ds, d = .obj C ns ds ∧ ns.contains m = false) ∧ am XA env fun ds => ds.length + 1 = n ∧ c (d :: ds) k XA
theorem re_methX {C : Addr} {m : Str} {n : Nat} {c : Ct} (ha : RE A E te me) (hs : RA A E aa am) : RE A E (tMethW C m (SpU A n c) E te aa) (mMethX C m n c me am) := fun s H0 P σ H env XA k Q re x h q =>
  ha s H0 P σ H env XA _ _ re x h fun P1 H1 v d e1 r1 ⟨⟨ns, ds, g1, g2⟩, h1⟩ => by
    have r2 := r1
    subst g1
    simp only [Rp] at r1
    obtain ⟨a, dx, vs, rfl, r3, _⟩ := r1
    refine ⟨a, dx, _, rfl, e1.wf.sub _ _ r3, lk_no g2, hs s H0 P1 σ H1 env XA _ _ (re.ext e1) (x.ext e1) h1 fun P2 H2 ws es e2 r5 ⟨h2, h3⟩ => ?_⟩
    exact ⟨s, P2, _, k, XA, e2.wf, rps_cons (rp_same e2.sub _ _ r2) r5, h2, h3, fun P' H' v d e3 r4 h3 => q P' H' v d (e1.trans (e2.trans e3)) r4 h3, fun P' H' z C d e3 h3 h4 => x P' H' z C d (e1.trans (e2.trans e3)) h3 h4⟩
/-! the run of an __init__ -/
theorem rel_startI {s : Option Addr} {P H : Hp} {N : List Str} {ds : List T} {vs : List V} {x C dx : Addr} {n : Nat} (hN : N.length = n + 1) (hx : H x = some (.ins C dx [])) (px : P x = none) (sx : s ≠ some x) (w : WF s P H) (r : Rps s P ds vs) : Rel s (del H x) P (L2.start N (.ref x :: vs)) H (some (.ob x C [] []) :: startE n ds) := by
  have w' : WF s P (del H x) := by
    refine ⟨fun b o e => ?_, fun a ha => ?_⟩
    · unfold del
      rw [if_neg (fun z => by rw [z, px] at e; cases e)]
      exact w.sub _ _ e
    · obtain ⟨h1, t, h2, h3⟩ := w.sto a ha
      refine ⟨h1, t, h2, ?_⟩
      unfold del
      rw [if_neg (fun z => sx (by rw [← z]; exact ha))]
      exact h3
  refine ⟨w, ?_, fun _ => [x], fun i j _ hi hj _ _ => ?_, fun i y hy => ?_⟩
  · rw [w_start]
    unfold startE
    simp only [List.length_append, List.length_cons, List.length_map, List.length_replicate, rps_len r, hN]
    omega
  · have h0 : ∀ i, IsOwn (some (.ob x C [] []) :: startE n ds) i → i = 0 := fun i ⟨y, e, m⟩ => by
      cases i with
      | zero => rfl
      | succ i =>
        rw [List.getElem?_cons_succ] at e
        unfold startE at e
        rcases Nat.lt_or_ge i ds.length with z | z
        · rw [List.getElem?_append_left (by rw [List.length_map]; exact z), List.getElem?_map, List.getElem?_eq_getElem z] at e
          cases e
          cases m
        · rw [List.getElem?_append_right (by rw [List.length_map]; exact z), List.getElem?_replicate] at e
          split at e
          · cases e
          · cases e
    rw [h0 i hi, h0 j hj]
  · cases i with
    | zero =>
      cases hy
      refine ⟨rfl, ?_, px, if_pos rfl, sx, dx, [], hx, rps_nil, rfl⟩
      rw [w_start]
      rfl
    | succ i =>
      rw [List.getElem?_cons_succ] at hy
      unfold startE at hy
      rcases Nat.lt_or_ge i ds.length with z | z
      · rw [List.getElem?_append_left (by rw [List.length_map]; exact z), List.getElem?_map, List.getElem?_eq_getElem z] at hy
        cases hy
        obtain ⟨v, h1, h2⟩ := rps_at r (List.getElem?_eq_getElem z)
        refine ⟨v, ?_, h2⟩
        rw [w_start, List.map_cons, List.cons_append, List.getElem?_cons_succ, List.getElem?_append_left (by rw [List.length_map, rps_len r]; exact z), List.getElem?_map, h1]
        rfl
      · rw [List.getElem?_append_right (by rw [List.length_map]; exact z), List.getElem?_replicate] at hy
        split at hy
        · cases hy
        · cases hy
theorem runI {C : Addr} {n : Nat} {c : Ct} {N : List Str} {vs : List V} {H : Hp} {Q : VK} {E' : XK} {W : WX} {ts : TS} {ms : MS} (h : SpI A C n c vs H Q E') (hl : n + 1 ≤ N.length) (hW : ∀ cls d σ H, E' cls d H → W cls d σ H) (r : RS A (WE W) ts ms)
    (u : ∀ x ds k XA, c ds k XA → ds.length = n → ms (some (.ob x C [] []) :: startE (N.length - 1) ds) { nx := fun env => ∃ D ns es, env[0]? = some (some (.ob x D ns es)) ∧ k (.obj D ns es), rt := fun _ => False, xr := fun _ => XA }) :
    ts { nx := fun _ H' => Q .non H', rt := Q } (L2.start N vs) H := by
  obtain ⟨x, dx, ws, s, P, ds, k, XA, rfl, hx, px, sx, w, r1, hn, hc, q, qx⟩ := h
  have re := rel_startI (N := N) (n := N.length - 1) (by omega) hx px sx w r1
  have e0 : Ext s P (del H x) P H := ⟨w, Same.refl _, fun a o _ g => by
    unfold del at g
    split at g
    · cases g
    · exact g, fun a h g => absurd h g, fun a t t' _ h g => st_inj (by
    unfold del at h
    split at h
    · cases h
    · exact h) g⟩
  refine r s P (del H x) P _ H _ _ { nx := fun env => ∃ D ns es, env[0]? = some (some (.ob x D ns es)) ∧ k (.obj D ns es), rt := fun _ => False, xr := fun _ => XA } e0 re
    ⟨fun P' σ H' env e _ re' ⟨D, ns, es, g1, g2⟩ => ?_, fun _ _ _ _ _ _ _ z => z.elim, fun _ _ _ _ _ _ _ h => h.elim, fun _ _ _ _ _ _ _ h => h.elim, fun P' σ H' env e _ _ P2 H2 z C d e2 hz hat => hW _ _ _ _ (qx P2 H2 z C d (e.trans e2) hz hat), fun _ _ _ _ _ _ _ _ _ _ h => h.elim⟩ (u x ds k XA hc hn)
  obtain ⟨dx', us, q1, q2, q3, q4, q5, q6, q7⟩ := re'.ob g1
  obtain ⟨P2, sp, e2, re2⟩ := re'.frzO (t := .obj D ns es) e g1 rfl fun P'' A v sP g hk => frz_ob sP g hk
  obtain ⟨v, j1, j2⟩ := re2.data (i := 0) (t := .obj D ns es) (by rw [List.getElem?_set_self (List.getElem?_eq_some_iff.mp g1).1])
  rw [q1] at j1
  cases j1
  exact q P2 H' _ e2 j2 g2
end
end Mt
/-! ### x in o by an own __contains__; methods and properties that raise nothing -/
namespace Mt
open PySem PySem.Spec PyProof.Rows L2 L2H
/-- x in o, x not in o by the class's own def -/
def tInW (C : Addr) (neg : Bool) (sp : Sp) (E : L2.St → XK) (ta to : TE) : TE := fun σ H Q => ta σ H fun x H1 => to σ H1 fun y H2 => ∃ a dx fs, y = .ref a ∧ H2 a = some (.ins C dx fs) ∧ sp [y, x] H2 (fun v H3 => ∃ c, v = .bl c ∧ Q (.bl (c != neg)) H3) (E σ)
section
variable {X : Cx} {W : WX} {k j : Nat} {C : Addr} {ps : List Str} {sp : Sp} {ta to : TE} {a o : Expr} {pos : Pos}
theorem ins_look {P : Program} {w : World} {H : Hp} {h : Heap} {a C dx : Addr} {fs : List (Str × V)} (z : HOk P w H h) (e : H a = some (.ins C dx fs)) : ∃ od, PySem.W.InstAt h a (PySem.W.instObj C dx) C od := by
  have q := z _ _ e
  unfold ObjOk at q
  obtain ⟨_, _, _, h1, mA, h2, _⟩ := q
  obtain ⟨o, es, ep, eo, _⟩ := h2
  exact ⟨some _, h1, rfl, rfl, eo⟩
theorem in_ok {pins : List (Addr × Obj)} {σ : L2.St} {H : Hp} {s : Shared} {y dx : Addr} {fs : List (Str × V)} {x : V} {v : Value} {Q : Bool → Hp → Prop} {R : Bool → Shared → Prop} (c : CalO X.prog X.w X.K X.mg X.base C "__contains__" j ps sp) (hr : Room k X.A) (hj : j ≤ k) (tks : L2N.Takes X W) (I : L2.Inv X pins σ H s) (rx : L2.RelV x v)
    (e : H y = some (.ins C dx fs)) (h : sp [.ref y, x] H (fun v H3 => ∃ c, v = .bl c ∧ Q c H3) (WE W σ)) (q : ∀ c H' s', L2.Inv X pins σ H' s' → Q c H' → R c s') : wpAny (model X.prog X.w) X.A (contains (.ref y) v) R X.xe s := by
  obtain ⟨f, fd, F, cl, M, b⟩ := c.ex
  obtain ⟨m, fr⟩ := I.fr
  obtain ⟨od, il⟩ := ins_look I.hok e
  refine PySem.W.contains_K fr I.ok.mod.kin il M.at_ M.fn ?_
  refine thn (run_fnS (E := WE W) (us := [.ref y, v]) (vs := [.ref y, x]) F (hr.mono hj) b (L2N.passAt tks σ) I (.cons rfl (.cons rx .nil)) h) fun u s1 ⟨r, H1, I1, rr, c, er, q1⟩ => ?_
  subst er
  cases rr
  exact wpAny_truthy_bool (q c H1 s1 I1 q1)
theorem pc_inX (c : CalO X.prog X.w X.K X.mg X.base C "__contains__" j ps sp) (hr : Room k X.A) (tks : L2N.Takes X W) (ha : PE X a ta) (ho : PE X o to) (hj : j ≤ k := by decide) : PC X .In a o (tInW C false sp (WE W) ta to) := by
  refine ⟨fun pins s σ H Q I h => ?_⟩
  refine (thn (ha.run pins s σ H _ I h) fun u s1 ⟨x, H1, I1, rx, h1⟩ => thn (ho.run pins s1 σ H1 _ I1 h1) fun v s2 ⟨y, H2, I2, ry, b, dx, fs, ey, e, h2⟩ => ?_)
  subst ey
  cases ry
  refine wpAny_bind (in_ok (Q := fun c H3 => Q (.bl c) H3) c hr hj tks I2 rx e (by simpa only [Bool.bne_false] using h2) fun c H' s' I' q' => wpAny_pure ⟨.bl c, H', I', rfl, q'⟩)
theorem pc_notInX (c : CalO X.prog X.w X.K X.mg X.base C "__contains__" j ps sp) (hr : Room k X.A) (tks : L2N.Takes X W) (ha : PE X a ta) (ho : PE X o to) (hj : j ≤ k := by decide) : PC X .NotIn a o (tInW C true sp (WE W) ta to) := by
  refine ⟨fun pins s σ H Q I h => ?_⟩
  refine (thn (ha.run pins s σ H _ I h) fun u s1 ⟨x, H1, I1, rx, h1⟩ => thn (ho.run pins s1 σ H1 _ I1 h1) fun v s2 ⟨y, H2, I2, ry, b, dx, fs, ey, e, h2⟩ => ?_)
  subst ey
  cases ry
  refine wpAny_bind (in_ok (Q := fun c H3 => Q (.bl (!c)) H3) c hr hj tks I2 rx e (by simpa only [Bool.bne_true] using h2) fun c H' s' I' q' => wpAny_pure ⟨.bl (!c), H', I', rfl, q'⟩)
/-! what raises nothing in a context that raises -/
theorem passes0 : Passes (CN X.prog X.w) X E0 := fun pins σ H s e s' I h => by
  obtain ⟨_, _, _, _, _, _, _, _, _, _, _, _, z⟩ := h
  exact z.elim
theorem p_methN {m : Str} {e : Expr} {es : List Expr} {ta : TE} {t : TA} {apos pos : Pos} {pl : Sem Bool} (c : CalO X.prog X.w X.K X.mg X.base C m j ps sp) (hr : Room k X.A) (ho : PE X o ta) (ha : PA X (e :: es) t) (hj : j ≤ k := by decide)
    (hst : starEach (e :: es) X.env = (false, eval e X.env) :: starEach es X.env := by rfl) (hpl : (backTo pos (starEach es X.env)).any (·.1) = false := by rfl)
    (ht : eval (.Call (.Attribute o m apos) (e :: es) [] pos) X.env = (do
      let ov ← eval o X.env
      standAt apos.atName
      let __x ← holding [ov] (getMethod ov m pl)
      match __x with
        | (f, first) => callWith pos f first (backTo pos (starEach (e :: es) X.env)) (backToKw pos (keywordEach [] X.env))) := by rfl) :
    PE X (.Call (.Attribute o m apos) (e :: es) [] pos) (tMeth C m sp [] E0 ta t) := by
  obtain ⟨f, fd, F, cl, M, b⟩ := c.ex
  exact pe_meth ho cl M F (hr.mono hj) b .nil passes0 ha hst hpl ht
theorem p_meth0 {m : Str} {ta : TE} {apos pos : Pos} {pl : Sem Bool} (c : CalO X.prog X.w X.K X.mg X.base C m j ps sp) (hr : Room k X.A) (ho : PE X o ta) (hj : j ≤ k := by decide)
    (ht : eval (.Call (.Attribute o m apos) [] [] pos) X.env = (do
      let ov ← eval o X.env
      standAt apos.atName
      let __x ← holding [ov] (getMethod ov m pl)
      match __x with
        | (f, first) => callWith pos f first (backTo pos (starEach [] X.env)) (backToKw pos (keywordEach [] X.env))) := by rfl) :
    PE X (.Call (.Attribute o m apos) [] [] pos) (tMeth C m sp [] E0 ta tNil) := by
  obtain ⟨f, fd, F, cl, M, b⟩ := c.ex
  exact pe_meth0 ho cl M F (hr.mono hj) b .nil passes0 ht
/-- a property -/
structure CalR (P : Program) (w : World) (K : PySem.W.Frag) (mg : Str → Option Value) (base : Heap) (C : Addr) (m : Str) (k : Nat) (ps : List Str) (sp : Sp) : Prop where
  ex : ∃ f fd p, FnOk P w K mg base (CN P w) k f fd ps sp ∧ Cls K C ∧ PropOf K C m p f ∧ Binds K fd ps []
theorem p_propR {m : Str} {ta : TE} {pos : Pos} (c : CalR X.prog X.w X.K X.mg X.base C m j ps sp) (hr : Room k X.A) (ho : PE X o ta) (hj : j + 1 ≤ k := by decide) (hab : attributeBase o m X.env (eval o X.env) = eval o X.env := by rfl) :
    PE X (.Attribute o m pos) (tProp C sp [] E0 ta) := by
  obtain ⟨f, fd, p, F, cl, M, b⟩ := c.ex
  exact pe_prop ho cl M F (hr.mono hj) b .nil (fun pins σ H s e s' I h => by
    obtain ⟨_, _, _, _, _, _, _, _, _, _, _, _, z⟩ := h
    exact z.elim) hab
end
section
variable {A : Ad} {E : EK} {ta to : TE} {ma mo : ME}
def mInW (C : Addr) (neg : Bool) (c : Ct) (ma mo : ME) : ME := fun XA env k => ma XA env fun d => mo XA env fun o => (∃ ns ds, o = .obj C ns ds) ∧ c [o, d] (fun t => ∃ b, t = .bl b ∧ k (.bl (b != neg))) XA
theorem re_inX {C : Addr} {neg : Bool} {c : Ct} (ha : RE A E ta ma) (ho : RE A E to mo) : RE A E (tInW C neg (SpU A 2 c) E ta to) (mInW C neg c ma mo) := fun s H0 P σ H env XA k Q re x h q =>
  ha s H0 P σ H env XA _ _ re x h fun P1 H1 v d e1 r1 h1 => ho s H0 P1 σ H1 env XA _ _ (re.ext e1) (x.ext e1) h1 fun P2 H2 y o e2 r2 ⟨⟨ns, ds, g1⟩, h2⟩ => by
    have r3 := r2
    subst g1
    simp only [Rp] at r2
    obtain ⟨a, dx, vs, rfl, r4, _⟩ := r2
    refine ⟨a, dx, _, rfl, e2.wf.sub _ _ r4, s, P2, _, _, XA, e2.wf, rps_cons r3 (rps_cons (rp_same e2.sub _ _ r1) rps_nil), rfl, h2, fun P' H' w t e3 r5 ⟨b, et, hk⟩ => ?_, fun P' H' z C d e3 h3 h4 => x P' H' z C d (e1.trans (e2.trans e3)) h3 h4⟩
    subst et
    exact ⟨b, rp_bl r5, q P' H' _ _ (e1.trans (e2.trans e3)) (by simp [Rp]) hk⟩
end
end Mt
/-! ### calls that leave defaults out -/
namespace Mt
open PySem PySem.Spec PyProof.Rows L2 L2H
/-- a def that may raise, its last arguments left to their defaults -/
structure CalXD (P : Program) (w : World) (K : PySem.W.Frag) (mg : Str → Option Value) (base : Heap) (x : Str) (k : Nat) (ps : List Str) (sp : Sp) (dvs : List V) : Prop where
  ex : ∃ f fd ds, FnOk P w K mg base (CN P w) k f fd ps sp ∧ mg x = some (.ref f) ∧ PySem.W.keepIn K (.ref f) = true ∧ Binds K fd ps ds ∧ Vals dvs ds
theorem p_callXD {X : Cx} {W : WX} {x : Str} {j k : Nat} {ps : List Str} {sp : Sp} {dvs : List V} {e : Expr} {es : List Expr} {t : TA} {p pos : Pos} (C : CalXD X.prog X.w X.K X.mg X.base x j ps sp dvs) (hr : Room k X.A) (tk : L2N.Takes X W) (ha : PA X (e :: es) t) (hj : j ≤ k := by decide) (hg : Gl X x := by rfl)
    (hdb : (x == ("__debug__" : Str)) = false := by decide) (he : starEach (e :: es) X.env = (false, eval e X.env) :: starEach es X.env := by rfl) (hpl : (backTo pos (starEach es X.env)).any (·.1) = false := by rfl) :
    PE X (.Call (.Name x p) (e :: es) [] pos) (tCallSD sp dvs (WE W) t) := by
  obtain ⟨f, fd, ds, F, gm, kp, b, hd⟩ := C.ex
  exact pe_callSD F (hr.mono hj) hg gm kp b hd (fun σ => L2N.passAt tk σ) ha hdb he hpl
section
variable {A : Ad} {E : EK} {aa : TA} {am : MA}
def mCallXD (n : Nat) (c : Ct) (dT : List T) (am : MA) : ME := fun XA env k => am XA env fun ds => (ds ++ dT).length = n ∧ c (ds ++ dT) k XA
theorem re_callXD {n : Nat} {c : Ct} {dvs : List V} {dT : List T} (hd : ∀ s P, Rps s P dT dvs) (ha : RA A E aa am) : RE A E (tCallSD (SpU A n c) dvs E aa) (mCallXD n c dT am) := fun s H0 P σ H env XA k Q re x h q =>
  ha s H0 P σ H env XA _ _ re x h fun P1 H1 vs ds e1 r1 ⟨h1, h2⟩ =>
    ⟨s, P1, ds ++ dT, k, XA, e1.wf, rps_app r1 (hd s P1), h1, h2, fun P' H' v d e2 r2 h3 => q P' H' v d (e1.trans e2) r2 h3, fun P' H' z C d e2 h3 h4 => x P' H' z C d (e1.trans e2) h3 h4⟩
end
/-- the default False -/
theorem rd_false : ∀ s P, Rps s P [.bl false] [.bl false] := fun s P => rps_cons (by simp [Rp]) rps_nil
/-! rewriting -/
theorem exOb_w {z C : Addr} {ns : List Str} {ds : List T} {R : Addr → List Str → List T → Prop} : (∃ x ns' ds', some (some (Sl.ob z C ns ds)) = some (some (Sl.ob x C ns' ds')) ∧ R x ns' ds') = R z ns ds := propext ⟨fun ⟨x, a, b, e, h⟩ => by cases e; exact h, fun h => ⟨z, ns, ds, rfl, h⟩⟩
theorem exOb2_w {z C : Addr} {ns : List Str} {ds : List T} {R : Addr → List Str → List T → Prop} : (∃ x ns' ds', Sl.ob z C ns ds = Sl.ob x C ns' ds' ∧ R x ns' ds') = R z ns ds := propext ⟨fun ⟨x, a, b, e, h⟩ => by cases e; exact h, fun h => ⟨z, ns, ds, rfl, h⟩⟩
theorem exObD_w {z C : Addr} {ns : List Str} {ds : List T} {R : Addr → List Str → List T → Prop} : (∃ D ns' ds', some (some (Sl.ob z C ns ds)) = some (some (Sl.ob z D ns' ds')) ∧ R D ns' ds') = R C ns ds := propext ⟨fun ⟨x, a, b, e, h⟩ => by cases e; exact h, fun h => ⟨C, ns, ds, rfl, h⟩⟩
theorem exObD2_w {z C : Addr} {ns : List Str} {ds : List T} {R : Addr → List Str → List T → Prop} : (∃ D ns' ds', Sl.ob z C ns ds = Sl.ob z D ns' ds' ∧ R D ns' ds') = R C ns ds := propext ⟨fun ⟨x, a, b, e, h⟩ => by cases e; exact h, fun h => ⟨C, ns, ds, rfl, h⟩⟩
theorem exObj_w {C : Addr} {ns : List Str} {ds : List T} {R : List Str → List T → T → Prop} : (∃ ns' ds' t, T.obj C ns ds = T.obj C ns' ds' ∧ R ns' ds' t) = ∃ t, R ns ds t := propext ⟨fun ⟨a, b, t, e, h⟩ => by cases e; exact ⟨t, h⟩, fun ⟨t, h⟩ => ⟨ns, ds, t, rfl, h⟩⟩
theorem exObj0_w {C : Addr} {ns : List Str} {ds : List T} : (∃ ns' ds', T.obj C ns ds = T.obj C ns' ds') = True := propext ⟨fun _ => trivial, fun _ => ⟨ns, ds, rfl⟩⟩
theorem exObjC_w {C : Addr} {ns : List Str} {ds : List T} {R : List Str → List T → Prop} : (∃ ns' ds', T.obj C ns ds = T.obj C ns' ds' ∧ R ns' ds') = R ns ds := propext ⟨fun ⟨a, b, e, h⟩ => by cases e; exact h, fun h => ⟨ns, ds, rfl, h⟩⟩
/-! type(x) is not T -/
def rIsNTyH : R2 := fun x y H Q => ∃ m n, x = .ty m ∧ y = .ty n ∧ Q (.bl !decide (m = n)) H
theorem op_isNTyH {X : Cx} : OpR X (compareOp .IsNot) rIsNTyH := op_isNotTy
def oIsNTy : T → T → (T → Prop) → Prop := fun d e k => ∃ m n, d = .ty m ∧ e = .ty n ∧ k (.bl !decide (m = n))
theorem ro_isNTy : ROp rIsNTyH oIsNTy := fun s P H x y d e k Q w h1 h2 ⟨m, n, e1, e2, h⟩ q => by
  subst e1 e2
  simp only [Rp] at h1 h2
  subst h1 h2
  exact ⟨m, n, rfl, rfl, q P H _ _ (Ext.refl w) (by simp [Rp]) h⟩
theorem oIsNTy_w {m n : String} {k : T → Prop} : oIsNTy (.ty m) (.ty n) k = k (.bl !decide (m = n)) := propext ⟨fun ⟨a, b, e1, e2, h⟩ => by cases e1; cases e2; exact h, fun h => ⟨m, n, rfl, rfl, h⟩⟩
end Mt
/-! ### deep ==, list.count -/
namespace Mt
open PySem PySem.Spec PyProof.Rows L2 L2H
mutual
def toPy : T → Option PyData
  | .non => some .none
  | .bl b => some (.bool b)
  | .int i => some (.int i)
  | .str x => some (.str x)
  | .lst ds => (toPys ds).map .list
  | .tup ds => (toPys ds).map .tuple
  | _ => none
def toPys : List T → Option (List PyData)
  | [] => some []
  | d :: ds => match toPy d, toPys ds with
    | some p, some ps => some (p :: ps)
    | _, _ => none
end
mutual
theorem dp_of {s : Option Addr} {P H : Hp} {K : PySem.W.Frag} (w : WF s P H) : ∀ {d : T} {v : V} {p : PyData}, Rp s P d v → toPy d = some p → Dp K H v p
  | .non, v, p, r, e => by
    simp only [Rp] at r
    simp only [toPy] at e
    cases e
    subst r
    exact .non
  | .bl b, v, p, r, e => by
    simp only [Rp] at r
    simp only [toPy] at e
    cases e
    subst r
    exact .bl b
  | .int b, v, p, r, e => by
    simp only [Rp] at r
    simp only [toPy] at e
    cases e
    subst r
    exact .int b
  | .str b, v, p, r, e => by
    simp only [Rp] at r
    simp only [toPy] at e
    cases e
    subst r
    exact .str b
  | .lst ds, v, p, r, e => by
    simp only [Rp] at r
    simp only [toPy, Option.map_eq_some_iff] at e
    obtain ⟨ps, e1, rfl⟩ := e
    obtain ⟨a, vs, rfl, h1, h2, _⟩ := r
    exact .lst (sql_of (w.sub _ _ h1)) (dps_of w h2 e1)
  | .tup ds, v, p, r, e => by
    simp only [Rp] at r
    simp only [toPy, Option.map_eq_some_iff] at e
    obtain ⟨ps, e1, rfl⟩ := e
    obtain ⟨a, vs, rfl, h1, h2, _⟩ := r
    exact .tup (sqt_of (w.sub _ _ h1)) (dps_of w h2 e1)
  | .ty _, v, p, r, e => by simp [toPy] at e
  | .sto, v, p, r, e => by simp [toPy] at e
  | .kc _, v, p, r, e => by simp [toPy] at e
  | .fi _, v, p, r, e => by simp [toPy] at e
  | .obj _ _ _, v, p, r, e => by simp [toPy] at e
theorem dps_of {s : Option Addr} {P H : Hp} {K : PySem.W.Frag} (w : WF s P H) : ∀ {ds : List T} {vs : List V} {ps : List PyData}, Rps s P ds vs → toPys ds = some ps → DpAll K H vs ps
  | [], vs, ps, r, e => by
    simp only [Rps] at r
    simp only [toPys] at e
    cases e
    subst r
    exact .nil
  | d :: ds, vs, ps, r, e => by
    simp only [Rps] at r
    obtain ⟨v, q, rfl, r1, r2⟩ := r
    simp only [toPys] at e
    split at e
    · rename_i p ps' e1 e2
      cases e
      exact .cons (dp_of w r1 e1) (dps_of w r2 e2)
    · cases e
end
def oEqD : T → T → (T → Prop) → Prop := fun d e k => ∃ p q, toPy d = some p ∧ toPy e = some q ∧ SeqAt.shaped p = true ∧ SeqAt.shaped q = true ∧ k (.bl (p.eqv q))
theorem ro_eqD {K : PySem.W.Frag} : ROp (rEqD K) oEqD := fun s P H x y d e k Q w h1 h2 ⟨p, q, e1, e2, s1, s2, h⟩ r =>
  ⟨p, q, dp_of w h1 e1, dp_of w h2 e2, s1, s2, r P H _ _ (Ext.refl w) (by simp [Rp]) h⟩
theorem eqD_ii {i j k l : Int} {Q : T → Prop} : oEqD (.tup [.int i, .int j]) (.tup [.int k, .int l]) Q = Q (.bl (decide (i = k) && decide (j = l))) := by
  have e : PyData.eqv (.tuple [.int i, .int j]) (.tuple [.int k, .int l]) = (decide (i = k) && decide (j = l)) := by
    simp [PyData.eqv, PyData.eqvAll]
    rfl
  refine propext ⟨fun ⟨p, q, e1, e2, _, _, h⟩ => ?_, fun h => ⟨.tuple [.int i, .int j], .tuple [.int k, .int l], rfl, rfl, rfl, rfl, by rw [e]; exact h⟩⟩
  cases e1
  cases e2
  rw [e] at h
  exact h
section
variable {A : Ad} {E : EK} {ta tb : TE} {ma mb : ME} {K : PySem.W.Frag}
def mLcnt (ma mb : ME) : ME := fun XA env k => ma XA env fun d => ∃ ns : List Int, d = .lst (ns.map T.int) ∧ mb XA env fun e => ∃ i : Int, e = .int i ∧ k (.int (ns.count i : Nat))
theorem rps_intsE {s : Option Addr} {P : Hp} : ∀ {ns : List Int} {vs : List V}, Rps s P (ns.map T.int) vs → vs = ns.map V.int
  | [], vs, h => by simpa only [Rps, List.map_nil] using h
  | n :: ns, vs, h => by
    simp only [List.map_cons, Rps, Rp] at h
    obtain ⟨v, r, rfl, rfl, h3⟩ := h
    rw [rps_intsE h3]
    rfl
theorem re_lcnt (ha : RE A E ta ma) (hb : RE A E tb mb) : RE A E (tBM K "list" (rCntI K) ta (tCons tb tNil)) (mLcnt ma mb) := fun s H0 P σ H env XA k Q re x h q =>
  ha s H0 P σ H env XA _ _ re x h fun P1 H1 v d e1 r1 ⟨ns, g1, h1⟩ => by
    subst g1
    simp only [Rp] at r1
    obtain ⟨a, vs, rfl, a1, a2, a3⟩ := r1
    have ev := rps_intsE a2
    subst ev
    refine ⟨by rw [w_tyL (e1.wf.sub _ _ a1)]; trivial, hb s H0 P1 σ H1 env XA _ _ (re.ext e1) (x.ext e1) h1 fun P2 H2 w e e2 r2 ⟨i, g2, h2⟩ => ?_⟩
    subst g2
    exact ⟨a, ns, i, rfl, by rw [rp_int r2], sql_of (e2.wf.sub _ _ (e2.sub _ _ a1)), q P2 H2 _ _ (e1.trans e2) (by simp [Rp]) h2⟩
end
end Mt
/-! ### texts -/
namespace Mt
open PySem PySem.Spec PyProof.Rows L2 L2H
/-- text + text -/
def rCatS : R2 := fun x y H Q => ∃ i j, x = .str i ∧ y = .str j ∧ i.length + j.length ≤ sizeLine ∧ Q (.str (i ++ j)) H
theorem op_catS {X : Cx} : OpR X (binaryOp .Add) rCatS := op_add_str
def oCatS : T → T → (T → Prop) → Prop := fun d e k => ∃ i j, d = .str i ∧ e = .str j ∧ i.length + j.length < 1000000 ∧ k (.str (i ++ j))
theorem ro_catS : ROp rCatS oCatS := fun s P H x y d e k Q w h1 h2 ⟨i, j, e1, e2, hz, h⟩ q => by
  subst e1 e2
  exact ⟨i, j, rp_str h1, rp_str h2, size_line hz, q P H _ _ (Ext.refl w) (by simp [Rp]) h⟩
/-- text[i] -/
def oIxS : T → T → (T → Prop) → Prop := fun d e k => ∃ z i c, d = .str z ∧ e = .int i ∧ z.length < 1000000 ∧ atI z.cps.toList i = some c ∧ k (.str ⟨#[c]⟩)
theorem ro_ixS : ROp rIxS oIxS := fun s P H x y d e k Q w h1 h2 ⟨z, i, c, e1, e2, hz, hc, h⟩ q => by
  subst e1 e2
  exact ⟨z, i, c, rp_str h1, rp_int h2, size_line hz, hc, q P H _ _ (Ext.refl w) (by simp [Rp]) h⟩
/-- sep.join(list of texts) -/
def rJoinH (K : PySem.W.Frag) : V → List V → Hp → VK → Prop := fun x xs H Q => ∃ a p, ∃ ys : List Str, x = .str a ∧ xs = [.ref p] ∧ (SqL K H p (ys.map V.str) ∨ SqT K H p (ys.map V.str)) ∧ (ys.map (·.length)).sum + ys.length * a.length ≤ 16777216 ∧ Q (.str (Txt.join a ys)) H
theorem mt_joinH {X : Cx} : MtR X "str.join" (rJoinH X.K) := mt_join
theorem rps_strsE {s : Option Addr} {P : Hp} : ∀ {ns : List Str} {vs : List V}, Rps s P (ns.map T.str) vs → vs = ns.map V.str
  | [], vs, h => by simpa only [Rps, List.map_nil] using h
  | n :: ns, vs, h => by
    simp only [List.map_cons, Rps, Rp] at h
    obtain ⟨v, r, rfl, rfl, h3⟩ := h
    rw [rps_strsE h3]
    rfl
section
variable {A : Ad} {E : EK} {ta tb : TE} {ma mb : ME} {K : PySem.W.Frag}
def mJoin (ma mb : ME) : ME := fun XA env k => ma XA env fun d => ∃ a : Str, d = .str a ∧ mb XA env fun e => ∃ ys : List Str, e = .lst (ys.map T.str) ∧ (ys.map (·.length)).sum + ys.length * a.length ≤ 16777216 ∧ k (.str (Txt.join a ys))
theorem re_join (ha : RE A E ta ma) (hb : RE A E tb mb) : RE A E (tM1 (rJoinH K) ta tb) (mJoin ma mb) := fun s H0 P σ H env XA k Q re x h q =>
  ha s H0 P σ H env XA _ _ re x h fun P1 H1 v d e1 r1 ⟨a, g1, h1⟩ => by
    subst g1
    have ev := rp_str r1
    subst ev
    refine ⟨⟨a, rfl⟩, hb s H0 P1 σ H1 env XA _ _ (re.ext e1) (x.ext e1) h1 fun P2 H2 w e e2 r2 ⟨ys, g2, hz, h2⟩ => ?_⟩
    subst g2
    simp only [Rp] at r2
    obtain ⟨p, vs, rfl, a1, a2, a3⟩ := r2
    have ev := rps_strsE a2
    subst ev
    exact ⟨a, p, ys, rfl, rfl, Or.inl (sql_of (e2.wf.sub _ _ a1)), hz, q P2 H2 _ _ (e1.trans e2) (by simp [Rp]) h2⟩
end
end Mt
namespace Mt
open PySem PySem.Spec PyProof.Rows L2 L2H
/-- len of a text -/
def rLenS : List V → Hp → VK → Prop := fun vs H Q => ∃ z : Str, vs = [.str z] ∧ z.length ≤ sizeLine ∧ Q (.int z.length) H
theorem call_lenS {X : Cx} : CallR X (.builtin "len") rLenS := call_len_str
def oLenS : List T → (T → Prop) → Prop := fun ds k => ∃ z : Str, ds = [.str z] ∧ z.length < 1000000 ∧ k (.int z.length)
theorem rcb_lenS : RCB rLenS oLenS := fun s P H vs ds k Q w h ⟨z, g1, hz, h3⟩ q => by
  subst g1
  obtain ⟨v, rfl, h1⟩ := rps1 h
  exact ⟨z, by rw [rp_str h1], size_line hz, q P H _ _ (Ext.refl w) (by simp [Rp]) h3⟩
end Mt
namespace Mt
open PySem PySem.Spec PyProof.Rows L2 L2H
/-- tuple of a list -/
def rTupOf (K : PySem.W.Frag) : List V → Hp → VK → Prop := fun xs H Q => ∃ p ys, xs = [.ref p] ∧ ((SqL K H p ys ∧ ∀ l, H l = none → Q (.ref l) (upd H l (.tup ys))) ∨ (SqT K H p ys ∧ Q (.ref p) H))
theorem call_tupOf {X : Cx} : CallR X (.type "tuple") (rTupOf X.K) := call_tuple_of
def oTupOf : List T → (T → Prop) → Prop := fun ds k => ∃ es, ds = [.lst es] ∧ k (.tup es)
theorem rcb_tupOf {K : PySem.W.Frag} : RCB (rTupOf K) oTupOf := fun s P H vs ds k Q w h ⟨es, g1, h3⟩ q => by
  subst g1
  obtain ⟨v, rfl, h1⟩ := rps1 h
  simp only [Rp] at h1
  obtain ⟨a, us, rfl, a1, a2, a3⟩ := h1
  refine ⟨a, us, rfl, Or.inl ⟨sql_of (w.sub _ _ a1), fun l hl => ?_⟩⟩
  have e2 := ext_new (o := .tup us) w hl
  refine q _ _ _ (.tup es) e2 ?_ h3
  simp only [Rp]
  exact ⟨l, us, rfl, upd_same, rps_same e2.sub _ _ a2, a3⟩
theorem oTupOf_w {es : List T} {k : T → Prop} : oTupOf [.lst es] k = k (.tup es) := propext ⟨fun ⟨a, e, h⟩ => by cases e; exact h, fun h => ⟨es, rfl, h⟩⟩
theorem atI_ex {α : Type} {l : List α} {r : Int} (h0 : 0 ≤ r) (h1 : r < l.length) : ∃ c, atI l r = some c := by
  obtain ⟨j, rfl⟩ := Int.eq_ofNat_of_zero_le h0
  exact ⟨l[j]'(by omega), atI_nat (List.getElem?_eq_getElem (by omega))⟩
end Mt
/-! ### max, sum of a list of ints, any, is of bools -/
namespace Mt
open PySem PySem.Spec PyProof.Rows L2 L2H
section
variable {K : PySem.W.Frag}
theorem rps_lst1 {s : Option Addr} {P H : Hp} {ds : List T} {vs : List V} (w : WF s P H) (h : Rps s P [.lst ds] vs) : ∃ a us, vs = [.ref a] ∧ SqL K H a us ∧ Rps s P ds us := by
  obtain ⟨v, rfl, h1⟩ := rps1 h
  simp only [Rp] at h1
  obtain ⟨a, us, rfl, a1, a2, a3⟩ := h1
  exact ⟨a, us, rfl, sql_of (w.sub _ _ a1), a2⟩
def oMaxL : List T → (T → Prop) → Prop := fun ds k => ∃ ns : List Int, ds = [.lst (ns.map T.int)] ∧ 0 < ns.length ∧ ∀ m, m ∈ ns → (∀ y, y ∈ ns → y ≤ m) → k (.int m)
theorem rcb_maxL : RCB (rMax K) oMaxL := fun s P H vs ds k Q w h ⟨ns, g1, g2, h3⟩ q => by
  subst g1
  obtain ⟨a, us, rfl, a1, a2⟩ := rps_lst1 (K := K) w h
  have e := rps_intsE a2
  subst e
  exact ⟨a, ns, rfl, a1, g2, fun m hm hy => q P H _ _ (Ext.refl w) (by simp [Rp]) (h3 m hm hy)⟩
def oSum : List T → (T → Prop) → Prop := fun ds k => ∃ ns : List Int, ds = [.lst (ns.map T.int)] ∧ k (.int ns.sum)
theorem rcb_sum : RCB (rSum K) oSum := fun s P H vs ds k Q w h ⟨ns, g1, h3⟩ q => by
  subst g1
  obtain ⟨a, us, rfl, a1, a2⟩ := rps_lst1 (K := K) w h
  have e := rps_intsE a2
  subst e
  exact ⟨a, ns, rfl, a1, q P H _ _ (Ext.refl w) (by simp [Rp]) h3⟩
theorem rcb_any : RCB (rAny K) oAny := fun s P H vs ds k Q w h ⟨bs, g1, h3⟩ q => by
  subst g1
  obtain ⟨a, us, rfl, a1, a2⟩ := rps_lst1 (K := K) w h
  have e := rps_bls a2
  subst e
  exact ⟨a, bs, rfl, a1, q P H _ _ (Ext.refl w) (by simp [Rp]) h3⟩
def oIsBl : T → T → (T → Prop) → Prop := fun d e k => ∃ a b, d = .bl a ∧ e = .bl b ∧ k (.bl (decide (a = b)))
theorem ro_isBl : ROp rIsB oIsBl := fun s P H x y d e k Q w h1 h2 ⟨a, b, e1, e2, h⟩ q => by
  subst e1 e2
  exact ⟨a, b, rp_bl h1, rp_bl h2, q P H _ _ (Ext.refl w) (by simp [Rp]) h⟩
theorem oIsBl_w {a b : Bool} {k : T → Prop} : oIsBl (.bl a) (.bl b) k = k (.bl (decide (a = b))) := propext ⟨fun ⟨x, y, e1, e2, h⟩ => by cases e1; cases e2; exact h, fun h => ⟨a, b, rfl, rfl, h⟩⟩
end
/-! a def that may raise, where it doesn't -/
section
variable {P : Program} {w : World} {K : PySem.W.Frag} {mg : Str → Option Value} {base : Heap} {A : Ad} {n k : Nat} {c : Ct} {f : Addr} {fd : FuncData} {ps : List Str} {x : Str}
def cCalm (c : Ct) : Ct := fun ds kk _ => c ds kk fun _ => False
theorem spu_calm {vs : List V} {H : Hp} {Q : VK} {E : XK} (h : SpU A n (cCalm c) vs H Q E) : SpU A n c vs H Q fun _ _ _ => False := by
  obtain ⟨s, P, ds, kk, EA, h1, h2, h3, h4, h5, _⟩ := h
  exact ⟨s, P, ds, kk, fun _ => False, h1, h2, h3, h4, h5, fun _ _ _ _ _ _ z => z.elim⟩
theorem fnok_calm (F : FnOk P w K mg base (CN P w) k f fd ps (SpU A n c)) : FnOk P w K mg base CX0 k f fd ps (SpU A n (cCalm c)) := by
  refine ⟨fun vs H Q E h => F.len vs H Q _ (spu_calm h), fun Ar outer s H args us vs Q E a b d e h => codeAny_mono (F.run Ar outer s H args us vs Q _ a b d e (spu_calm h)) fun r s' hr => ?_⟩
  cases r with
  | ok fl => cases fl <;> exact hr
  | error er =>
    obtain ⟨_, _, _, _, _, _, _, _, _, _, _, _, z⟩ := hr
    exact z.elim
theorem CalX.calm (C : CalX P w K mg base x k ps (SpU A n c)) : Cal P w K mg base x k ps (SpU A n (cCalm c)) := by
  obtain ⟨f, fd, F, gm, kp, b⟩ := C.ex
  exact ⟨f, fd, fnok_calm F, gm, kp, b⟩
end
theorem both_mk {K : PySem.W.Frag} {x qual : Str} {st : Stmt} {f D : Addr} {oc : Value} {od an : Option Addr} {osl : Array (Option Value)} {kV doc pm cdv ct : Value} {kws : List (Str × V)}
    (l : K.lookup f = some ⟨oc, od, .func (PySem.W.fnOf x qual (defArgs st) (defBody st) (defScope st) .none kV doc pm an cdv ct), osl⟩) (h : kV = .ref D) (c : PySem.W.codeIn K cdv qual = true) (k : PySem.W.keepIn K (.ref f) = true)
    (w : ∀ q ∈ kws, ∃ u, PySem.W.nsIn K D q.1 = some (some u) ∧ RelV q.2 u) :
    Fun K x qual st f (PySem.W.fnOf x qual (defArgs st) (defBody st) (defScope st) .none kV doc pm an cdv ct) ∧ FunD K x qual (defArgs st) (defBody st) (defScope st) [] kws f (PySem.W.fnOf x qual (defArgs st) (defBody st) (defScope st) .none kV doc pm an cdv ct) :=
  ⟨fun_mk l c k, ⟨⟨oc, od, .none, kV, doc, pm, an, cdv, ct, osl, rfl, l, c, Or.inl ⟨rfl, rfl⟩, Or.inr ⟨D, h, w⟩⟩, k⟩⟩
end Mt
/-! ### trees of one's own lists: made, returned, lent, changed -/
namespace Mt
open PySem PySem.Spec PyProof.Rows L2 L2H
abbrev MOt := (Ex → Prop) → Env → (OT → Prop) → Prop
abbrev MOts := (Ex → Prop) → Env → (List OT → Prop) → Prop
def ROt (A : Ad) (E : EK) (te : TE) (mo : MOt) : Prop := ∀ s H0 P σ H env XA k (Q : VK), Rel s H0 P σ H env → XC A s P σ H E XA → mo XA env k → (∀ P' H1 v t S, Ext s P H P' H1 → OtOk s P' H1 t S v → S.Nodup → (∀ a, a ∈ S → P' a = none ∧ H a = none) → k t → Q v H1) → te σ H Q
def ROa (A : Ad) (E : EK) (ta : TA) (mo : MOts) : Prop := ∀ s H0 P σ H env XA k (Q : List V → Hp → Prop), Rel s H0 P σ H env → XC A s P σ H E XA → mo XA env k → (∀ P' H1 vs ts S, Ext s P H P' H1 → OtsOk s P' H1 ts S vs → S.Nodup → (∀ a, a ∈ S → P' a = none ∧ H a = none) → k ts → Q vs H1) → ta σ H Q
theorem ots_vlen {s : Option Addr} {P H : Hp} : ∀ {ts : List OT} {S : List Addr} {vs : List V}, OtsOk s P H ts S vs → vs.length = ts.length
  | [], S, vs, h => by
    simp only [OtsOk] at h
    rw [h.2]
    rfl
  | t :: ts, S, vs, h => by
    simp only [OtsOk] at h
    obtain ⟨S1, S2, v, r, rfl, rfl, h1, h2⟩ := h
    rw [List.length_cons, List.length_cons, ots_vlen h2]
theorem ots_d {s : Option Addr} {P H : Hp} : ∀ {ds : List T} {vs : List V}, Rps s P ds vs → OtsOk s P H (ds.map .d) [] vs
  | [], vs, h => by
    simp only [Rps] at h
    simp only [List.map_nil, OtsOk]
    exact ⟨trivial, h⟩
  | d :: ds, vs, h => by
    simp only [Rps] at h
    obtain ⟨v, r, rfl, h1, h2⟩ := h
    simp only [List.map_cons, OtsOk, OtOk]
    exact ⟨[], [], v, r, rfl, rfl, ⟨rfl, h1⟩, ots_d h2⟩
theorem ots_snoc {s : Option Addr} {P H : Hp} : ∀ {ts : List OT} {S : List Addr} {vs : List V} {t : OT} {S' : List Addr} {v : V}, OtsOk s P H ts S vs → OtOk s P H t S' v → OtsOk s P H (ts ++ [t]) (S ++ S') (vs ++ [v])
  | [], S, vs, t, S', v, h, g => by
    simp only [OtsOk] at h
    rw [h.1, h.2]
    simp only [List.nil_append, OtsOk]
    exact ⟨S', [], v, [], by rw [List.append_nil], rfl, g, rfl, rfl⟩
  | t0 :: ts, S, vs, t, S', v, h, g => by
    simp only [OtsOk] at h
    obtain ⟨S1, S2, v0, r, rfl, rfl, h1, h2⟩ := h
    simp only [List.cons_append, OtsOk]
    exact ⟨S1, S2 ++ S', v0, r ++ [v], by rw [List.append_assoc], rfl, h1, ots_snoc h2 g⟩
/-- a thing of a tree isn't the store -/
theorem ne_sto {s : Option Addr} {P H : Hp} {a b : Addr} (w : WF s P H) (h : H a = none) : s ≠ some a := fun z => by
  obtain ⟨_, t, _, h3⟩ := w.sto a z
  rw [h] at h3
  cases h3
theorem ext_P {s : Option Addr} {P H P' H' : Hp} {a : Addr} (e : Ext s P H P' H') (h : P a = none) (g : H a ≠ none) : P' a = none := by
  cases q : P' a with
  | none => rfl
  | some o => exact absurd (e.new a h (by rw [q]; exact fun z => nomatch z)) g
section
variable {A : Ad} {E : EK} {te ta tb tc : TE} {me ma mb mc : ME} {t u : TT} {mt mu : MT} {aa ar : TA} {am : MA} {K : PySem.W.Frag} {wi : TI} {mi : MA} {mo mp : MOt} {ms : MOts}
def mOtD (me : ME) : MOt := fun XA env k => me XA env fun d => k (.d d)
theorem rot_d (ha : RE A E te me) : ROt A E te (mOtD me) := fun s H0 P σ H env XA k Q re x h q =>
  ha s H0 P σ H env XA _ _ re x h fun P1 H1 v d e1 r1 h1 => q P1 H1 v (.d d) [] e1 (by simp only [OtOk]; exact ⟨trivial, r1⟩) List.nodup_nil (fun a ha => (nomatch ha)) h1
def mOtO (mo : MA) : MOt := fun XA env k => mo XA env fun ds => k (.lst (ds.map .d))
theorem rot_own {mo : MA} (ha : ROw A E te mo) : ROt A E te (mOtO mo) := fun s H0 P σ H env XA k Q re x h q =>
  ha s H0 P σ H env XA _ _ re x h fun P1 H1 p acc ds e1 hp r hl h1 => by
    have e2 := e1.trans (ext_own (o := .lst acc) e1.wf hp)
    refine q P1 _ (.ref p) (.lst (ds.map .d)) [p] e2 ?_ (List.nodup_cons.mpr ⟨fun h => (nomatch h), List.nodup_nil⟩) (fun a ha => ?_) h1
    · simp only [OtOk]
      exact ⟨p, acc, [], rfl, rfl, upd_same, ots_d r, by rw [List.length_map]; exact hl⟩
    · cases List.mem_singleton.mp ha
      exact ⟨e1.wf.sub.free hp, h0_free e1 hp⟩
def mOaN : MOts := fun _ _ k => k []
theorem rat_nil : ROa A E tNil mOaN := fun s H0 P σ H env XA k Q re x h q => q P H [] [] [] (Ext.refl re.wf) (by simp only [OtsOk]; exact ⟨trivial, trivial⟩) List.nodup_nil (fun a ha => (nomatch ha)) h
def mOaC (mo : MOt) (ms : MOts) : MOts := fun XA env k => mo XA env fun t => ms XA env fun ts => k (t :: ts)
theorem rat_cons (ha : ROt A E ta mo) (hr : ROa A E ar ms) : ROa A E (tCons ta ar) (mOaC mo ms) := fun s H0 P σ H env XA k Q re x h q =>
  ha s H0 P σ H env XA _ _ re x h fun P1 H1 v t S e1 o1 n1 f1 h1 => hr s H0 P1 σ H1 env XA _ _ (re.ext e1) (x.ext e1) h1 fun P2 H2 vs ts S' e2 o2 n2 f2 h2 => by
    have in1 := ot_in o1
    refine q P2 H2 (v :: vs) (t :: ts) (S ++ S') (e1.trans e2) ?_ (List.nodup_append.mpr ⟨n1, n2, fun a ha b hb e => ?_⟩) (fun a ha => ?_) h2
    · simp only [OtsOk]
      exact ⟨S, S', v, vs, rfl, rfl, ot_keep e2.sub (fun a o ha ho => e2.keep a o (ne_sto (b := a) re.wf (f1 a ha).2) ho) o1, o2⟩
    · subst e
      obtain ⟨o, ho⟩ := in1 a ha
      rw [(f2 a hb).2] at ho
      cases ho
    · rcases List.mem_append.mp ha with ha | ha
      · obtain ⟨o, ho⟩ := in1 a ha
        exact ⟨ext_P e2 (f1 a ha).1 (by rw [ho]; exact fun z => nomatch z), (f1 a ha).2⟩
      · exact ⟨(f2 a ha).1, h0_free e1 (f2 a ha).2⟩
def mOtL (ms : MOts) : MOt := fun XA env k => ms XA env fun ts => ts.length < 1000 ∧ k (.lst ts)
def mOtT (ms : MOts) : MOt := fun XA env k => ms XA env fun ts => ts.length < 1000 ∧ k (.tup ts)
theorem rot_lst (ha : ROa A E aa ms) : ROt A E (tLst aa) (mOtL ms) := fun s H0 P σ H env XA k Q re x h q =>
  ha s H0 P σ H env XA _ _ re x h fun P1 H1 vs ts S e1 o1 n1 f1 ⟨hl, h1⟩ => ⟨size_line (by rw [ots_vlen o1]; omega), fun p hp => by
    have nS : p ∉ S := fun z => by
      obtain ⟨o, ho⟩ := ots_in o1 p z
      rw [hp] at ho
      cases ho
    refine q P1 _ (.ref p) (.lst ts) (p :: S) (e1.trans (ext_own e1.wf hp)) ?_ (List.nodup_cons.mpr ⟨nS, n1⟩) (fun a ha => ?_) h1
    · simp only [OtOk]
      exact ⟨p, vs, S, rfl, rfl, upd_same, ots_keep (Same.refl _) (fun a o ha ho => by rw [upd_ne (fun z : a = p => nS (by rw [← z]; exact ha))]; exact ho) o1, by omega⟩
    · rcases List.mem_cons.mp ha with rfl | ha
      · exact ⟨e1.wf.sub.free hp, h0_free e1 hp⟩
      · exact f1 a ha⟩
theorem rot_tup (ha : ROa A E aa ms) : ROt A E (tTup aa) (mOtT ms) := fun s H0 P σ H env XA k Q re x h q =>
  ha s H0 P σ H env XA _ _ re x h fun P1 H1 vs ts S e1 o1 n1 f1 ⟨hl, h1⟩ => ⟨size_line (by rw [ots_vlen o1]; omega), fun p hp => by
    have nS : p ∉ S := fun z => by
      obtain ⟨o, ho⟩ := ots_in o1 p z
      rw [hp] at ho
      cases ho
    refine q P1 _ (.ref p) (.tup ts) (p :: S) (e1.trans (ext_own e1.wf hp)) ?_ (List.nodup_cons.mpr ⟨nS, n1⟩) (fun a ha => ?_) h1
    · simp only [OtOk]
      exact ⟨p, vs, S, rfl, rfl, upd_same, ots_keep (Same.refl _) (fun a o ha ho => by rw [upd_ne (fun z : a = p => nS (by rw [← z]; exact ha))]; exact ho) o1, by omega⟩
    · rcases List.mem_cons.mp ha with rfl | ha
      · exact ⟨e1.wf.sub.free hp, h0_free e1 hp⟩
      · exact f1 a ha⟩
def mOtIf (mt : MT) (mo mp : MOt) : MOt := fun XA env k => mt XA env fun b => if b = true then mo XA env k else mp XA env k
theorem rot_if (ht : RT A E t mt) (ha : ROt A E ta mo) (hb : ROt A E tb mp) : ROt A E (tIf t ta tb) (mOtIf mt mo mp) := fun s H0 P σ H env XA k Q re x h q =>
  ht s H0 P σ H env XA _ _ re x h fun P1 H1 c e1 h1 => by
    have fr : ∀ {P2 H2 v t S}, Ext s P1 H1 P2 H2 → OtOk s P2 H2 t S v → S.Nodup → (∀ a, a ∈ S → P2 a = none ∧ H1 a = none) → k t → Q v H2 := fun {P2 H2 v t S} e2 o n f h2 => q P2 H2 v t S (e1.trans e2) o n (fun a ha => ⟨(f a ha).1, h0_free e1 (f a ha).2⟩) h2
    cases c with
    | true => exact ha s H0 P1 σ H1 env XA k _ (re.ext e1) (x.ext e1) h1 fun P2 H2 v t S e2 o n f h2 => fr e2 o n f h2
    | false => exact hb s H0 P1 σ H1 env XA k _ (re.ext e1) (x.ext e1) h1 fun P2 H2 v t S e2 o n f h2 => fr e2 o n f h2
/-! defs whose answer is a tree of the caller's own -/
abbrev CtF := List T → (OT → Prop) → (Ex → Prop) → Prop
def SpF (A : Ad) (n : Nat) (c : CtF) : Sp := fun vs H Q E => ∃ s P ds k EA, WF s P H ∧ Rps s P ds vs ∧ ds.length = n ∧ c ds k EA ∧ (∀ P' H' v t S, Ext s P H P' H' → OtOk s P' H' t S v → S.Nodup → (∀ a, a ∈ S → P' a = none ∧ H a = none) → k t → Q v H') ∧ (∀ P' H' x C d, Ext s P H P' H' → EA x → ExAt A s P' H' x C d → E C d H')
theorem SpF.len {n : Nat} {c : CtF} {vs : List V} {H : Hp} {Q : VK} {E : XK} (h : SpF A n c vs H Q E) : vs.length = n := by
  obtain ⟨s, P, ds, k, EA, _, h2, h3, _⟩ := h
  rw [rps_len h2, h3]
def cData (c : CtF) : Ct := fun ds k EA => c ds (fun t => k t.t) EA
theorem spf_data {n : Nat} {c : CtF} {vs : List V} {H : Hp} {Q : VK} {E : XK} (h : SpU A n (cData c) vs H Q E) : SpF A n c vs H Q E := by
  obtain ⟨s, P, ds, k, EA, h1, h2, h3, h4, h5, h6⟩ := h
  refine ⟨s, P, ds, _, EA, h1, h2, h3, h4, fun P' H' v t S e o n f hk => ?_, h6⟩
  have sP : Same P' (join P' H' S) := fun b x e => by
    unfold join
    rw [if_neg (fun z => by rw [(f b z).1] at e; cases e)]
    exact e
  have e2 : Ext s P H (join P' H' S) H' := by
    refine ⟨⟨fun b x g => ?_, fun b hb => ?_⟩, e.sub.trans sP, e.keep, fun b hb g => ?_, e.lst⟩
    · unfold join at g
      by_cases z : b ∈ S
      · rw [if_pos z] at g
        exact g
      · rw [if_neg z] at g
        exact e.wf.sub _ _ g
    · obtain ⟨g1, t, g2, g3⟩ := e.wf.sto b hb
      refine ⟨?_, t, stok_same sP g2, g3⟩
      unfold join
      rw [if_neg (fun z => ne_sto (b := b) h1 (f b z).2 hb)]
      exact g1
    · unfold join at g
      by_cases z : b ∈ S
      · exact (f b z).2
      · rw [if_neg z] at g
        exact e.new b hb g
  exact h5 _ _ v t.t e2 (ot_data sP (fun a x ha hx => by unfold join; rw [if_pos ha]; exact hx) o) hk
def mCallF (n : Nat) (c : CtF) (am : MA) : MOt := fun XA env k => am XA env fun ds => ds.length = n ∧ c ds k fun _ => False
def mCallFX (n : Nat) (c : CtF) (am : MA) : MOt := fun XA env k => am XA env fun ds => ds.length = n ∧ c ds k XA
theorem rot_call {n : Nat} {c : CtF} (ha : RA A E aa am) : ROt A E (tCall (SpF A n c) [] E0 aa) (mCallF n c am) := fun s H0 P σ H env XA k Q re x h q =>
  ha s H0 P σ H env XA _ _ re x h fun P1 H1 vs ds e1 r1 ⟨h1, h2⟩ => by
    show SpF A n c (vs ++ []) H1 Q E0
    rw [List.append_nil]
    exact ⟨s, P1, ds, k, _, e1.wf, r1, h1, h2, fun P' H' v t S e2 o n f h3 => q P' H' v t S (e1.trans e2) o n (fun a ha => ⟨(f a ha).1, h0_free e1 (f a ha).2⟩) h3, fun _ _ _ _ _ _ z => z.elim⟩
theorem rot_callX {n : Nat} {c : CtF} (ha : RA A E aa am) : ROt A E (tCallS (SpF A n c) E aa) (mCallFX n c am) := fun s H0 P σ H env XA k Q re x h q =>
  ha s H0 P σ H env XA _ _ re x h fun P1 H1 vs ds e1 r1 ⟨h1, h2⟩ =>
    ⟨s, P1, ds, k, XA, e1.wf, r1, h1, h2, fun P' H' v t S e2 o n f h3 => q P' H' v t S (e1.trans e2) o n (fun a ha => ⟨(f a ha).1, h0_free e1 (f a ha).2⟩) h3, fun P' H' z C d e2 h3 h4 => x P' H' z C d (e1.trans e2) h3 h4⟩
/-! statements -/
def mTr (mo : MOt) (i : Nat) : MS := fun env M => mo (M.xr env) env fun t => M.nx (env.set i (some (.tr t)))
theorem rs_tr {i : Nat} (ha : ROt A E te mo) : RS A E (tAsg te (gName i)) (mTr mo i) := fun s P0 H0 P σ H env D M e re l h =>
  ha s H0 P σ H env _ _ _ re (l.xr P σ H env e (Same.refl _) re) h fun P1 H1 v t S e1 o n f h1 =>
    l.nx P1 _ _ _ (e.trans e1) e1.sub (re.putMine (y := .tr t) e1 (fun a ha => (f a ha).2) ⟨v, rfl, n, fun a ha => ⟨(f a ha).1, h0_free e (f a ha).2, ne_sto (b := a) re.wf (f a ha).2⟩, o⟩) h1
def mRetT (mo : MOt) : MS := fun env M => mo (M.xr env) env M.ro
theorem rs_retT (ha : ROt A E te mo) : RS A E (tRet te) (mRetT mo) := fun s P0 H0 P σ H env D M e re l h =>
  ha s H0 P σ H env _ _ _ re (l.xr P σ H env e (Same.refl _) re) h fun P1 H1 v t S e1 o n f h1 => l.ro P1 H1 v t S (e.trans e1) e1.sub o n (fun a ha => ⟨(f a ha).1, h0_free e (f a ha).2⟩) h1
/-- a slot's own tree -/
def treeOf : Sl → Option OT
  | .own ds => some (.lst (ds.map .d))
  | .tr t => some t
  | _ => none
def mRetV (i : Nat) : MS := fun env M => ∃ x t, env[i]? = some (some x) ∧ treeOf x = some t ∧ M.ro t
theorem rs_retV {i : Nat} : RS A E (tRet (tVar i)) (mRetV i) := fun s P0 H0 P σ H env D M e re l ⟨x, t, h1, h2, h3⟩ => by
  cases x with
  | d y => cases h2
  | ob z C ns ds => cases h2
  | own ds =>
    cases h2
    obtain ⟨a, vs, g1, g2, g3, g4, g5, g6, g7⟩ := re.own h1
    refine ⟨.ref a, g1, l.ro P H (.ref a) _ [a] e (Same.refl _) ?_ (List.nodup_cons.mpr ⟨fun h => (nomatch h), List.nodup_nil⟩) (fun b hb => by cases List.mem_singleton.mp hb; exact ⟨g2, g3⟩) h3⟩
    simp only [OtOk]
    exact ⟨a, vs, [], rfl, rfl, g5, ots_d g6, by rw [List.length_map]; exact g7⟩
  | tr t' =>
    cases h2
    obtain ⟨v, S, g1, g2, g3, g4⟩ := re.tr h1
    exact ⟨v, g1, l.ro P H v _ S e (Same.refl _) g4 g2 (fun b hb => ⟨(g3 b hb).1, (g3 b hb).2.1⟩) h3⟩
/-! lent for a while -/
def mLendT (i : Nat) (mt : MT) : MT := fun _ env k => mt (fun _ => False) (frz env i) k
theorem rt_lend (i : Nat) (ht : RT A E t mt) : RT A E t (mLendT i mt) := fun s H0 P σ H env XA k Q re x h q => by
  obtain ⟨Z, re2, sq, _⟩ := re.lend i
  exact ht s H0 Z σ H _ (fun _ => False) k Q re2 (fun _ _ _ _ _ _ z => z.elim) h fun P' H' b e hk => q P H' b (ext_lent re.wf sq e) hk
def scalT : T → Bool
  | .non => true
  | .bl _ => true
  | .int _ => true
  | .str _ => true
  | .ty _ => true
  | _ => false
theorem rp_scal {s : Option Addr} {P P' : Hp} {d : T} {v : V} (h : scalT d = true) (r : Rp s P d v) : Rp s P' d v := by
  cases d <;> first | (simp only [Rp] at r ⊢; exact r) | cases h
def mLendS (i : Nat) (me : ME) : ME := fun _ env k => me (fun _ => False) (frz env i) fun d => scalT d = true ∧ k d
theorem re_lend (i : Nat) (he : RE A E te me) : RE A E te (mLendS i me) := fun s H0 P σ H env XA k Q re x h q => by
  obtain ⟨Z, re2, sq, _⟩ := re.lend i
  exact he s H0 Z σ H _ (fun _ => False) _ Q re2 (fun _ _ _ _ _ _ z => z.elim) h fun P' H' v d e r ⟨hs, hk⟩ => q P H' v d (ext_lent re.wf sq e) (rp_scal hs r) hk
/-- no more is told of the slot -/
def mForget (i : Nat) (ms : MS) : MS := fun env M => ms (env.set i none) M
theorem rs_forget {s1 : TS} {m1 : MS} (i : Nat) (h1 : RS A E s1 m1) : RS A E s1 (mForget i m1) := fun s P0 H0 P σ H env D M e re l h => h1 s P0 H0 P σ H _ D M e re.drop0 l h
end
end Mt
/-! ### within a tree: reads, changes; comprehensions of trees; a def's run -/
namespace Mt
open PySem PySem.Spec PyProof.Rows L2 L2H
def OT.kids : OT → Option (List OT)
  | .d _ => none
  | .lst ts => some ts
  | .tup ts => some ts
def OT.sub : OT → List Nat → Option OT
  | t, [] => some t
  | .d _, _ :: _ => none
  | .lst ts, i :: p => match ts[i]? with
    | some u => u.sub p
    | none => none
  | .tup ts, i :: p => match ts[i]? with
    | some u => u.sub p
    | none => none
def OT.put : OT → List Nat → OT → OT
  | _, [], u => u
  | .d x, _ :: _, _ => .d x
  | .lst ts, i :: p, u => match ts[i]? with
    | some w => .lst (ts.set i (w.put p u))
    | none => .lst ts
  | .tup ts, i :: p, u => match ts[i]? with
    | some w => .tup (ts.set i (w.put p u))
    | none => .tup ts
/-- the value at a path -/
def VAt (H : Hp) : V → List Nat → V → Prop
  | v, [], w => w = v
  | v, i :: p, w => ∃ a vs x, v = .ref a ∧ seqAt H a = some vs ∧ vs[i]? = some x ∧ VAt H x p w
theorem ots_at {s : Option Addr} {P H : Hp} : ∀ {ts : List OT} {S : List Addr} {vs : List V} {i : Nat} {u : OT}, OtsOk s P H ts S vs → ts[i]? = some u →
    ∃ S1 Su S2 w, S = S1 ++ (Su ++ S2) ∧ vs[i]? = some w ∧ OtOk s P H u Su w ∧ ∀ H' u' Su' w', (∀ a o, a ∈ S1 ++ S2 → H a = some o → H' a = some o) → OtOk s P H' u' Su' w' → OtsOk s P H' (ts.set i u') (S1 ++ (Su' ++ S2)) (vs.set i w')
  | [], S, vs, i, u, h, e => by simp at e
  | t :: ts, S, vs, 0, u, h, e => by
    simp only [OtsOk] at h
    obtain ⟨S1, S2, v, r, rfl, rfl, h1, h2⟩ := h
    have e' : t = u := Option.some.inj e
    subst e'
    refine ⟨[], S1, S2, v, rfl, rfl, h1, fun H' u' Su' w' hk o' => ?_⟩
    simp only [List.nil_append] at hk ⊢
    simp only [List.set_cons_zero, OtsOk]
    exact ⟨Su', S2, w', r, rfl, rfl, o', ots_keep (Same.refl _) hk h2⟩
  | t :: ts, S, vs, i + 1, u, h, e => by
    simp only [OtsOk] at h
    obtain ⟨T1, T2, v, r, rfl, rfl, h1, h2⟩ := h
    obtain ⟨S1, Su, S2, w, e1, e2, e3, e4⟩ := ots_at (i := i) h2 e
    refine ⟨T1 ++ S1, Su, S2, w, by rw [e1, List.append_assoc], e2, e3, fun H' u' Su' w' hk o' => ?_⟩
    simp only [List.set_cons_succ, OtsOk]
    refine ⟨T1, S1 ++ (Su' ++ S2), v, r.set i w', by rw [List.append_assoc], rfl, ot_keep (Same.refl _) (fun a o ha => hk a o ?_) h1, e4 H' u' Su' w' (fun a o ha => hk a o ?_) o'⟩
    · rw [List.append_assoc]
      exact List.mem_append_left _ ha
    · rw [List.append_assoc]
      exact List.mem_append_right _ ha
theorem set_self {α : Type} : ∀ {l : List α} {i : Nat} {x : α}, l[i]? = some x → l.set i x = l
  | [], i, x, h => by simp at h
  | y :: l, 0, x, h => by
    cases h
    rfl
  | y :: l, i + 1, x, h => by
    rw [List.set_cons_succ, set_self (i := i) h]
/-- the part at a path, and what follows where it changes in its place -/
theorem ot_at {s : Option Addr} {P H : Hp} : ∀ {p : List Nat} {t u : OT} {S : List Addr} {v : V}, OtOk s P H t S v → t.sub p = some u → S.Nodup →
    ∃ Su w, (∀ a, a ∈ Su → a ∈ S) ∧ Su.Nodup ∧ OtOk s P H u Su w ∧ VAt H v p w ∧ ∀ H' u' Su', (∀ a o, a ∉ Su → H a = some o → H' a = some o) → OtOk s P H' u' Su' w → Su'.Nodup → (∀ a, a ∈ Su' → a ∈ Su ∨ a ∉ S) →
      ∃ S', OtOk s P H' (t.put p u') S' v ∧ S'.Nodup ∧ ∀ a, a ∈ S' → a ∈ S ∨ a ∈ Su'
  | [], t, u, S, v, h, e, nd => by
    have e' : t = u := Option.some.inj (by rw [← e, OT.sub])
    subst e'
    refine ⟨S, v, fun a h => h, nd, h, rfl, fun H' u' Su' hk o' n' f' => ⟨Su', ?_, n', fun a ha => Or.inr ha⟩⟩
    have e2 : t.put [] u' = u' := by
      cases t <;> rw [OT.put]
    rw [e2]
    exact o'
  | i :: p, .d x, u, S, v, h, e, nd => by
    rw [OT.sub] at e
    cases e
  | i :: p, .lst ts, u, S, v, h, e, nd => by
    simp only [OtOk] at h
    obtain ⟨a, vs, S', rfl, rfl, h1, h2, h3⟩ := h
    rw [OT.sub] at e
    cases q : ts[i]? with
    | none => rw [q] at e; cases e
    | some y =>
      rw [q] at e
      obtain ⟨S1, Sy, S2, x, rfl, ex, oy, rep⟩ := ots_at h2 q
      have nd' := (List.nodup_cons.mp nd).2
      have na := (List.nodup_cons.mp nd).1
      have n2 := List.nodup_append.mp nd'
      have n3 := List.nodup_append.mp n2.2.1
      obtain ⟨Su, w, k1, k2, k3, k4, k5⟩ := ot_at (p := p) oy e n3.1
      refine ⟨Su, w, fun b hb => List.mem_cons_of_mem _ (List.mem_append_right _ (List.mem_append_left _ (k1 b hb))), k2, k3, ⟨a, vs, x, rfl, seqAt_l h1, ex, k4⟩, fun H' u' Su' hk o' n' f' => ?_⟩
      obtain ⟨Sy', j1, j2, j3⟩ := k5 H' u' Su' hk o' n' (fun b hb => by
        rcases f' b hb with z | z
        · exact Or.inl z
        · exact Or.inr fun y => z (List.mem_cons_of_mem _ (List.mem_append_right _ (List.mem_append_left _ y))))
      -- the rest's addresses are none of the part's
      have apart : ∀ b, b ∈ a :: (S1 ++ S2) → b ∉ Sy' := fun b hb z => by
        have inS : b ∈ a :: (S1 ++ (Sy ++ S2)) := by
          rcases List.mem_cons.mp hb with rfl | hb
          · exact List.mem_cons_self ..
          · rcases List.mem_append.mp hb with hb | hb
            · exact List.mem_cons_of_mem _ (List.mem_append_left _ hb)
            · exact List.mem_cons_of_mem _ (List.mem_append_right _ (List.mem_append_right _ hb))
        have nSy : b ∉ Sy := fun y => by
          rcases List.mem_cons.mp hb with rfl | hb
          · exact na (List.mem_append_right _ (List.mem_append_left _ y))
          · rcases List.mem_append.mp hb with hb | hb
            · exact n2.2.2 b hb b (List.mem_append_left _ y) rfl
            · exact n3.2.2 b y b hb rfl
        rcases j3 b z with y | y
        · exact nSy y
        · rcases f' b y with y | y
          · exact nSy (k1 b y)
          · exact y inS
      have out : ∀ b, b ∈ a :: (S1 ++ S2) → b ∉ Su := fun b hb z => by
        have y := k1 b z
        rcases List.mem_cons.mp hb with rfl | hb
        · exact na (List.mem_append_right _ (List.mem_append_left _ y))
        · rcases List.mem_append.mp hb with hb | hb
          · exact n2.2.2 b hb b (List.mem_append_left _ y) rfl
          · exact n3.2.2 b y b hb rfl
      have r := rep H' (y.put p u') Sy' x (fun b o hb ho => hk b o (out b (List.mem_cons_of_mem _ hb)) ho) j1
      rw [set_self ex] at r
      refine ⟨a :: (S1 ++ (Sy' ++ S2)), ?_, ?_, fun b hb => ?_⟩
      · rw [OT.put, q]
        simp only [OtOk]
        exact ⟨a, vs, _, rfl, rfl, hk a _ (out a (List.mem_cons_self ..)) h1, r, by rw [List.length_set]; exact h3⟩
      · refine List.nodup_cons.mpr ⟨fun z => ?_, List.nodup_append.mpr ⟨n2.1, List.nodup_append.mpr ⟨j2, n3.2.1, fun b hb c hc e => ?_⟩, fun b hb c hc e => ?_⟩⟩
        · rcases List.mem_append.mp z with z | z
          · exact na (List.mem_append_left _ z)
          · rcases List.mem_append.mp z with z | z
            · exact apart a (List.mem_cons_self ..) z
            · exact na (List.mem_append_right _ (List.mem_append_right _ z))
        · subst e
          exact apart b (List.mem_cons_of_mem _ (List.mem_append_right _ hc)) hb
        · subst e
          rcases List.mem_append.mp hc with hc | hc
          · exact apart b (List.mem_cons_of_mem _ (List.mem_append_left _ hb)) hc
          · exact n2.2.2 b hb b (List.mem_append_right _ hc) rfl
      · rcases List.mem_cons.mp hb with rfl | hb
        · exact Or.inl (List.mem_cons_self ..)
        · rcases List.mem_append.mp hb with hb | hb
          · exact Or.inl (List.mem_cons_of_mem _ (List.mem_append_left _ hb))
          · rcases List.mem_append.mp hb with hb | hb
            · rcases j3 b hb with y | y
              · exact Or.inl (List.mem_cons_of_mem _ (List.mem_append_right _ (List.mem_append_left _ y)))
              · exact Or.inr y
            · exact Or.inl (List.mem_cons_of_mem _ (List.mem_append_right _ (List.mem_append_right _ hb)))
  | i :: p, .tup ts, u, S, v, h, e, nd => by
    simp only [OtOk] at h
    obtain ⟨a, vs, S', rfl, rfl, h1, h2, h3⟩ := h
    rw [OT.sub] at e
    cases q : ts[i]? with
    | none => rw [q] at e; cases e
    | some y =>
      rw [q] at e
      obtain ⟨S1, Sy, S2, x, rfl, ex, oy, rep⟩ := ots_at h2 q
      have nd' := (List.nodup_cons.mp nd).2
      have na := (List.nodup_cons.mp nd).1
      have n2 := List.nodup_append.mp nd'
      have n3 := List.nodup_append.mp n2.2.1
      obtain ⟨Su, w, k1, k2, k3, k4, k5⟩ := ot_at (p := p) oy e n3.1
      refine ⟨Su, w, fun b hb => List.mem_cons_of_mem _ (List.mem_append_right _ (List.mem_append_left _ (k1 b hb))), k2, k3, ⟨a, vs, x, rfl, seqAt_t h1, ex, k4⟩, fun H' u' Su' hk o' n' f' => ?_⟩
      obtain ⟨Sy', j1, j2, j3⟩ := k5 H' u' Su' hk o' n' (fun b hb => by
        rcases f' b hb with z | z
        · exact Or.inl z
        · exact Or.inr fun y => z (List.mem_cons_of_mem _ (List.mem_append_right _ (List.mem_append_left _ y))))
      have apart : ∀ b, b ∈ a :: (S1 ++ S2) → b ∉ Sy' := fun b hb z => by
        have inS : b ∈ a :: (S1 ++ (Sy ++ S2)) := by
          rcases List.mem_cons.mp hb with rfl | hb
          · exact List.mem_cons_self ..
          · rcases List.mem_append.mp hb with hb | hb
            · exact List.mem_cons_of_mem _ (List.mem_append_left _ hb)
            · exact List.mem_cons_of_mem _ (List.mem_append_right _ (List.mem_append_right _ hb))
        have nSy : b ∉ Sy := fun y => by
          rcases List.mem_cons.mp hb with rfl | hb
          · exact na (List.mem_append_right _ (List.mem_append_left _ y))
          · rcases List.mem_append.mp hb with hb | hb
            · exact n2.2.2 b hb b (List.mem_append_left _ y) rfl
            · exact n3.2.2 b y b hb rfl
        rcases j3 b z with y | y
        · exact nSy y
        · rcases f' b y with y | y
          · exact nSy (k1 b y)
          · exact y inS
      have out : ∀ b, b ∈ a :: (S1 ++ S2) → b ∉ Su := fun b hb z => by
        have y := k1 b z
        rcases List.mem_cons.mp hb with rfl | hb
        · exact na (List.mem_append_right _ (List.mem_append_left _ y))
        · rcases List.mem_append.mp hb with hb | hb
          · exact n2.2.2 b hb b (List.mem_append_left _ y) rfl
          · exact n3.2.2 b y b hb rfl
      have r := rep H' (y.put p u') Sy' x (fun b o hb ho => hk b o (out b (List.mem_cons_of_mem _ hb)) ho) j1
      rw [set_self ex] at r
      refine ⟨a :: (S1 ++ (Sy' ++ S2)), ?_, ?_, fun b hb => ?_⟩
      · rw [OT.put, q]
        simp only [OtOk]
        exact ⟨a, vs, _, rfl, rfl, hk a _ (out a (List.mem_cons_self ..)) h1, r, by rw [List.length_set]; exact h3⟩
      · refine List.nodup_cons.mpr ⟨fun z => ?_, List.nodup_append.mpr ⟨n2.1, List.nodup_append.mpr ⟨j2, n3.2.1, fun b hb c hc e => ?_⟩, fun b hb c hc e => ?_⟩⟩
        · rcases List.mem_append.mp z with z | z
          · exact na (List.mem_append_left _ z)
          · rcases List.mem_append.mp z with z | z
            · exact apart a (List.mem_cons_self ..) z
            · exact na (List.mem_append_right _ (List.mem_append_right _ z))
        · subst e
          exact apart b (List.mem_cons_of_mem _ (List.mem_append_right _ hc)) hb
        · subst e
          rcases List.mem_append.mp hc with hc | hc
          · exact apart b (List.mem_cons_of_mem _ (List.mem_append_left _ hb)) hc
          · exact n2.2.2 b hb b (List.mem_append_right _ hc) rfl
      · rcases List.mem_cons.mp hb with rfl | hb
        · exact Or.inl (List.mem_cons_self ..)
        · rcases List.mem_append.mp hb with hb | hb
          · exact Or.inl (List.mem_cons_of_mem _ (List.mem_append_left _ hb))
          · rcases List.mem_append.mp hb with hb | hb
            · rcases j3 b hb with y | y
              · exact Or.inl (List.mem_cons_of_mem _ (List.mem_append_right _ (List.mem_append_left _ y)))
              · exact Or.inr y
            · exact Or.inl (List.mem_cons_of_mem _ (List.mem_append_right _ (List.mem_append_right _ hb)))
/-- the value at a path is one -/
theorem vat_one {H : Hp} : ∀ {p : List Nat} {v w w' : V}, VAt H v p w → VAt H v p w' → w = w'
  | [], v, w, w', h, g => by
    have h : w = v := h
    have g : w' = v := g
    rw [h, g]
  | i :: p, v, w, w', ⟨a, vs, x, e1, e2, e3, h⟩, ⟨a', vs', x', f1, f2, f3, g⟩ => by
    rw [e1] at f1
    cases f1
    rw [e2] at f2
    cases f2
    rw [e3] at f3
    cases f3
    exact vat_one h g
theorem vat_snoc {H : Hp} {i : Nat} {x : V} {a : Addr} {vs : List V} (e2 : seqAt H a = some vs) (e3 : vs[i]? = some x) : ∀ {p : List Nat} {v : V}, VAt H v p (.ref a) → VAt H v (p ++ [i]) x
  | [], v, h => by
    have h : V.ref a = v := h
    exact ⟨a, vs, x, h.symm, e2, e3, rfl⟩
  | j :: p, v, ⟨b, us, y, f1, f2, f3, h⟩ => ⟨b, us, y, f1, f2, f3, vat_snoc e2 e3 h⟩
theorem vat_keep {s : Option Addr} {P H H' : Hp} : ∀ {p : List Nat} {t u : OT} {S : List Addr} {v w : V}, OtOk s P H t S v → t.sub p = some u → (∀ a o, a ∈ S → H a = some o → H' a = some o) → VAt H v p w → VAt H' v p w
  | [], t, u, S, v, w, h, e, hk, g => g
  | i :: p, .d x, u, S, v, w, h, e, hk, g => by
    rw [OT.sub] at e
    cases e
  | i :: p, .lst ts, u, S, v, w, h, e, hk, ⟨a, vs, x, e1, e2, e3, g⟩ => by
    simp only [OtOk] at h
    obtain ⟨b, us, S', rfl, rfl, h1, h2, h3⟩ := h
    cases e1
    rw [seqAt_l h1] at e2
    cases e2
    rw [OT.sub] at e
    cases q : ts[i]? with
    | none => rw [q] at e; cases e
    | some y =>
      rw [q] at e
      obtain ⟨S1, Sy, S2, x', rfl, ex, oy, _⟩ := ots_at h2 q
      rw [e3] at ex
      cases ex
      exact ⟨_, _, x, rfl, seqAt_l (hk _ _ (List.mem_cons_self ..) h1), e3, vat_keep (p := p) oy e (fun a o ha => hk a o (List.mem_cons_of_mem _ (List.mem_append_right _ (List.mem_append_left _ ha)))) g⟩
  | i :: p, .tup ts, u, S, v, w, h, e, hk, ⟨a, vs, x, e1, e2, e3, g⟩ => by
    simp only [OtOk] at h
    obtain ⟨b, us, S', rfl, rfl, h1, h2, h3⟩ := h
    cases e1
    rw [seqAt_t h1] at e2
    cases e2
    rw [OT.sub] at e
    cases q : ts[i]? with
    | none => rw [q] at e; cases e
    | some y =>
      rw [q] at e
      obtain ⟨S1, Sy, S2, x', rfl, ex, oy, _⟩ := ots_at h2 q
      rw [e3] at ex
      cases ex
      exact ⟨_, _, x, rfl, seqAt_t (hk _ _ (List.mem_cons_self ..) h1), e3, vat_keep (p := p) oy e (fun a o ha => hk a o (List.mem_cons_of_mem _ (List.mem_append_right _ (List.mem_append_left _ ha)))) g⟩
theorem sub_snoc {i : Nat} {w : OT} {ts : List OT} (hw : ts[i]? = some w) : ∀ {p : List Nat} {t u : OT}, t.sub p = some u → u.kids = some ts → t.sub (p ++ [i]) = some w
  | [], t, u, h, hu => by
    have e' : t = u := Option.some.inj (by rw [← h, OT.sub])
    subst e'
    cases t with
    | d x => cases hu
    | lst us =>
      cases hu
      show OT.sub _ [i] = some w
      have e0 : w.sub [] = some w := by cases w <;> rw [OT.sub]
      simp only [OT.sub, hw]
    | tup us =>
      cases hu
      show OT.sub _ [i] = some w
      have e0 : w.sub [] = some w := by cases w <;> rw [OT.sub]
      simp only [OT.sub, hw]
  | j :: p, .d x, u, h, hu => by
    rw [OT.sub] at h
    cases h
  | j :: p, .lst us, u, h, hu => by
    rw [OT.sub] at h
    rw [List.cons_append, OT.sub]
    cases q : us[j]? with
    | none => rw [q] at h; cases h
    | some y =>
      rw [q] at h
      exact sub_snoc hw h hu
  | j :: p, .tup us, u, h, hu => by
    rw [OT.sub] at h
    rw [List.cons_append, OT.sub]
    cases q : us[j]? with
    | none => rw [q] at h; cases h
    | some y =>
      rw [q] at h
      exact sub_snoc hw h hu
section
variable {A : Ad} {E : EK} {te ta tb tc tj : TE} {me ma mb mc mj : ME} {t u : TT} {mt mu : MT} {aa ar : TA} {am : MA} {K : PySem.W.Frag} {wi : TI} {mi : MA} {mo : MOt}
abbrev MPth := (Ex → Prop) → Env → (OT → List Nat → OT → Prop) → Prop
/-- an expression that leads into slot i's tree -/
def RPth (A : Ad) (E : EK) (te : TE) (i : Nat) (mp : MPth) : Prop := ∀ s H0 P σ H env XA k (Q : VK), Rel s H0 P σ H env → XC A s P σ H E XA → mp XA env k → (∀ P' H' t p u v w, Ext s P H P' H' → env[i]? = some (some (.tr t)) → t.sub p = some u → σ[i]? = some (some v) → VAt H' v p w → k t p u → Q w H') → te σ H Q
def mPV (i : Nat) : MPth := fun XA env k => ∃ t, env[i]? = some (some (.tr t)) ∧ k t [] t
theorem rp_var {i : Nat} : RPth A E (tVar i) i (mPV i) := fun s H0 P σ H env XA k Q re x ⟨t, h1, h2⟩ q => by
  obtain ⟨v, S, g1, _, _, _⟩ := re.tr h1
  exact ⟨v, g1, q P H t [] t v v (Ext.refl re.wf) h1 (by cases t <;> rw [OT.sub]) g1 rfl h2⟩
def mPI (mp : MPth) (me : ME) : MPth := fun XA env k => mp XA env fun t p u => me XA env fun d => ∃ n ts j w, d = .int n ∧ u.kids = some ts ∧ ixN ts.length n = some j ∧ ts[j]? = some w ∧ k t (p ++ [j]) w
theorem atI_of {α : Type} {l : List α} {n : Int} {j : Nat} {x : α} (h : ixN l.length n = some j) (g : l[j]? = some x) : atI l n = some x := by
  unfold atI
  rw [h]
  exact g
theorem rp_ix {i : Nat} {mp : MPth} (hp : RPth A E ta i mp) (hb : RE A E tb mb) : RPth A E (tOp rIxH ta tb) i (mPI mp mb) := fun s H0 P σ H env XA k Q re x h q =>
  hp s H0 P σ H env XA _ _ re x h fun P1 H1 t p u v w e1 g1 g2 g3 g4 h1 => hb s H0 P1 σ H1 env XA _ _ (re.ext e1) (x.ext e1) h1 fun P2 H2 y d e2 r2 ⟨n, ts, j, z, ed, hu, hj, hz, h2⟩ => by
    subst ed
    -- the value w still stands at p
    obtain ⟨v1, S1, a1, a2, a3, a4⟩ := (re.ext e1).tr g1
    rw [g3] at a1
    cases a1
    have vk := vat_keep a4 g2 (fun a o ha ho => e2.keep a o (a3 a ha).2.2 ho) g4
    obtain ⟨v2, S2, b1, b2, b3, b4⟩ := ((re.ext e1).ext e2).tr g1
    rw [g3] at b1
    cases b1
    obtain ⟨Su, w', c1, c2, c3, c4, _⟩ := ot_at b4 g2 b2
    have ew := vat_one vk c4
    subst ew
    have ex : ∃ a vs S', w = .ref a ∧ seqAt H2 a = some vs ∧ OtsOk s P2 H2 ts S' vs := by
      cases u with
      | d _ => cases hu
      | lst us =>
        cases hu
        simp only [OtOk] at c3
        obtain ⟨a, vs, S', rfl, _, d1, d2, _⟩ := c3
        exact ⟨a, vs, S', rfl, seqAt_l d1, d2⟩
      | tup us =>
        cases hu
        simp only [OtOk] at c3
        obtain ⟨a, vs, S', rfl, _, d1, d2, _⟩ := c3
        exact ⟨a, vs, S', rfl, seqAt_t d1, d2⟩
    obtain ⟨a, vs, S', rfl, d1, d2⟩ := ex
    obtain ⟨_, _, _, o, _, eo, _, _⟩ := ots_at d2 hz
    refine ⟨a, n, vs, o, rfl, rp_int r2, d1, atI_of (by rw [ots_vlen d2]; exact hj) eo, ?_⟩
    exact q P2 H2 t (p ++ [j]) z v o (e1.trans e2) g1 (sub_snoc hz g2 hu) g3 (vat_snoc d1 eo c4) h2
/-- a list within slot i's tree is changed, its new items are among the old ones and the trees of S2 -/
theorem tr_change {s : Option Addr} {P0 H0 P H P3 H3 : Hp} {σ : L2.St} {env : Env} {i : Nat} {t : OT} {p : List Nat} {ts ts' : List OT} {S2 : List Addr} {v : V} {a : Addr} {f : List V → List V} (e0 : Ext s P0 H0 P H) (re : Rel s H0 P σ H env) (e : Ext s P H P3 H3) (g1 : env[i]? = some (some (.tr t))) (g2 : t.sub p = some (.lst ts)) (g3 : σ[i]? = some (some v)) (g4 : VAt H3 v p (.ref a))
    (n2 : ∀ b, b ∈ S2 → P3 b = none ∧ H b = none) (l' : ts'.length < 1000000)
    (hts : ∀ S' vs, OtsOk s P3 H3 ts S' vs → S'.Nodup → (∀ b, b ∈ S' → b ∉ S2) → ∃ S'', OtsOk s P3 H3 ts' S'' (f vs) ∧ S''.Nodup ∧ ∀ b, b ∈ S'' → b ∈ S' ∨ b ∈ S2) :
    ∃ vs S', H3 a = some (.lst vs) ∧ OtsOk s P3 H3 ts S' vs ∧ Ext s P0 H0 P3 (upd H3 a (.lst (f vs))) ∧ Rel s H0 P3 σ (upd H3 a (.lst (f vs))) (env.set i (some (.tr (t.put p (.lst ts'))))) := by
  obtain ⟨v1, S1, a1, a2, a3, a4⟩ := (re.ext e).tr g1
  rw [g3] at a1
  cases a1
  obtain ⟨Su0, w0, m1, _, c30, c40, _⟩ := ot_at a4 g2 a2
  have ew := vat_one g4 c40
  subst ew
  simp only [OtOk] at c30
  obtain ⟨a', vs, S', ea, eS, d1, d2, d3⟩ := c30
  cases ea
  have aS : a ∈ S1 := m1 a (by rw [eS]; exact List.mem_cons_self ..)
  refine ⟨vs, S', d1, d2, ext_change (e0.trans e) (a3 a aS).1 (a3 a aS).2.1 (a3 a aS).2.2, ?_⟩
  refine re.mod e g1 rfl fun A hA hin => ?_
  obtain ⟨v2, ev, nd, hA3, oA⟩ := hA
  rw [g3] at ev
  cases ev
  obtain ⟨Su, w, k1, k2, k3, k4, k5⟩ := ot_at oA g2 nd
  have ew := vat_one g4 k4
  subst ew
  simp only [OtOk] at k3
  obtain ⟨a', vs', S'', ea, eS', f1, f2, f3⟩ := k3
  cases ea
  rw [d1] at f1
  cases f1
  subst eS'
  have n0 := List.nodup_cons.mp k2
  have out2 : ∀ b, b ∈ A → b ∉ S2 := fun b hb z => by
    obtain ⟨o, ho⟩ := hin b hb
    rw [(n2 b z).2] at ho
    cases ho
  obtain ⟨T, t1, t2, t3⟩ := hts S'' vs f2 n0.2 fun b hb => out2 b (k1 b (List.mem_cons_of_mem _ hb))
  have aT : a ∉ T := fun z => by
    rcases t3 a z with z | z
    · exact n0.1 z
    · exact out2 a (k1 a (List.mem_cons_self ..)) z
  obtain ⟨R, r1, r2, r3⟩ := k5 (upd H3 a (.lst (f vs))) (.lst ts') (a :: T) (fun b o hb ho => by
    rw [upd_ne (fun z : b = a => hb (by rw [z]; exact List.mem_cons_self ..))]
    exact ho) (by
    simp only [OtOk]
    exact ⟨a, f vs, T, rfl, rfl, upd_same, ots_keep (Same.refl _) (fun b o hb ho => by
      rw [upd_ne (fun z : b = a => aT (by rw [← z]; exact hb))]
      exact ho) t1, l'⟩) (List.nodup_cons.mpr ⟨aT, t2⟩) (fun b hb => by
    rcases List.mem_cons.mp hb with rfl | hb
    · exact Or.inl (List.mem_cons_self ..)
    · rcases t3 b hb with z | z
      · exact Or.inl (List.mem_cons_of_mem _ z)
      · exact Or.inr fun y => out2 b y z)
  have inA : ∀ b, b ∈ R → b ∈ A ∨ b ∈ S2 := fun b hb => by
    rcases r3 b hb with z | z
    · exact Or.inl z
    · rcases List.mem_cons.mp z with rfl | z
      · exact Or.inl (k1 b (List.mem_cons_self ..))
      · rcases t3 b z with z | z
        · exact Or.inl (k1 b (List.mem_cons_of_mem _ z))
        · exact Or.inr z
  refine ⟨R, fun b hb => ?_, fun b o hb ho => ?_, v, g3, r2, fun b hb => ?_, r1⟩
  · rcases inA b hb with z | z
    · exact Or.inl z
    · exact Or.inr (n2 b z).2
  · rw [upd_ne (fun z : b = a => hb (by rw [z]; exact k1 a (List.mem_cons_self ..)))]
    exact ho
  · rcases inA b hb with z | z
    · exact hA3 b z
    · exact ⟨(n2 b z).1, h0_free e0 (n2 b z).2, ne_sto (b := b) re.wf (n2 b z).2⟩
/-- path.append(e): the part at the path is a list, and one item longer -/
def mPApp (i : Nat) (mp : MPth) (mo : MOt) : MS := fun env M => mp (M.xr env) env fun t p u => ∃ ts, u = .lst ts ∧ mo (M.xr env) env fun y => ts.length + 1 < 1000000 ∧ M.nx (env.set i (some (.tr (t.put p (.lst (ts ++ [y]))))))
theorem rs_pApp {i : Nat} {mp : MPth} (hp : RPth A E ta i mp) (ho : ROt A E te mo) : RS A E (tDrop (tBM K "list" rAppend ta (tCons te tNil))) (mPApp i mp mo) := fun s P0 H0 P σ H env D M e re l h =>
  hp s H0 P σ H env _ _ _ re (l.xr P σ H env e (Same.refl _) re) h fun P1 H1 t p u v w e1 g1 g2 g3 g4 ⟨ts, eu, h1⟩ => by
    subst eu
    have re1 := re.ext e1
    obtain ⟨v1, S1, a1, a2, a3, a4⟩ := re1.tr g1
    rw [g3] at a1
    cases a1
    obtain ⟨Su0, w0, m1, _, c30, c40, _⟩ := ot_at a4 g2 a2
    have ew := vat_one g4 c40
    subst ew
    simp only [OtOk] at c30
    obtain ⟨a, vs, S', rfl, eS, d1, d2, d3⟩ := c30
    refine ⟨by rw [w_tyL d1]; trivial, ho s H0 P1 σ H1 env _ _ _ re1 (l.xr P1 σ H1 env (e.trans e1) e1.sub re1) h1 fun P2 H2 y t2 S2 e2 o2 n2 f2 ⟨hl, h3⟩ => ?_⟩
    have g4' := vat_keep a4 g2 (fun b o hb ho => e2.keep b o (a3 b hb).2.2 ho) g4
    obtain ⟨vs', T', q1, q0, q2, q3⟩ := tr_change (f := fun vs => vs ++ [y]) (ts' := ts ++ [t2]) (e.trans e1) re1 e2 g1 g2 g3 g4' f2 (by rw [List.length_append]; exact hl) fun S' vs os nd ds =>
      ⟨S' ++ S2, ots_snoc os o2, List.nodup_append.mpr ⟨nd, n2, fun b hb c hc ee => ds b hb (by rw [ee]; exact hc)⟩, fun b hb => List.mem_append.mp hb⟩
    show rAppend (V.ref a) [y] H2 (fun _ H2 => D.nx σ H2)
    rw [w_append q1]
    exact ⟨by rw [ots_vlen q0, sizeLine_eq]; omega, l.nx P2 σ _ _ q2 (e1.sub.trans e2.sub) q3 h3⟩
/-- path[j] = e -/
def mPSet (mo : MOt) (i : Nat) (mp : MPth) (mj : ME) : MS := fun env M => mo (M.xr env) env fun y => mp (M.xr env) env fun t p u => mj (M.xr env) env fun d => ∃ ts n j, u = .lst ts ∧ d = .int n ∧ ixN ts.length n = some j ∧ M.nx (env.set i (some (.tr (t.put p (.lst (ts.set j y))))))
theorem ix_lt {m j : Nat} {n : Int} (h : ixN m n = some j) : j < m := by
  unfold ixN at h
  split at h
  · split at h
    · cases h
      omega
    · cases h
  · split at h
    · cases h
      omega
    · cases h
theorem rs_pSet {i : Nat} {mp : MPth} (ho : ROt A E te mo) (hp : RPth A E ta i mp) (hj : RE A E tj mj) : RS A E (tAsg te (gSub ta tj rSetL)) (mPSet mo i mp mj) := fun s P0 H0 P σ H env D M e re l h =>
  ho s H0 P σ H env _ _ _ re (l.xr P σ H env e (Same.refl _) re) h fun P1 H1 y t2 S2 e1 o2 n2 f2 h1 => by
    have re1 := re.ext e1
    refine hp s H0 P1 σ H1 env _ _ _ re1 (l.xr P1 σ H1 env (e.trans e1) e1.sub re1) h1 fun P2 H2 t p u v w e2 g1 g2 g3 g4 h2 => ?_
    have re2 := re1.ext e2
    refine hj s H0 P2 σ H2 env _ _ _ re2 (l.xr P2 σ H2 env (e.trans (e1.trans e2)) (e1.sub.trans e2.sub) re2) h2 fun P3 H3 z d e3 r3 ⟨ts, n, j, eu, ed, hx, h3⟩ => ?_
    subst eu ed
    obtain ⟨v1, S1, a1, a2, a3, a4⟩ := re2.tr g1
    rw [g3] at a1
    cases a1
    obtain ⟨Su0, w0, m1, _, c30, c40, _⟩ := ot_at a4 g2 a2
    have ew := vat_one g4 c40
    subst ew
    simp only [OtOk] at c30
    obtain ⟨a, vs, S', rfl, eS, d1, d2, d3⟩ := c30
    have g4' := vat_keep a4 g2 (fun b o hb ho => e3.keep b o (a3 b hb).2.2 ho) g4
    have e23 := e2.trans e3
    have in2 := ot_in o2
    have o3 : OtOk s P3 H3 t2 S2 y := ot_keep e23.sub (fun b o hb ho => e23.keep b o (ne_sto (b := b) re.wf (f2 b hb).2) ho) o2
    have f3 : ∀ b, b ∈ S2 → P3 b = none ∧ H b = none := fun b hb => by
      obtain ⟨o, ho⟩ := in2 b hb
      exact ⟨ext_P e23 (f2 b hb).1 (by rw [ho]; exact fun z => nomatch z), (f2 b hb).2⟩
    have jl := ix_lt hx
    obtain ⟨vs', T', q1, q0, q2, q3⟩ := tr_change (f := fun vs => vs.set j y) (ts' := ts.set j t2) e re (e1.trans e23) g1 g2 g3 g4' f3 (by rw [List.length_set]; exact d3) fun S' vs os nd ds => by
      obtain ⟨X1, Xu, X2, x, rfl, _, _, rep⟩ := ots_at os (List.getElem?_eq_getElem jl)
      have m2 := List.nodup_append.mp nd
      have m3 := List.nodup_append.mp m2.2.1
      refine ⟨X1 ++ (S2 ++ X2), rep H3 t2 S2 y (fun _ _ _ h => h) o3, List.nodup_append.mpr ⟨m2.1, List.nodup_append.mpr ⟨n2, m3.2.1, fun b hb c hc ee => ?_⟩, fun b hb c hc ee => ?_⟩, fun b hb => ?_⟩
      · subst ee
        exact ds b (List.mem_append_right _ (List.mem_append_right _ hc)) hb
      · subst ee
        rcases List.mem_append.mp hc with hc | hc
        · exact ds b (List.mem_append_left _ hb) hc
        · exact m2.2.2 b hb b (List.mem_append_right _ hc) rfl
      · rcases List.mem_append.mp hb with hb | hb
        · exact Or.inl (List.mem_append_left _ hb)
        · rcases List.mem_append.mp hb with hb | hb
          · exact Or.inr hb
          · exact Or.inl (List.mem_append_right _ (List.mem_append_right _ hb))
    rw [rp_int r3]
    show rSetL (.ref a) (.int n) y H3 _
    rw [w_setE q1 (j := j) (by rw [ots_vlen q0]; exact hx)]
    exact l.nx P3 σ _ _ q2 (e1.sub.trans e23.sub) q3 h3
end
end Mt
/-! ### comprehensions of trees; a def's run; either reading -/
namespace Mt
open PySem PySem.Spec PyProof.Rows L2 L2H
section
variable {A : Ad} {E : EK} {te ta tb tc tj : TE} {me ma mb mc mj : ME} {t u : TT} {mt mu : MT} {aa ar : TA} {am : MA} {K : PySem.W.Frag} {wi : TI} {mi : MA} {mo mp : MOt}
def lcInvT (f : T → (Option OT → Prop) → Prop) (xs : List T) (k : List OT → Prop) : Prop := ∃ I : Nat → List OT → Prop, I 0 [] ∧ (∀ i x acc, xs[i]? = some x → I i acc → f x fun o => match o with
    | some d => I (i + 1) (acc ++ [d])
    | none => I (i + 1) acc) ∧ ∀ acc, I xs.length acc → k acc
def lcTurnT (mg : MG) (mt : MT) (mo : MOt) (XA : Ex → Prop) (env : Env) : T → (Option OT → Prop) → Prop := fun x r => mg x env fun env' => mt XA env' fun b => if b = true then mo XA env' fun d => r (some d) else r none
def mOtLc (mi : MA) (mg : MG) (mt : MT) (mo : MOt) (vs : List Nat) : MOt := fun XA env k => mi XA env fun xs => lcInvT (lcTurnT mg mt mo XA (wipeE env vs)) xs fun ts => k (.lst ts)
theorem lc_tree {g : TG} {mg : MG} {is vs : List Nat} (hi : RIc A E wi mi) (hg : RG g mg is) (his : (is.all fun i => vs.contains i) = true) {E' : L2.St → EK} (hx : ∀ s P σ H XA, XC A s P σ H E XA → ∀ σ' P' H', Ext s P H P' H' → XC A s P' σ' H' (E' σ) XA)
    {te' : L2.St → TE} {tt' : TT} (ht : ∀ σ, RT A (E' σ) tt' mt) (he : ∀ σ, ROt A (E' σ) (te' σ) mo) :
    ∀ s H0 P σ H env XA k Q, Rel s H0 P σ H env → XC A s P σ H E XA → mi XA env (fun xs => lcInvT (lcTurnT mg mt mo XA (wipeE env vs)) xs k) → (∀ P' H1 p acc ts S, Ext s P H P' H1 → H1 p = none → OtsOk s P' H1 ts S acc → S.Nodup → (∀ a, a ∈ S → P' a = none ∧ H a = none) → ts.length < 1000000 → k ts → Q (.ref p) (upd H1 p (.lst acc))) →
      tLc wi g tt' (te' σ) vs σ H Q := fun s H0 P σ H env XA k Q re x h q =>
  hi s H0 P σ H env XA _ _ re x h fun P1 H1 J xs e1 ij hl h1 D hD => by
    have mem : ∀ i, i ∈ is → i ∈ vs := fun i h => by
      have := List.all_eq_true.mp his i h
      exact List.elem_iff.mp this
    have re1 := re.ext e1
    obtain ⟨I, i0, iS, iE⟩ := h1
    refine ⟨fun i m H' => m = xs.length - i ∧ i ≤ xs.length ∧ ∃ P' G ts acc S, Ext s P1 H1 P' G ∧ G D = none ∧ H' = upd G D (.lst acc) ∧ OtsOk s P' G ts S acc ∧ S.Nodup ∧ (∀ a, a ∈ S → P' a = none ∧ H1 a = none) ∧ ts.length ≤ i ∧ I i ts, ⟨xs.length, rfl, Nat.zero_le _, P1, H1, [], [], [], Ext.refl e1.wf, hD, rfl, by simp only [OtsOk]; exact ⟨trivial, trivial⟩, List.nodup_nil, fun a ha => (nomatch ha), Nat.le_refl _, i0⟩, ?_⟩
    rintro i m H' ⟨rfl, hi, P', G, ts, acc, S, eG, gD, rfl, rp, nS, fS, hd, hgo⟩
    have eo : Ext s P' G P' (upd G D (.lst acc)) := ext_own eG.wf gD
    have eO := eG.trans eo
    obtain ⟨j1, j2⟩ := ij P' _ eO
    by_cases hlt : i < xs.length
    · have hx' : xs[i]? = some xs[i] := List.getElem?_eq_getElem hlt
      obtain ⟨go, y⟩ := j1 i _ hx'
      refine Or.inr ⟨go, fun H2 => ∃ P' G ts acc S, Ext s P1 H1 P' G ∧ G D = none ∧ H2 = upd G D (.lst acc) ∧ OtsOk s P' G ts S acc ∧ S.Nodup ∧ (∀ a, a ∈ S → P' a = none ∧ H1 a = none) ∧ ts.length ≤ i + 1 ∧ I (i + 1) ts, fun H2 z => ⟨xs.length - (i + 1), by omega, rfl, hlt, z⟩, fun xv H2 hy => ?_⟩
      obtain ⟨P2, e2, rx⟩ := y _ _ hy
      have hgo := iS i _ _ hx' hgo
      have re2 := ((re1.ext eO).ext e2).wipe vs
      refine hg s H0 P2 _ H2 _ _ _ _ _ re2 rx hgo fun σ3 env3 re3 w3 h3 => ⟨by rw [w3 vs mem]; exact wipe_wipe fun i hi => hi, ?_⟩
      have x2 : XC A s P2 σ3 H2 (E' σ) XA := hx s P σ H XA x _ _ _ (e1.trans (eO.trans e2))
      refine ht σ s H0 P2 σ3 H2 env3 XA _ _ re3 x2 h3 fun P4 H4 b e4 h4 => ?_
      have fin : ∀ {P5 H5}, Ext s P2 H2 P5 H5 → ∃ G5, Ext s P1 H1 P5 G5 ∧ G5 D = none ∧ H5 = upd G5 D (.lst acc) ∧ Same P' P5 ∧ OtsOk s P5 G5 ts S acc ∧ (∀ a, a ∈ S → P5 a = none ∧ H1 a = none) ∧ ∀ b o, b ≠ D → H5 b = some o → G5 b = some o := fun {P5 H5} e5 => by
        have e25 := e2.trans e5
        have hD5 : H5 D = some (.lst acc) := e25.keep D _ (fun z => by
          obtain ⟨_, t, _, h3⟩ := e1.wf.sto D z
          rw [hD] at h3
          cases h3) upd_same
        have nP : P5 D = none := by
          cases q5 : P5 D with
          | none => rfl
          | some o =>
            have := e25.new D (eG.wf.sub.free gD) (by rw [q5]; exact fun z => nomatch z)
            rw [upd_same] at this
            cases this
        have ee := eO.trans e25
        have isD : ∀ a, s = some a → a ≠ D := fun a ha z => by
          obtain ⟨_, t, _, h3⟩ := e1.wf.sto a ha
          rw [z, hD] at h3
          cases h3
        have inS := ots_in rp
        have SD : ∀ a, a ∈ S → a ≠ D := fun a ha z => by
          obtain ⟨o, ho⟩ := inS a ha
          rw [z, gD] at ho
          cases ho
        have kS : ∀ a o, a ∈ S → G a = some o → H5 a = some o := fun a o ha ho => e25.keep a o (ne_sto (b := a) e1.wf (fS a ha).2) (by rw [upd_ne (SD a ha)]; exact ho)
        refine ⟨L2.del H5 D, ⟨⟨fun b o g => ?_, fun a ha => ?_⟩, ee.sub, fun b o hb g => ?_, ee.new, fun a t t' hs h g => ee.lst a t t' hs h (by rw [L2.del_ne (isD a hs)] at g; exact g)⟩, L2.del_same, ?_, e25.sub, ots_keep e25.sub (fun a o ha ho => by rw [L2.del_ne (SD a ha)]; exact kS a o ha ho) rp, fun a ha => ?_, fun b o hb ho => by rw [L2.del_ne hb]; exact ho⟩
        · have z : b ≠ D := fun z => by rw [z, nP] at g; cases g
          rw [L2.del_ne z]
          exact e25.wf.sub _ _ g
        · obtain ⟨g1, t, g2, g3⟩ := e25.wf.sto a ha
          exact ⟨g1, t, g2, by rw [L2.del_ne (isD a ha)]; exact g3⟩
        · have z : b ≠ D := fun z => by rw [z, hD] at g; cases g
          rw [L2.del_ne z]
          exact ee.keep b o hb g
        · funext b
          by_cases z : b = D
          · rw [z, upd_same, hD5]
          · rw [upd_ne z, L2.del_ne z]
        · obtain ⟨o, ho⟩ := inS a ha
          exact ⟨ext_P e25 (fS a ha).1 (by rw [upd_ne (SD a ha), ho]; exact fun z => nomatch z), (fS a ha).2⟩
      cases b with
      | true =>
        refine he σ s H0 P4 σ3 H4 env3 XA _ _ (re3.ext e4) (x2.ext e4) h4 fun P5 H5 v d T e5 r5 n5 f5 h5 => ?_
        obtain ⟨G5, k1, k2, k3, k4, k5, k6, k7⟩ := fin (e4.trans e5)
        have hD4 : H4 D ≠ none := by
          have : H4 D = some (.lst acc) := (e2.trans e4).keep D _ (fun z => by
            obtain ⟨_, t, _, h3⟩ := e1.wf.sto D z
            rw [hD] at h3
            cases h3) upd_same
          rw [this]
          exact fun z => nomatch z
        have TD : ∀ a, a ∈ T → a ≠ D := fun a ha z => hD4 (by rw [← z]; exact (f5 a ha).2)
        have T1 : ∀ a, a ∈ T → H1 a = none := fun a ha => h0_free (eO.trans (e2.trans e4)) (f5 a ha).2
        have ST : ∀ a, a ∈ S → a ∉ T := fun a ha z => by
          obtain ⟨o, ho⟩ := ots_in rp a ha
          have : H4 a = some o := (e2.trans e4).keep a o (ne_sto (b := a) e1.wf (fS a ha).2) (by rw [upd_ne (fun z => by rw [z, gD] at ho; cases ho)]; exact ho)
          rw [(f5 a z).2] at this
          cases this
        refine ⟨acc, by rw [k3]; exact upd_same, ?_, P5, G5, ts ++ [d], acc ++ [v], S ++ T, k1, k2, by rw [k3, upd_upd], ots_snoc k5 (ot_keep (Same.refl _) (fun a o ha ho => k7 a o (TD a ha) ho) r5), List.nodup_append.mpr ⟨nS, n5, fun a ha b hb e => ST a ha (by rw [e]; exact hb)⟩, fun a ha => ?_, by rw [List.length_append]; show ts.length + 1 ≤ i + 1; omega, h5⟩
        · rw [ots_vlen rp, sizeLine_eq]
          omega
        · rcases List.mem_append.mp ha with ha | ha
          · exact k6 a ha
          · exact ⟨(f5 a ha).1, T1 a ha⟩
      | false =>
        obtain ⟨G5, k1, k2, k3, k4, k5, k6, k7⟩ := fin e4
        exact ⟨P4, G5, ts, acc, S, k1, k2, k3, k5, nS, k6, by omega, h4⟩
    · have e : i = xs.length := by omega
      subst e
      exact Or.inl ⟨j2 _ (Nat.le_refl _), q P' G D acc ts S (e1.trans eG) gD rp nS (fun a ha => ⟨(fS a ha).1, h0_free e1 (fS a ha).2⟩) (by omega) (iE _ hgo)⟩
theorem rot_of_lc {s : Option Addr} {P H P' H1 : Hp} {p : Addr} {acc : List V} {ts : List OT} {S : List Addr} (e : Ext s P H P' H1) (hp : H1 p = none) (o : OtsOk s P' H1 ts S acc) (n : S.Nodup) (f : ∀ a, a ∈ S → P' a = none ∧ H a = none) (hl : ts.length < 1000000) :
    Ext s P H P' (upd H1 p (.lst acc)) ∧ OtOk s P' (upd H1 p (.lst acc)) (.lst ts) (p :: S) (.ref p) ∧ (p :: S).Nodup ∧ ∀ a, a ∈ p :: S → P' a = none ∧ H a = none := by
  have nS : p ∉ S := fun z => by
    obtain ⟨o, ho⟩ := ots_in o p z
    rw [hp] at ho
    cases ho
  refine ⟨e.trans (ext_own e.wf hp), ?_, List.nodup_cons.mpr ⟨nS, n⟩, fun a ha => ?_⟩
  · simp only [OtOk]
    exact ⟨p, acc, S, rfl, rfl, upd_same, ots_keep (Same.refl _) (fun a o ha ho => by rw [upd_ne (fun z : a = p => nS (by rw [← z]; exact ha))]; exact ho) o, hl⟩
  · rcases List.mem_cons.mp ha with rfl | ha
    · exact ⟨e.wf.sub.free hp, h0_free e hp⟩
    · exact f a ha
theorem rot_lc {g : TG} {mg : MG} {is vs : List Nat} (hi : RIc A E wi mi) (hg : RG g mg is) (ht : RT A ET t mt) (he : ROt A ET te mo) (his : (is.all fun i => vs.contains i) = true := by rfl) : ROt A E (tLc wi g t te vs) (mOtLc mi mg mt mo vs) := fun s H0 P σ H env XA k Q re x h q =>
  lc_tree hi hg his (E' := fun _ => ET) (fun _ _ _ _ _ _ _ _ _ _ => xc_true) (te' := fun _ => te) (fun _ => ht) (fun _ => he) s H0 P σ H env XA _ Q re x h fun P' H1 p acc ts S e1 hp o n f hl h1 => by
    obtain ⟨a1, a2, a3, a4⟩ := rot_of_lc e1 hp o n f hl
    exact q P' _ (.ref p) (.lst ts) _ a1 a2 a3 a4 h1
theorem rot_lcX {W : WX} {g : TG} {mg : MG} {is vs : List Nat} {teX : XK → TE} (hi : RIc A (WE W) wi mi) (hg : RG g mg is) (ht : ∀ V, RT A (fun _ => V) t mt) (he : ∀ V, ROt A (fun _ => V) (teX V) mo) (his : (is.all fun i => vs.contains i) = true := by rfl) :
    ROt A (WE W) (tLcX W wi g t teX vs) (mOtLc mi mg mt mo vs) := fun s H0 P σ H env XA k Q re x h q =>
  lc_tree hi hg his (E' := fun σ _ => WE W σ) (fun s P σ H XA x σ' P' H' e P2 H2 z C d e2 h3 h4 => x P2 H2 z C d (e.trans e2) h3 h4) (te' := fun σ => teX (WE W σ)) (fun _ => ht _) (fun _ => he _) s H0 P σ H env XA _ Q re x h fun P' H1 p acc ts S e1 hp o n f hl h1 => by
    obtain ⟨a1, a2, a3, a4⟩ := rot_of_lc e1 hp o n f hl
    exact q P' _ (.ref p) (.lst ts) _ a1 a2 a3 a4 h1
/-! a def's run, its answer a tree -/
theorem runF0 {s : Option Addr} {P H : Hp} {ds : List T} {k : OT → Prop} {XA : Ex → Prop} {N : List Str} {vs : List V} {Q : VK} {ts : TS} {ms : MS} (h1 : WF s P H) (h2 : Rps s P ds vs) (h5 : ∀ P' H' v t S, Ext s P H P' H' → OtOk s P' H' t S v → S.Nodup → (∀ a, a ∈ S → P' a = none ∧ H a = none) → k t → Q v H') (r : RS A ET ts ms)
    (u : ms (startE N.length ds) { nx := fun _ => k (.d .non), rt := fun d => k (.d d), xr := fun _ => XA, ro := k }) :
    ts { nx := fun _ H' => Q .non H', rt := Q } (L2.start N vs) H :=
  r s P H P _ H _ _ { nx := fun _ => k (.d .non), rt := fun d => k (.d d), xr := fun _ => XA, ro := k } (Ext.refl h1) (rel_start h1 h2) ⟨fun P' σ H' env e _ _ h => h5 P' H' _ (.d .non) [] e (by simp only [OtOk, Rp]; exact ⟨trivial, trivial⟩) List.nodup_nil (fun a ha => (nomatch ha)) h, fun P' H' v t e _ rp h => h5 P' H' v (.d t) [] e (by simp only [OtOk]; exact ⟨trivial, rp⟩) List.nodup_nil (fun a ha => (nomatch ha)) h, fun _ _ _ _ _ _ _ h => h.elim, fun _ _ _ _ _ _ _ h => h.elim, fun _ _ _ _ _ _ _ => xc_true, fun P' H' v t S e _ o n f h => h5 P' H' v t S e o n f h⟩ u
theorem runFX {s : Option Addr} {P H : Hp} {ds : List T} {k : OT → Prop} {XA : Ex → Prop} {N : List Str} {vs : List V} {Q : VK} {E' : XK} {W : WX} {ts : TS} {ms : MS} (h1 : WF s P H) (h2 : Rps s P ds vs) (h5 : ∀ P' H' v t S, Ext s P H P' H' → OtOk s P' H' t S v → S.Nodup → (∀ a, a ∈ S → P' a = none ∧ H a = none) → k t → Q v H') (h6 : ∀ P' H' x C d, Ext s P H P' H' → XA x → ExAt A s P' H' x C d → E' C d H') (hW : ∀ cls d σ H, E' cls d H → W cls d σ H) (r : RS A (WE W) ts ms)
    (u : ms (startE N.length ds) { nx := fun _ => k (.d .non), rt := fun d => k (.d d), xr := fun _ => XA, ro := k }) :
    ts { nx := fun _ H' => Q .non H', rt := Q } (L2.start N vs) H :=
  r s P H P _ H _ _ { nx := fun _ => k (.d .non), rt := fun d => k (.d d), xr := fun _ => XA, ro := k } (Ext.refl h1) (rel_start h1 h2) ⟨fun P' σ H' env e _ _ h => h5 P' H' _ (.d .non) [] e (by simp only [OtOk, Rp]; exact ⟨trivial, trivial⟩) List.nodup_nil (fun a ha => (nomatch ha)) h, fun P' H' v t e _ rp h => h5 P' H' v (.d t) [] e (by simp only [OtOk]; exact ⟨trivial, rp⟩) List.nodup_nil (fun a ha => (nomatch ha)) h, fun _ _ _ _ _ _ _ h => h.elim, fun _ _ _ _ _ _ _ h => h.elim, fun P' σ H' env e _ _ P2 H2 x C d e2 hx hat => hW _ _ _ _ (h6 P2 H2 x C d (e.trans e2) hx hat), fun P' H' v t S e _ o n f h => h5 P' H' v t S e o n f h⟩ u
end
/-! such a def where data will do -/
section
variable {P : Program} {w : World} {K : PySem.W.Frag} {mg : Str → Option Value} {base : Heap} {A : Ad} {n k : Nat} {c : CtF} {f : Addr} {fd : FuncData} {ps : List Str} {x : Str}
theorem CalX.data (C : CalX P w K mg base x k ps (SpF A n c)) : CalX P w K mg base x k ps (SpU A n (cData c)) := by
  obtain ⟨f, fd, F, gm, kp, b⟩ := C.ex
  exact ⟨f, fd, F.imp fun _ _ _ _ h => spf_data h, gm, kp, b⟩
theorem Cal.data (C : Cal P w K mg base x k ps (SpF A n c)) : Cal P w K mg base x k ps (SpU A n (cData c)) := by
  obtain ⟨f, fd, F, gm, kp, b⟩ := C.ex
  exact ⟨f, fd, F.imp fun _ _ _ _ h => spf_data h, gm, kp, b⟩
end
/-! either of two readings: the receiver may be of this class or of that -/
section
variable {X : Cx} {e : Expr} {t1 t2 : TE} {A : Ad} {E : EK} {m1 m2 : ME}
theorem pe_alt (h1 : PE X e t1) (h2 : PE X e t2) : PE X e (fun σ H Q => t1 σ H Q ∨ t2 σ H Q) := ⟨fun pins s σ H Q I h => h.elim (h1.run pins s σ H Q I) (h2.run pins s σ H Q I)⟩
def mAltE (m1 m2 : ME) : ME := fun XA env k => m1 XA env k ∨ m2 XA env k
theorem re_alt (h1 : RE A E t1 m1) (h2 : RE A E t2 m2) : RE A E (fun σ H Q => t1 σ H Q ∨ t2 σ H Q) (mAltE m1 m2) := fun s H0 P σ H env XA k Q re x h q => h.elim (fun h => Or.inl (h1 s H0 P σ H env XA k Q re x h q)) (fun h => Or.inr (h2 s H0 P σ H env XA k Q re x h q))
end
/-! rewriting -/
theorem exTr_w {x : OT} {R : OT → Prop} : (∃ t, some (some (Sl.tr x)) = some (some (Sl.tr t)) ∧ R t) = R x := propext ⟨fun ⟨c, e, h⟩ => by cases e; exact h, fun h => ⟨x, rfl, h⟩⟩
theorem exTr2_w {x : OT} {R : OT → Prop} : (∃ t, Sl.tr x = Sl.tr t ∧ R t) = R x := propext ⟨fun ⟨c, e, h⟩ => by cases e; exact h, fun h => ⟨x, rfl, h⟩⟩
theorem treeV_w {x : Sl} {R : OT → Prop} : (∃ y t, some (some x) = some (some y) ∧ treeOf y = some t ∧ R t) = ∃ t, treeOf x = some t ∧ R t := propext ⟨fun ⟨c, t, e, h⟩ => by cases e; exact ⟨t, h⟩, fun ⟨t, h⟩ => ⟨x, t, rfl, h⟩⟩
theorem treeV2_w {x : Sl} {R : OT → Prop} : (∃ y t, x = y ∧ treeOf y = some t ∧ R t) = ∃ t, treeOf x = some t ∧ R t := propext ⟨fun ⟨c, t, e, h⟩ => by cases e; exact ⟨t, h⟩, fun ⟨t, h⟩ => ⟨x, t, rfl, h⟩⟩
theorem treeO_w {ds : List T} : treeOf (.own ds) = some (.lst (ds.map .d)) := rfl
theorem treeT_w {t : OT} : treeOf (.tr t) = some t := rfl
theorem exLT_w {x : List OT} {R : List OT → Prop} : (∃ d, OT.lst x = OT.lst d ∧ R d) = R x := propext ⟨fun ⟨c, e, h⟩ => by cases e; exact h, fun h => ⟨x, rfl, h⟩⟩
theorem ots_mapd : ∀ ds : List T, OT.ts (ds.map .d) = ds
  | [] => by rw [List.map_nil, OT.ts]
  | d :: ds => by rw [List.map_cons, OT.ts, OT.t, ots_mapd ds]
theorem t_lst {ts : List OT} : (OT.lst ts).t = .lst (OT.ts ts) := by rw [OT.t]
theorem t_tup {ts : List OT} : (OT.tup ts).t = .tup (OT.ts ts) := by rw [OT.t]
theorem t_d {d : T} : (OT.d d).t = d := by rw [OT.t]
theorem ts_nil : OT.ts [] = [] := by rw [OT.ts]
theorem ts_cons {t : OT} {r : List OT} : OT.ts (t :: r) = t.t :: OT.ts r := by rw [OT.ts]
end Mt
/-! ### own lists: insert, pop; a walk over a list or a tuple; lengths of texts; tuples -/
namespace Mt
open PySem PySem.Spec PyProof.Rows L2 L2H
def rInsH : V → List V → Hp → VK → Prop := fun x vs H Q => ∃ (l : Addr) (xs : List V) (i : Int) (y : V), x = .ref l ∧ vs = [.int i, y] ∧ H l = some (.lst xs) ∧ xs.length < sizeLine ∧ 0 ≤ i ∧ i < 2 ^ 63 ∧ Q .non (upd H l (.lst (xs.take i.toNat ++ [y] ++ xs.drop i.toNat)))
theorem mt_insH {X : Cx} : MtR X "list.insert" rInsH := mt_insert
section
variable {A : Ad} {E : EK} {te ta tb tc tj : TE} {me ma mb mc mj : ME} {t u : TT} {mt mu : MT} {aa ar : TA} {am : MA} {K : PySem.W.Frag} {w1 w2 wi : TI} {i1 i2 mi : MA} {mo mp : MOt}
def mIns (i : Nat) (ma mb : ME) : MS := fun env M => ∃ ds, env[i]? = some (some (.own ds)) ∧ ma (M.xr env) env fun d => mb (M.xr env) env fun t => ∃ n : Nat, d = .int n ∧ n < 1000000 ∧ ds.length + 1 < 1000000 ∧ M.nx (env.set i (some (.own (ds.take n ++ [t] ++ ds.drop n))))
theorem rs_ins {i : Nat} (ha : RE A E ta ma) (hb : RE A E tb mb) : RS A E (tDrop (tBM K "list" rInsH (tVar i) (tCons ta (tCons tb tNil)))) (mIns i ma mb) := fun s P0 H0 P σ H env D M e re l ⟨ds, h1, h2⟩ => by
  obtain ⟨a, vs, g1, g2, g3, g4, g5, g6, g7⟩ := re.own h1
  refine ⟨.ref a, g1, by rw [w_tyL g5]; trivial, ha s H0 P σ H env _ _ _ re (l.xr P σ H env e (Same.refl _) re) h2 fun P1 H1 v d e1 r1 h3 => ?_⟩
  have re1 := re.ext e1
  refine hb s H0 P1 σ H1 env _ _ _ re1 (l.xr P1 σ H1 env (e.trans e1) e1.sub re1) h3 fun P2 H2 w t e2 r2 ⟨n, ed, n1, hl, h4⟩ => ?_
  subst ed
  have re2 := re1.ext e2
  obtain ⟨a', vs', q1, q2, q3, q4, q5, q6, q7⟩ := re2.own h1
  rw [g1] at q1
  cases q1
  refine ⟨a, vs', n, w, rfl, by rw [rp_int r1], q5, by rw [rps_len q6, sizeLine_eq]; omega, by omega, by omega, ?_⟩
  rw [Int.toNat_natCast]
  exact l.nx P2 σ _ _ (ext_change (e.trans (e1.trans e2)) q2 q3 q4) (e1.sub.trans e2.sub) (re2.change h1 g1 (rps_app (rps_app (rps_take n q6) (rps_cons r2 rps_nil)) (rps_drop n q6)) (by rw [List.length_append, List.length_append, List.length_take, List.length_drop]; show _ + 1 + _ < _; omega)) h4
theorem rps_erase {s : Option Addr} {P : Hp} : ∀ {ds : List T} {vs : List V} (j : Nat), Rps s P ds vs → Rps s P (ds.eraseIdx j) (vs.eraseIdx j)
  | [], vs, j, h => by
    simp only [Rps] at h
    subst h
    exact rps_nil
  | d :: ds, vs, 0, h => by
    simp only [Rps] at h
    obtain ⟨v, r, rfl, h1, h2⟩ := h
    exact h2
  | d :: ds, vs, j + 1, h => by
    simp only [Rps] at h
    obtain ⟨v, r, rfl, h1, h2⟩ := h
    exact rps_cons h1 (rps_erase j h2)
def mPopS (i : Nat) (ma : ME) : MS := fun env M => ∃ ds, env[i]? = some (some (.own ds)) ∧ ma (M.xr env) env fun d => ∃ n : Nat, d = .int n ∧ n < ds.length ∧ M.nx (env.set i (some (.own (ds.eraseIdx n))))
theorem rs_popS {i : Nat} (ha : RE A E ta ma) : RS A E (tDrop (tBM K "list" rPopAt (tVar i) (tCons ta tNil))) (mPopS i ma) := fun s P0 H0 P σ H env D M e re l ⟨ds, h1, h2⟩ => by
  obtain ⟨a, vs, g1, g2, g3, g4, g5, g6, g7⟩ := re.own h1
  refine ⟨.ref a, g1, by rw [w_tyL g5]; trivial, ha s H0 P σ H env _ _ _ re (l.xr P σ H env e (Same.refl _) re) h2 fun P1 H1 v d e1 r1 ⟨n, ed, n1, h4⟩ => ?_⟩
  subst ed
  have re1 := re.ext e1
  obtain ⟨a', vs', q1, q2, q3, q4, q5, q6, q7⟩ := re1.own h1
  rw [g1] at q1
  cases q1
  have hl : n < vs'.length := by rw [rps_len q6]; exact n1
  refine ⟨a, vs', n, n, vs'[n], rfl, by rw [rp_int r1], q5, by omega, by omega, ?_, List.getElem?_eq_getElem hl, ?_⟩
  · unfold seqIndex?
    simp only [show ¬ ((n : Int) < 0) by omega, if_false]
    simp only [show (0 : Int) ≤ n by omega, show ((n : Nat) : Int) < (vs'.length : Int) by omega, and_self, if_true, Int.toNat_natCast]
    rfl
  · exact l.nx P1 σ _ _ (ext_change (e.trans e1) q2 q3 q4) e1.sub (re1.change h1 g1 (rps_erase n q6) (by have := List.length_eraseIdx_le ds n; omega)) h4
/-! a walk over what may be a list or a tuple -/
def mAltI (m1 m2 : MA) : MA := fun XA env k => m1 XA env k ∨ m2 XA env k
theorem ric_alt (h1 : RIc A E w1 i1) (h2 : RIc A E w2 i2) : RIc A E (fun σ H R => w1 σ H R ∨ w2 σ H R) (mAltI i1 i2) := fun s H0 P σ H env XA k R re x h q => h.elim (fun h => Or.inl (h1 s H0 P σ H env XA k R re x h q)) (fun h => Or.inr (h2 s H0 P σ H env XA k R re x h q))
theorem ri_alt (h1 : RI A E w1 i1) (h2 : RI A E w2 i2) : RI A E (fun σ H R => w1 σ H R ∨ w2 σ H R) (mAltI i1 i2) := fun s H0 P σ H env XA k R re x h q => h.elim (fun h => Or.inl (h1 s H0 P σ H env XA k R re x h q)) (fun h => Or.inr (h2 s H0 P σ H env XA k R re x h q))
end
theorem pi_alt {X : Cx} {tg e : Expr} {w1 w2 : TI} (h1 : PI X tg e w1) (h2 : PI X tg e w2) : PI X tg e (fun σ H R => w1 σ H R ∨ w2 σ H R) := ⟨fun pins s σ H R I h => h.elim (h1.run pins s σ H R I) (h2.run pins s σ H R I)⟩
theorem cat_len (a b : Str) : (a ++ b).length = a.length + b.length := by
  show (a.cps ++ b.cps).size = _
  rw [Array.size_append]
  rfl
theorem join_len : ∀ ys : List Str, (Str.join ⟨#[]⟩ ys).length = (ys.map (·.length)).sum
  | [] => rfl
  | [x] => by
    show x.length = _
    simp
  | x :: y :: r => by
    show (x ++ (⟨#[]⟩ : Str) ++ Str.join ⟨#[]⟩ (y :: r)).length = _
    rw [cat_len, cat_len, join_len (y :: r), List.map_cons, List.sum_cons]
    rfl
/-! tuple + tuple, tuple[a:b] -/
def oCatT : T → T → (T → Prop) → Prop := fun d e k => ∃ ds es, d = .tup ds ∧ e = .tup es ∧ ds.length + es.length < 1000000 ∧ k (.tup (ds ++ es))
theorem ro_catT {K : PySem.W.Frag} : ROp (rCatA K) oCatT := fun s P H x y d e k Q w h1 h2 ⟨ds, es, g1, g2, g3, h⟩ q => by
  subst g1 g2
  have r1 := h1
  have r2 := h2
  simp only [Rp] at h1 h2
  obtain ⟨a, vs, rfl, a1, a2, a3⟩ := h1
  obtain ⟨b, ws, rfl, b1, b2, b3⟩ := h2
  refine ⟨a, b, vs, ws, rfl, rfl, sqt_of (w.sub _ _ a1), sqt_of (w.sub _ _ b1), size_line (by rw [rps_len a2, rps_len b2]; exact g3), fun e0 => ?_, fun _ e0 => ?_, fun _ _ p hp => ?_⟩
  · subst e0
    have : ds = [] := List.eq_nil_of_length_eq_zero (by rw [← rps_len a2]; rfl)
    subst this
    exact q P H _ _ (Ext.refl w) r2 h
  · subst e0
    have : es = [] := List.eq_nil_of_length_eq_zero (by rw [← rps_len b2]; rfl)
    subst this
    rw [List.append_nil] at h
    exact q P H _ _ (Ext.refl w) r1 h
  · have e2 := ext_new (o := .tup (vs ++ ws)) w hp
    refine q _ _ _ (.tup (ds ++ es)) e2 ?_ h
    simp only [Rp]
    exact ⟨p, _, rfl, upd_same, rps_same e2.sub _ _ (rps_app a2 b2), by rw [List.length_append]; exact g3⟩
theorem oCatT_w {a b : List T} {k : T → Prop} : oCatT (.tup a) (.tup b) k = (a.length + b.length < 1000000 ∧ k (.tup (a ++ b))) := propext ⟨fun ⟨i, j, e1, e2, c, h⟩ => by cases e1; cases e2; exact ⟨c, h⟩, fun ⟨c, h⟩ => ⟨a, b, rfl, rfl, c, h⟩⟩
theorem cutT_all {ds : List T} {lo hi : Option Int} (h1 : HT.sIx ds.length 0 lo = 0) (h2 : HT.sIx ds.length ds.length hi = ds.length) : cutT ds lo hi = ds := by
  unfold cutT
  rw [h1, h2, List.drop_zero, Nat.sub_zero, List.take_length]
def mSlT (me : ME) (ml mh : MO) : ME := fun XA env k => me XA env fun d => ml XA env fun lo => mh XA env fun hi => ∃ ds, d = .tup ds ∧ k (.tup (cutT ds lo hi))
theorem re_slT {A : Ad} {E : EK} {te : TE} {me : ME} {K : PySem.W.Frag} {tl th : TO} {ml mh : MO} (ha : RE A E te me) (hl : RO A E tl ml) (hh : RO A E th mh) : RE A E (tSl (rSlA K) te tl th) (mSlT me ml mh) := fun s H0 P σ H env XA k Q re x h q =>
  ha s H0 P σ H env XA _ _ re x h fun P1 H1 v d e1 r1 h1 => hl s H0 P1 σ H1 env XA _ _ (re.ext e1) (x.ext e1) h1 fun P2 H2 lo e2 h2 => hh s H0 P2 σ H2 env XA _ _ ((re.ext e1).ext e2) ((x.ext e1).ext e2) h2 fun P3 H3 hi e3 ⟨ds, h3, h4⟩ => by
    subst h3
    have r3 := rp_same (e2.sub.trans e3.sub) _ _ r1
    have r0 := r3
    simp only [Rp] at r3
    obtain ⟨a, vs, rfl, g1, g2, g3⟩ := r3
    have e13 := e1.trans (e2.trans e3)
    refine ⟨a, vs, rfl, sqt_of (e3.wf.sub _ _ g1), fun ⟨c1, c2⟩ => ?_, fun _ p hp => ?_⟩
    · rw [rps_len g2] at c1 c2
      rw [cutT_all c1 c2] at h4
      exact q _ _ _ _ e13 r0 h4
    · have e4 := ext_new (o := .tup (cutV vs lo hi)) e3.wf hp
      refine q _ _ _ _ (e13.trans e4) ?_ h4
      simp only [Rp]
      exact ⟨p, _, rfl, upd_same, rps_same e4.sub _ _ (rps_cut g2), Nat.lt_of_le_of_lt cutT_len g3⟩
end Mt
/-! tuple * int, from 1 on -/
namespace L2
open PySem PySem.Spec PyProof.Rows
theorem tuple_mulW1 (l : Addr) (items : Array Value) (n : Nat) (dd : Option Addr) (sl : Array (Option Value)) (u : Tok) (hne : items.isEmpty = false) :
    Meets (Builtin.«tuple.__mul__» ⟨[.ref l, .int 1 u], []⟩) (fun _ R s => s.heap.get? l = some { cls := .type "tuple", dict := dd, data := .seq items n, slots := sl } ∧ R (.ok (.ret (Value.ref l))) s) :=
  .of_wp fun prog w A R s h => by
    obtain ⟨hp, g, d, tk, os⟩ := s
    obtain ⟨hl, h⟩ := h
    have f1 := AutoSeq1.idx_int
    have c1 : (items.isEmpty || (1 : Int) == 1) = true := by rw [hne]; rfl
    wp_walk using wpAny_loadPart' hl
    repeat (first
      | (refine wpAny_ite_false (decide_eq_false (by decide)) ?_; wp_walk using wpAny_loadPart' hl)
      | (refine wpAny_ite_true (decide_eq_true c1) ?_; wp_walk using wpAny_loadPart' hl))
    exact ⟨_, rfl, h⟩
section
variable {X : Cx}
def rRepTA (K : PySem.W.Frag) : R2 := fun x y H Q => ∃ l k xs, x = .ref l ∧ y = .int k ∧ SqT K H l xs ∧ xs ≠ [] ∧ 1 ≤ k ∧ k ≤ 1000 ∧ xs.length ≤ 1000 ∧ (k = 1 → Q (.ref l) H) ∧ (k ≠ 1 → ∀ p, H p = none → Q (.ref p) (upd H p (.tup (List.replicate k.toNat xs).flatten)))
theorem op_repTA : OpR X (binaryOp .Mult) (rRepTA X.K) := by
  intro pins s σ H x y v u Q I rx ry h
  obtain ⟨l, k, xs, rfl, rfl, hT, hne, h1, h2, hz, q1, q2⟩ := h
  by_cases hk : k = 1
  · subst hk
    cases rx
    obtain ⟨t, rfl⟩ := ry
    obtain ⟨its, r, ⟨⟨cls, dd, data, sl⟩, ho, hc, n, hd⟩, hs⟩ := I.tuple hT
    simp only at hc hd
    subst hc hd
    have hle : its.length = xs.length := r.length.symm
    have hn : its ≠ [] := fun e => hne (by
      rw [e] at hle
      exact List.eq_nil_of_length_eq_zero hle.symm)
    have hi : its.toArray.isEmpty = false := by
      cases its with
      | nil => exact absurd rfl hn
      | cons a b => rfl
    refine wpAny_binaryOp_repeat_ref (T := "tuple") (U := "int") (by decide) ⟨_, ho, rfl⟩ (fun s' => typeIs_int s' 1 t) noFill_tuple_mul F.fills_int_mul F.slot_int_rmul repeat_tuple F.slot_int_index.lookup
      (call_meets F.slot_int_rmul (typeIs_int s 1 t) F.entry_int_rmul (F.args_int_rmul_2 _ _) (int_rmul_tuple 1 t l its.toArray n dd sl)
        ⟨ho, rfl, ⟨_, ho, rfl⟩, call_meets F.slot_tuple_mul ⟨_, ho, rfl⟩ F.entry_tuple_mul (F.args_tuple_mul_2 _ _) (tuple_mulW1 l its.toArray n dd sl t hi) ⟨ho, ?_⟩⟩)
    exact ⟨.ref l, H, I, rfl, q1 rfl⟩
  · exact op_repT pins s σ H _ _ v u Q I rx ry ⟨l, k, xs, rfl, rfl, hT, hne, by omega, h2, hz, q2 hk⟩
end
end L2
namespace Mt
open PySem PySem.Spec PyProof.Rows L2 L2H
def oRepT : T → T → (T → Prop) → Prop := fun d e k => ∃ ds i, d = .tup ds ∧ e = .int i ∧ ds ≠ [] ∧ 1 ≤ i ∧ i ≤ 900 ∧ ds.length ≤ 1000 ∧ k (.tup (List.replicate i.toNat ds).flatten)
theorem rps_rep {s : Option Addr} {P : Hp} {vs : List V} {ds : List T} (h : Rps s P ds vs) : ∀ n : Nat, Rps s P (List.replicate n ds).flatten (List.replicate n vs).flatten
  | 0 => by simp [Rps]
  | n + 1 => by
    rw [List.replicate_succ, List.replicate_succ, List.flatten_cons, List.flatten_cons]
    exact rps_app h (rps_rep h n)
theorem ro_repT {K : PySem.W.Frag} : ROp (rRepTA K) oRepT := fun s P H x y d e k Q w h1 h2 ⟨ds, i, g1, g2, g3, g4, g5, g6, h⟩ q => by
  subst g1 g2
  have r1 := h1
  simp only [Rp] at h1 h2
  obtain ⟨a, vs, rfl, a1, a2, a3⟩ := h1
  subst h2
  refine ⟨a, i, vs, rfl, rfl, sqt_of (w.sub _ _ a1), fun e0 => g3 ?_, g4, by omega, by rw [rps_len a2]; exact g6, fun e1 => ?_, fun e1 p hp => ?_⟩
  · subst e0
    exact List.eq_nil_of_length_eq_zero (by rw [← rps_len a2]; rfl)
  · subst e1
    have er : (List.replicate (1 : Int).toNat ds).flatten = ds := by
      show (List.replicate 1 ds).flatten = ds
      simp
    rw [er] at h
    exact q P H _ _ (Ext.refl w) r1 h
  · have e2 := ext_new (o := .tup (List.replicate i.toNat vs).flatten) w hp
    refine q _ _ _ (.tup (List.replicate i.toNat ds).flatten) e2 ?_ h
    simp only [Rp]
    refine ⟨p, _, rfl, upd_same, rps_same e2.sub _ _ (rps_rep a2 _), ?_⟩
    rw [PyProof.Rows.lm_len_rep_flat]
    have a4 : i.toNat * ds.length ≤ 900 * 1000 := Nat.mul_le_mul (by omega) g6
    omega
theorem oRepT_w {a : List T} {i : Int} {k : T → Prop} : oRepT (.tup a) (.int i) k = (a ≠ [] ∧ 1 ≤ i ∧ i ≤ 900 ∧ a.length ≤ 1000 ∧ k (.tup (List.replicate i.toNat a).flatten)) := propext ⟨fun ⟨_, _, e1, e2, h⟩ => by cases e1; cases e2; exact h, fun h => ⟨a, i, rfl, rfl, h⟩⟩
end Mt
/-! enumerate(tuple) -/
namespace PySem
open Sem (wp)
open AutoSeq1 (wpAny_loadPart')
theorem meets_enumerate_newT (l : Addr) (items : Array Value) (n : Nat) (dct : Option Addr) (sl : Array (Option Value)) :
    Meets (Builtin.«enumerate.__new__» ⟨[.type "enumerate", .ref l], []⟩) (fun _ R s => s.heap.get? l = some { cls := .type "tuple", dict := dct, data := .seq items n, slots := sl } ∧
      R (.ok (.ret (.ref (s.heap.push { cls := .type "tuple_iterator", data := .fields #[.ref l, .int 0 0] }).objs.size)))
        { s with heap := (s.heap.push { cls := .type "tuple_iterator", data := .fields #[.ref l, .int 0 0] }).push { cls := .type "enumerate", data := .fields #[.none, .bool false, .ref s.heap.objs.size, rawInt 0, .none, .none] } }) :=
  .of_wp fun prog w A R s h => by
    obtain ⟨hp, g, d, tk, os⟩ := s; obtain ⟨hl, h⟩ := h
    have hsub := sub_enumerate
    have hL : Heap.IsTuple (Shared.heap ⟨hp, g, d, tk, os⟩) l items := ⟨_, hl, rfl, n, rfl⟩
    wp_walk using wpAny_loadPart' hl
    refine wpAny_stack_any fun st => wpAny_pure ?_
    split
    · rename_i c _ _ _ _ _
      cases (c == Value.type "enumerate")
      · wp_walk using wpAny_loadPart' hl, wpAny_pyIter_tuple hL
        exact ⟨_, rfl, h⟩
      · wp_walk using wpAny_loadPart' hl, wpAny_pyIter_tuple hL
        exact ⟨_, rfl, h⟩
    · wp_walk using wpAny_loadPart' hl, wpAny_pyIter_tuple hL
      exact ⟨_, rfl, h⟩
section
variable {prog : Program} {w : World} {A : Around} {E : Value → Shared → Prop} {s : Shared}
theorem call_enumerate_tuple {l : Addr} {items : Array Value} {Q : Value → Shared → Prop} (hL : s.heap.IsTuple l items)
    (h : ∀ h', IsEnum h' (s.heap.objs.size + 1) s.heap.objs.size 0 .none → h'.IsTupleIter s.heap.objs.size l 0 → h'.objs.size = s.heap.objs.size + 2 →
      (∀ b o, s.heap.get? b = some o → h'.get? b = some o) → Q (.ref (s.heap.objs.size + 1)) { s with heap := h' }) :
    wpAny (model prog w) A (call (.type "enumerate") [.ref l]) Q E s := by
  obtain ⟨⟨c, dct, dt, sl⟩, hl, hc, n, hd⟩ := hL
  replace hc : c = .type "tuple" := hc
  replace hd : dt = .seq items n := hd
  subst hc hd
  refine callType_new F.called_enumerate (by decide) (F.typeCall_enumerate_1 _) (F.newCall_enumerate_1 _) (fun obj => F.args_object_init_2 obj _) F.entry_enumerate_new
    (meets_enumerate_newT l items n dct sl) ⟨hl, ?_⟩
  have hz : (s.heap.push { cls := .type "tuple_iterator", data := .fields #[.ref l, .int 0 0] }).objs.size = s.heap.objs.size + 1 := Heap.size_push ..
  show _ ∧ _
  rw [hz]
  have he : IsEnum ((s.heap.push { cls := .type "tuple_iterator", data := .fields #[.ref l, .int 0 0] }).push
      { cls := .type "enumerate", data := .fields #[.none, .bool false, .ref s.heap.objs.size, rawInt 0, .none, .none] }) (s.heap.objs.size + 1) s.heap.objs.size 0 .none := by
    have := Heap.get?_push_size (s.heap.push { cls := .type "tuple_iterator", data := .fields #[.ref l, .int 0 0] })
      (o := { cls := .type "enumerate", data := .fields #[.none, .bool false, .ref s.heap.objs.size, rawInt 0, .none, .none] }) rfl
    rw [hz] at this; exact this
  refine ⟨⟨_, he, rfl⟩, h _ he ⟨_, Heap.get?_push_of_some _ (Heap.get?_push_size _ rfl), rfl, rfl⟩ (by rw [Heap.size_push, hz]) fun b o x => Heap.get?_push_of_some _ (Heap.get?_push_of_some _ x)⟩
end
theorem Draws.tuple {prog : Program} {w : World} {A : Around} (hh : A.handled = none) (it l : Addr) (hne : l ≠ it) (items : Array Value) :
    Draws prog w A it [it, l] items.size (fun i v => items[i]? = some v) (fun i h => h.IsTupleIter it l i ∧ h.IsTuple l items) where
  live := fun _ _ st => let ⟨o, ho, _⟩ := st.1; ⟨o, ho⟩
  frame := fun _ _ _ st hk => ⟨st.1.at fun o e => hk it (by simp) o e, let ⟨o, ho, r⟩ := st.2; ⟨o, hk l (by simp) o ho, r⟩⟩
  item := fun i s Q E hi st hQ => by
    refine RZ.nextOf_tuple_item st.1 st.2 (x := items[i]) (by simp [hi]) fun h' hit' hs' => ?_
    exact hQ _ h' s.toks (by simp [hi]) ⟨hit', let ⟨o, ho, r⟩ := st.2; ⟨o, hs'.extBut _ _ hne ho, r⟩⟩ hs'
  done := fun s Q E st hE => RZ.nextOf_tuple_end hh st.1 st.2 (by simp) hE
end PySem
namespace L2
open PySem PySem.Spec PyProof.Rows
/-- the tuple at a, each item in a new pair -/
def IteT (K : PySem.W.Frag) (a : Addr) : It :=
  ⟨fun i H => ∃ (xs : List V) (x : V), SqT K H a xs ∧ xs[i]? = some x, fun i H v H' => ∃ T x, v = .ref T ∧ H T = none ∧ H' = upd H T (.tup [.int (i : Nat), x]) ∧ ∀ xs, SqT K H a xs → xs[i]? = some x, fun i H => ∃ xs : List V, SqT K H a xs ∧ xs.length ≤ i⟩
theorem turn_enumT {P : Program} {w : World} {K : PySem.W.Frag} {elts : List Expr} {kk : Nat} {tpos : Pos} (a e it : Addr) (hai : a ≠ it) (hae : a ≠ e) :
    Turn P w K (.Tuple elts kk tpos) (IteT K a) [e, it] e (fun i h => (∃ old, IsEnum h e it ((i : Nat) : Int) old) ∧ h.IsTupleIter it a i ∧ e ≠ it) where
  mem := by simp
  obj := fun i h st b hb => by
    obtain ⟨⟨old, he⟩, ⟨o, ho, hc, hd⟩, _⟩ := st
    have e' : b = e ∨ b = it := by simpa using hb
    rcases e' with z | z
    · rw [z]; exact ⟨_, he, fun v q => nomatch q⟩
    · rw [z]; exact ⟨o, ho, fun v q => by rw [hd] at q; cases q⟩
  keep := fun i h h' st k => let ⟨⟨old, he⟩, hi, hne⟩ := st; ⟨⟨old, k e (by simp) _ he⟩, hi.at fun o q => k it (by simp) o q, hne⟩
  item := by
    intro X hP hw hK hc i pins s σ H E I hf st hg
    subst hP hw hK
    obtain ⟨⟨old, he⟩, hit, hne⟩ := st
    obtain ⟨xs, x, hq, hx⟩ := hg
    obtain ⟨its, rv, p, hz⟩ := I.tuple hq
    obtain ⟨u, hu, ru⟩ := rv.get hx
    have hel : e < s.heap.objs.size := Heap.lt_size he
    have hil : it < s.heap.objs.size := by obtain ⟨_, q, _⟩ := hit; exact Heap.lt_size q
    have hlt : i < its.toArray.size := by
      rw [List.size_toArray]
      exact (List.getElem?_eq_some_iff.mp hu).1
    refine wpAny_pyNext_enum_itemD (fp := [it, a]) (Draws.tuple (A := X.A.in1) (show X.A.in1.handled = none from I.ok.hd hc) it a hai its.toArray) he ⟨hit, p⟩ hlt hne (by simp only [List.mem_cons, List.not_mem_nil, or_false, not_or]; exact ⟨hne, fun z => hae z.symm⟩) fun y h' tk hy ho hit' hT hsz hk => ?_
    have ey : y = u := by
      have hy' : its[i]? = some y := by simpa using hy
      rw [hu] at hy'
      exact (Option.some.inj hy').symm
    subst ey
    refine ⟨_, rfl, wpAny_letOwnedTupleGo_enum (s := { s with heap := h', toks := tk + 1 }) ho fun h'' he' sb => ?_⟩
    have hT2 : h''.get? s.heap.objs.size = some { cls := .type "tuple", data := .seq #[.int i tk, y] } := (sb.2 _ (Nat.ne_of_gt hel)).trans hT
    have new : ObjOk X.prog X.w (upd H s.heap.objs.size (.tup [.int (i : Nat), x])) h'' s.heap.objs.size (.tup [.int (i : Nat), x]) :=
      ⟨by show 2 ≤ sizeLine; decide, [.int i tk, y], .cons ⟨_, rfl⟩ (.cons ru .nil), ⟨_, hT2, rfl, _, rfl⟩⟩
    have I1 : Inv X pins σ (upd H s.heap.objs.size (.tup [.int (i : Nat), x])) { s with heap := h'', toks := tk + 1 } :=
      I.turnedNew (ch := [e, it]) (fun b ob hb q => (sb.2 b (fun z => hb (by simp [z]))).trans (hk b ob (fun z => hb (by simp [z])) (fun z => hb (by simp [z])) q)) hf (Nat.le_refl _) new
    refine ⟨.ref s.heap.objs.size, _, I1, rfl, ⟨_, x, rfl, I.hok.fresh (Nat.le_refl _), rfl, fun ys hy => by rw [I.tuple_inj hy hq]; exact hx⟩, ⟨⟨y, ?_⟩, hit'.1.at fun o q => (sb.2 it (Ne.symm hne)).trans q, hne⟩, fun b hb => ?_⟩
    · have e1 : ((i + 1 : Nat) : Int) = (i : Int) + 1 := by omega
      rw [e1]; exact he'
    · have hb' : b < s.heap.objs.size := by
        have e' : b = e ∨ b = it := by simpa using hb
        rcases e' with z | z
        · rw [z]; exact hel
        · rw [z]; exact hil
      rw [upd_ne (Nat.ne_of_lt hb')]
      exact (hf b hb).1
  done := by
    intro X hP hw hK hc i pins s σ H E I hf st hg
    subst hP hw hK
    obtain ⟨⟨old, he⟩, hit, hne⟩ := st
    obtain ⟨xs, hq, hx⟩ := hg
    obtain ⟨its, rv, p, hz⟩ := I.tuple hq
    obtain ⟨f0, f1, f2, f3, f4, f5⟩ := hf it (by simp)
    have hl := rv.length
    have hn : its.toArray[i]? = none := by simp; omega
    have hT : s.TypeIs (.ref e) "enumerate" := ⟨_, he, rfl⟩
    unfold pyNext
    refine wpAny_bind (wpAny_attempt (wpAny_callSpecial?_slot (name := Str.ofString "__next__") hT F.slot_enumerate_next
      (wpAny_call_entry F.slot_enumerate_next hT F.entry_enumerate_next ?_ (F.args_enumerate_next_1 _))))
    show wpAny _ _ (field (.ref e) 2 >>= _) _ _ _
    refine wpAny_bind (wpAny_field he rfl (x := .ref it) rfl ?_)
    refine wpAny_bind (RZ.nextOf_tuple_end (I.ok.hd hc) hit p hn fun h' x he' hx' => ?_)
    obtain ⟨o, ho, hc2⟩ := hx'
    refine wpAny_bind (wpAny_isInstance (T := "StopIteration") (b := true) ⟨o, ho, hc2⟩ isSubtype_stop ?_)
    exact wpAny_pure ⟨rfl, I.turned (t' := s.toks) (fun b o hb q => he' b o hb q) f0 f1 f3 f4 f5⟩
  self := fun A i s Q E st h => let ⟨⟨_, he⟩, _⟩ := st; wpAny_pyIter_enum he h
def iEnumT (K : PySem.W.Frag) (ta : TA) : TI := fun σ H R => ta σ H fun vs H1 => ∃ a xs, vs = [.ref a] ∧ SqT K H1 a xs ∧ R (IteT K a) H1
theorem pi_enumT {X : Cx} {e : Expr} {ta : TA} {p pos tpos : Pos} {elts : List Expr} {kk : Nat} (hg : Gl X "enumerate") (hm : X.mg "enumerate" = none) (ha : PA X [e] ta) (hs : starEach [e] X.env = [(false, eval e X.env)] := by rfl) :
    PI X (.Tuple elts kk tpos) (.Call (.Name "enumerate" p) [e] [] pos) (iEnumT X.K ta) := by
  refine ⟨fun pins s σ H R I h => ?_⟩
  refine Call_ (ld_blt I hg hm boot_enumerate (PyProof.Rows.callWith_type1 (thn (ha.run pos pins s σ H _ I h) fun us s1 ⟨vs, H1, I1, r1, q1⟩ => ?_) hs rfl))
  obtain ⟨a, xs, ex, hq, q⟩ := q1
  subst ex
  cases r1 with
  | cons r rr =>
    cases rr
    cases r
    obtain ⟨its, rv, p', hz⟩ := I1.tuple hq
    obtain ⟨o1, ho1, _⟩ := id p'
    have hla : a < s1.heap.objs.size := Heap.lt_size ho1
    refine call_enumerate_tuple (show s1.heap.IsTuple a its.toArray from p') fun h' he hit hsz hk => wpAny_pyIter_enum he ?_
    have I2 : Inv X pins σ H1 { s1 with heap := h' } := I1.kept (t' := s1.toks) hk
    refine ⟨s1.heap.objs.size + 1, [s1.heap.objs.size + 1, s1.heap.objs.size], _, _, H1, rfl, I2, turn_enumT a (s1.heap.objs.size + 1) s1.heap.objs.size (Nat.ne_of_lt hla) (Nat.ne_of_lt (Nat.lt_succ_of_lt hla)), ⟨⟨.none, he⟩, hit, Nat.succ_ne_self _⟩, fun b hb => ?_, q⟩
    have e' : b = s1.heap.objs.size + 1 ∨ b = s1.heap.objs.size := by simpa using hb
    have hle : s1.heap.objs.size ≤ b := by
      rcases e' with z | z
      · rw [z]; exact Nat.le_add_right _ _
      · rw [z]; exact Nat.le_refl _
    exact I1.fpOk hle (I1.hok.fresh hle)
end L2
namespace Mt
open PySem PySem.Spec PyProof.Rows L2 L2H
section
variable {A : Ad} {E : EK} {aa : TA} {am : MA} {K : PySem.W.Frag}
def mEnumT (am : MA) : MA := fun XA env k => am XA env fun ds => ∃ es, ds = [.tup es] ∧ k (enumT es)
theorem ri_enumT (ha : RA A E aa am) : RI A E (iEnumT K aa) (mEnumT am) := fun s H0 P σ H env XA k R re x h q =>
  ha s H0 P σ H env XA _ _ re x h fun P1 H1 vs ds e1 r1 ⟨es, h1, h3⟩ => by
    subst h1
    obtain ⟨v, rfl, g⟩ := rps1 r1
    simp only [Rp] at g
    obtain ⟨a, us, rfl, g1, g2, g3⟩ := g
    refine ⟨a, us, rfl, sqt_of (e1.wf.sub _ _ g1), q P1 H1 _ _ e1 (fun P' H' sp w => ?_) (by unfold enumT; rw [List.length_mapIdx]; exact g3) h3⟩
    have sq : SqT K H' a us := sqt_of (w.sub _ _ (sp _ _ g1))
    refine ⟨fun i d hd => ?_, fun i hi => ⟨us, sq, by unfold enumT at hi; rw [List.length_mapIdx] at hi; rw [rps_len g2]; exact hi⟩⟩
    unfold enumT at hd
    rw [List.getElem?_mapIdx] at hd
    cases hz : es[i]? with
    | none => rw [hz] at hd; cases hd
    | some z =>
      rw [hz] at hd
      cases hd
      obtain ⟨v, hv, rv⟩ := rps_at g2 hz
      refine ⟨⟨us, v, sq, hv⟩, fun x H'' hy => ?_⟩
      obtain ⟨p, y, rfl, hp, rfl, hx⟩ := hy
      have := hx us sq
      rw [hv] at this
      cases this
      have e2 := ext_new (o := .tup [.int (i : Nat), v]) w hp
      refine ⟨_, e2, ?_⟩
      simp only [Rp]
      exact ⟨p, _, rfl, upd_same, rps_cons (by simp [Rp]) (rps_cons (rp_same (sp.trans e2.sub) _ _ rv) rps_nil), by show 2 < 1000000; decide⟩
end
end Mt
/-! statements that are never reached -/
namespace Mt
open PySem PySem.Spec PyProof.Rows L2 L2H
def mNever : MS := fun _ _ => False
theorem rs_never {A : Ad} {E : EK} : RS A E tNever mNever := fun _ _ _ _ _ _ _ _ _ _ _ _ h => h.elim
end Mt
/-! an except suite that keeps the error's pair in a name -/
namespace Mt
open PySem PySem.Spec PyProof.Rows L2 L2H
section
variable {A : Ad} {E : EK}
def mKindA (j : Nat) (al : Ec → Bool) (x : Ex) : MS := fun env M => ∃ c pl, x = .arg c pl ∧ al c = true ∧ c.attr = "argument" ∧ mgName j (.tup [.str (exName x), pl]) env M.nx
theorem rh_kindA {al : Ec → Bool} {i j : Nat} : RH A E i (fun a cls d => tAsg (tCallE a cls d (SpK A al) (tCons (tVar i) tNil)) (gName j)) (mKindA j al) := fun a cls d x s P0 H0 P σ H env D M hi ha hx e re l ⟨c, pl, hx2, hal, hat, h⟩ => by
  subst hx2
  obtain ⟨rfl, dd, v, rfl, hd, hr⟩ := hx
  refine ⟨_, dd, rfl, rfl, .ref a, hi, fun oe he => ⟨c, dd, v, rfl, hal, hat, he, by rw [hat] at hd; exact hd, fun t H' sm ht et => ?_⟩⟩
  have w := re.wf
  have tP : P t = none := w.sub.free ht
  have sP : Same P (upd P t (.tup [.str (exName (.arg c .non)), v])) := same_new tP
  have ts : ∀ b, s = some b → b ≠ t := fun b hb z => by
    obtain ⟨_, u, _, h3⟩ := w.sto b hb
    rw [z, ht] at h3
    cases h3
  have e2 : Ext s P H (upd P t (.tup [.str (exName (.arg c .non)), v])) H' := by
    refine ⟨⟨fun b o g => ?_, fun b hb => ?_⟩, sP, fun b o _ g => sm _ _ g, fun b hb g => ?_, fun a t t' _ h g => st_inj (sm _ _ h) g⟩
    · by_cases z : b = t
      · rw [z, upd_same] at g
        rw [z, ← g]
        exact et
      · rw [upd_ne z] at g
        exact sm _ _ (w.sub _ _ g)
    · obtain ⟨g1, u, g2, g3⟩ := w.sto b hb
      exact ⟨by rw [upd_ne (ts b hb)]; exact g1, u, stok_same sP g2, sm _ _ g3⟩
    · by_cases z : b = t
      · rw [z]
        exact ht
      · rw [upd_ne z] at g
        exact absurd hb g
  refine rg_name s H0 _ σ H' env (.tup [.str (exName (.arg c pl)), pl]) (.ref t) _ _ (re.ext e2) ?_ h fun σ2 env2 re2 _ h2 => l.nx _ σ2 H' env2 (e.trans e2) sP re2 h2
  simp only [Rp]
  exact ⟨t, _, rfl, upd_same, rps_cons (by simp only [Rp]; rw [exName_pl]) (rps_cons (rp_same sP _ _ hr) rps_nil), by show 2 < 1000000; decide⟩
end
end Mt
/-! several names of a tuple or of a list -/
namespace Mt
open PySem PySem.Spec PyProof.Rows L2 L2H
theorem pg_alt {X : Cx} {e : Expr} {g1 g2 : TG} (h1 : PG X e g1) (h2 : PG X e g2) : PG X e (fun v σ H Q => g1 v σ H Q ∨ g2 v σ H Q) :=
  ⟨fun pins s σ H v u Q I r h => h.elim (h1.run pins s σ H v u Q I r) (h2.run pins s σ H v u Q I r)⟩
section
variable {K : PySem.W.Frag}
def mgTupA (n : Nat) (ms : MGs) : MG := fun t env k => ∃ ds, (t = .tup ds ∨ t = .lst ds) ∧ ds.length = n ∧ ms ds env k
theorem rg_tupA {n : Nat} {gs : TGs} {ms : MGs} {is : List Nat} (h2 : RGs gs ms is) : RG (fun v σ H Q => gTup K n gs v σ H Q ∨ gUnl K n gs v σ H Q) (mgTupA n ms) is := fun s H0 P σ H env t v k R re r ⟨ds, e, hl, h⟩ q => by
  rcases e with e | e
  · subst e
    simp only [Rp] at r
    obtain ⟨a, vs, rfl, g1, g2, g3⟩ := r
    exact Or.inl ⟨a, vs, rfl, sqt_of (re.wf.sub _ _ g1), by rw [rps_len g2]; exact hl, h2 s H0 P σ H env ds vs k R re g2 h q⟩
  · subst e
    simp only [Rp] at r
    obtain ⟨a, vs, rfl, g1, g2, g3⟩ := r
    exact Or.inr ⟨a, vs, rfl, sql_of (re.wf.sub _ _ g1), by rw [rps_len g2]; exact hl, h2 s H0 P σ H env ds vs k R re g2 h q⟩
theorem mgTupA_w {n : Nat} {ms : MGs} {ds : List T} {env : Env} {k : Env → Prop} : mgTupA n ms (.tup ds) env k = (ds.length = n ∧ ms ds env k) := propext ⟨fun ⟨a, e, h⟩ => by rcases e with e | e <;> cases e; exact h, fun h => ⟨ds, Or.inl rfl, h⟩⟩
theorem mgTupL_w {n : Nat} {ms : MGs} {ds : List T} {env : Env} {k : Env → Prop} : mgTupA n ms (.lst ds) env k = (ds.length = n ∧ ms ds env k) := propext ⟨fun ⟨a, e, h⟩ => by rcases e with e | e <;> cases e; exact h, fun h => ⟨ds, Or.inr rfl, h⟩⟩
end
end Mt
/-! a text among texts -/
namespace Mt
open PySem PySem.Spec PyProof.Rows L2 L2H
def oIn : T → T → (T → Prop) → Prop := fun d e k => ∃ (z : Str) (ws : List Str), d = .str z ∧ (e = .tup (ws.map T.str) ∨ e = .lst (ws.map T.str)) ∧ k (.bl (ws.any fun y => eqV (.str y) (.str z)))
theorem rps_strs {s : Option Addr} {P : Hp} : ∀ {ws : List Str} {vs : List V}, Rps s P (ws.map T.str) vs → vs = ws.map V.str
  | [], vs, h => by
    cases vs with
    | nil => rfl
    | cons a l => simp [Rps] at h
  | w :: ws, vs, h => by
    cases vs with
    | nil => simp [Rps] at h
    | cons a l =>
      simp only [List.map_cons, Rps, Rp] at h
      obtain ⟨v, r, e, e2, h⟩ := h
      cases e
      rw [List.map_cons, e2, rps_strs h]
theorem ro_in {K : PySem.W.Frag} : ROp (rIn K false) oIn := fun s P H x y d e k Q w h1 h2 ⟨z, ws, g1, g2, h⟩ q => by
  subst g1
  simp only [Rp] at h1
  subst h1
  have fl : (ws.map V.str).all flatV = true := List.all_eq_true.mpr fun v hv => by
    obtain ⟨y, _, rfl⟩ := List.mem_map.mp hv
    rfl
  have ei : inV (.str z) (ws.map V.str) = ws.any fun y => eqV (.str y) (.str z) := by
    unfold inV
    rw [List.any_map]
    rfl
  rcases g2 with g2 | g2 <;> subst g2 <;> simp only [Rp] at h2 <;> obtain ⟨a, vs, rfl, a1, a2, a3⟩ := h2 <;> have := rps_strs a2 <;> subst this
  · refine ⟨a, _, rfl, Or.inr (sqt_of (w.sub _ _ a1)), rfl, fl, ?_⟩
    rw [ei]
    exact q P H _ _ (Ext.refl w) (by simp [Rp]) h
  · refine ⟨a, _, rfl, Or.inl (sql_of (w.sub _ _ a1)), rfl, fl, ?_⟩
    rw [ei]
    exact q P H _ _ (Ext.refl w) (by simp [Rp]) h
end Mt
/-! a fresh def called by names, its answer used as data -/
namespace Mt
open PySem PySem.Spec PyProof.Rows L2 L2H
theorem CalKX.data {P : Program} {w : World} {K : PySem.W.Frag} {mg : Str → Option Value} {base : Heap} {A : Ad} {m n k : Nat} {c : CtF} {ps ks : List Str} {js : List Nat} {x : Str} (C : CalKX P w K mg base x k ps n ks js (SpF A m c)) : CalKX P w K mg base x k ps n ks js (SpU A m (cData c)) := by
  obtain ⟨f, fd, F, gm, kp, b⟩ := C.ex
  exact ⟨f, fd, F.imp fun _ _ _ _ h => spf_data h, gm, kp, b⟩
end Mt
/-! ### deep == and != of data without truth values; methods of texts; one sign in a text -/
namespace Mt
open PySem PySem.Spec PyProof.Rows L2 L2H
mutual
/-- data so deep, without truth values, its texts of signs -/
def eqT : Nat → T → Bool
  | _, .non => true
  | _, .int _ => true
  | _, .str x => PyData.strOk x
  | n + 1, .lst a => eqTs n a
  | n + 1, .tup a => eqTs n a
  | _, _ => false
def eqTs : Nat → List T → Bool
  | _, [] => true
  | n, a :: as => eqT n a && eqTs n as
end
mutual
theorem eqT_py : ∀ {n : Nat} {d : T}, eqT n d = true → ∃ p, toPy d = some p ∧ p.canLay0 = true ∧ p.depth ≤ n
  | n, .non, h => ⟨.none, by simp [toPy], by simp [PyData.canLay0], by simp [PyData.depth]⟩
  | n, .int i, h => ⟨.int i, by simp [toPy], by simp [PyData.canLay0], by simp [PyData.depth]⟩
  | n, .str x, h => ⟨.str x, by simp [toPy], by
    simp only [eqT] at h
    simpa [PyData.canLay0] using h, by simp [PyData.depth]⟩
  | 0, .lst ds, h => by simp [eqT] at h
  | 0, .tup ds, h => by simp [eqT] at h
  | n + 1, .lst ds, h => by
    simp only [eqT] at h
    obtain ⟨ps, h1, h2, h3⟩ := eqTs_py h
    refine ⟨.list ps, by simp [toPy, h1], by simpa [PyData.canLay0] using h2, ?_⟩
    simp only [PyData.depth]
    omega
  | n + 1, .tup ds, h => by
    simp only [eqT] at h
    obtain ⟨ps, h1, h2, h3⟩ := eqTs_py h
    refine ⟨.tuple ps, by simp [toPy, h1], by simpa [PyData.canLay0] using h2, ?_⟩
    simp only [PyData.depth]
    omega
  | 0, .bl _, h => by simp [eqT] at h
  | n + 1, .bl _, h => by simp [eqT] at h
  | 0, .ty _, h => by simp [eqT] at h
  | n + 1, .ty _, h => by simp [eqT] at h
  | 0, .sto, h => by simp [eqT] at h
  | 0, .kc _, h => by simp [eqT] at h
  | 0, .fi _, h => by simp [eqT] at h
  | n + 1, .sto, h => by simp [eqT] at h
  | n + 1, .kc _, h => by simp [eqT] at h
  | n + 1, .fi _, h => by simp [eqT] at h
  | 0, .obj _ _ _, h => by simp [eqT] at h
  | n + 1, .obj _ _ _, h => by simp [eqT] at h
theorem eqTs_py : ∀ {n : Nat} {ds : List T}, eqTs n ds = true → ∃ ps, toPys ds = some ps ∧ PyData.canLayAll0 ps = true ∧ PyData.depthAll ps ≤ n
  | n, [], h => ⟨[], by simp [toPys], by simp [PyData.canLayAll0], by simp [PyData.depthAll]⟩
  | n, d :: ds, h => by
    simp only [eqTs, Bool.and_eq_true] at h
    obtain ⟨p, h1, h2, h3⟩ := eqT_py h.1
    obtain ⟨ps, g1, g2, g3⟩ := eqTs_py h.2
    refine ⟨p :: ps, by simp [toPys, h1, g1], by simp [PyData.canLayAll0, h2, g2], ?_⟩
    simp only [PyData.depthAll]
    omega
end
mutual
theorem eqv_same : ∀ {n m : Nat} {a b : T} {p q : PyData}, eqT n a = true → eqT m b = true → toPy a = some p → toPy b = some q → p.eqv q = sameT a b
  | n, m, .non, b, p, q, h, g, e, f => by
    simp only [toPy] at e
    cases e
    cases b with
    | lst bs => 
      simp only [toPy, Option.map_eq_some_iff] at f
      obtain ⟨_, _, rfl⟩ := f
      simp [PyData.eqv, sameT]
    | tup bs =>
      simp only [toPy, Option.map_eq_some_iff] at f
      obtain ⟨_, _, rfl⟩ := f
      simp [PyData.eqv, sameT]
    | ty _ => simp [toPy] at f
    | sto => simp [toPy] at f
    | kc _ => simp [toPy] at f
    | fi _ => simp [toPy] at f
    | obj _ _ _ => simp [toPy] at f
    | bl _ => cases m <;> simp [eqT] at g
    | _ => simp only [toPy] at f; cases f; simp [PyData.eqv, sameT]
  | n, m, .int i, b, p, q, h, g, e, f => by
    simp only [toPy] at e
    cases e
    cases b with
    | lst bs => 
      simp only [toPy, Option.map_eq_some_iff] at f
      obtain ⟨_, _, rfl⟩ := f
      simp [PyData.eqv, sameT]
    | tup bs =>
      simp only [toPy, Option.map_eq_some_iff] at f
      obtain ⟨_, _, rfl⟩ := f
      simp [PyData.eqv, sameT]
    | ty _ => simp [toPy] at f
    | sto => simp [toPy] at f
    | kc _ => simp [toPy] at f
    | fi _ => simp [toPy] at f
    | obj _ _ _ => simp [toPy] at f
    | bl _ => cases m <;> simp [eqT] at g
    | int j => simp only [toPy] at f; cases f; simp only [PyData.eqv, sameT]; rfl
    | _ => simp only [toPy] at f; cases f; simp [PyData.eqv, sameT]
  | n, m, .str i, b, p, q, h, g, e, f => by
    simp only [toPy] at e
    cases e
    cases b with
    | lst bs => 
      simp only [toPy, Option.map_eq_some_iff] at f
      obtain ⟨_, _, rfl⟩ := f
      simp [PyData.eqv, sameT]
    | tup bs =>
      simp only [toPy, Option.map_eq_some_iff] at f
      obtain ⟨_, _, rfl⟩ := f
      simp [PyData.eqv, sameT]
    | ty _ => simp [toPy] at f
    | sto => simp [toPy] at f
    | kc _ => simp [toPy] at f
    | fi _ => simp [toPy] at f
    | obj _ _ _ => simp [toPy] at f
    | bl _ => cases m <;> simp [eqT] at g
    | str j =>
      simp only [toPy] at f
      cases f
      simp only [PyData.eqv, sameT]
      exact Bool.eq_iff_iff.mpr ⟨fun z => decide_eq_true (eq_of_beq z), fun z => by rw [of_decide_eq_true z]; exact beq_self_eq_true j⟩
    | _ => simp only [toPy] at f; cases f; simp [PyData.eqv, sameT]
  | 0, m, .lst ds, b, p, q, h, g, e, f => by simp [eqT] at h
  | 0, m, .tup ds, b, p, q, h, g, e, f => by simp [eqT] at h
  | n + 1, m, .lst ds, b, p, q, h, g, e, f => by
    simp only [eqT] at h
    simp only [toPy, Option.map_eq_some_iff] at e
    obtain ⟨ps, e1, rfl⟩ := e
    cases b with
    | lst bs => 
      simp only [toPy, Option.map_eq_some_iff] at f
      obtain ⟨qs, f1, rfl⟩ := f
      cases m with
      | zero => simp [eqT] at g
      | succ m =>
        simp only [eqT] at g
        simp only [PyData.eqv, sameT]
        exact eqvs_same h g e1 f1
    | tup bs =>
      simp only [toPy, Option.map_eq_some_iff] at f
      obtain ⟨_, _, rfl⟩ := f
      simp [PyData.eqv, sameT]
    | ty _ => simp [toPy] at f
    | sto => simp [toPy] at f
    | kc _ => simp [toPy] at f
    | fi _ => simp [toPy] at f
    | obj _ _ _ => simp [toPy] at f
    | bl _ => cases m <;> simp [eqT] at g
    | _ => simp only [toPy] at f; cases f; simp [PyData.eqv, sameT]
  | n + 1, m, .tup ds, b, p, q, h, g, e, f => by
    simp only [eqT] at h
    simp only [toPy, Option.map_eq_some_iff] at e
    obtain ⟨ps, e1, rfl⟩ := e
    cases b with
    | tup bs => 
      simp only [toPy, Option.map_eq_some_iff] at f
      obtain ⟨qs, f1, rfl⟩ := f
      cases m with
      | zero => simp [eqT] at g
      | succ m =>
        simp only [eqT] at g
        simp only [PyData.eqv, sameT]
        exact eqvs_same h g e1 f1
    | lst bs =>
      simp only [toPy, Option.map_eq_some_iff] at f
      obtain ⟨_, _, rfl⟩ := f
      simp [PyData.eqv, sameT]
    | ty _ => simp [toPy] at f
    | sto => simp [toPy] at f
    | kc _ => simp [toPy] at f
    | fi _ => simp [toPy] at f
    | obj _ _ _ => simp [toPy] at f
    | bl _ => cases m <;> simp [eqT] at g
    | _ => simp only [toPy] at f; cases f; simp [PyData.eqv, sameT]
  | 0, m, .bl _, b, p, q, h, g, e, f => by simp [eqT] at h
  | n + 1, m, .bl _, b, p, q, h, g, e, f => by simp [eqT] at h
  | 0, m, .ty _, b, p, q, h, g, e, f => by simp [eqT] at h
  | n + 1, m, .ty _, b, p, q, h, g, e, f => by simp [eqT] at h
  | 0, m, .sto, b, p, q, h, g, e, f => by simp [eqT] at h
  | 0, m, .kc _, b, p, q, h, g, e, f => by simp [eqT] at h
  | 0, m, .fi _, b, p, q, h, g, e, f => by simp [eqT] at h
  | n + 1, m, .sto, b, p, q, h, g, e, f => by simp [eqT] at h
  | n + 1, m, .kc _, b, p, q, h, g, e, f => by simp [eqT] at h
  | n + 1, m, .fi _, b, p, q, h, g, e, f => by simp [eqT] at h
  | 0, m, .obj _ _ _, b, p, q, h, g, e, f => by simp [eqT] at h
  | n + 1, m, .obj _ _ _, b, p, q, h, g, e, f => by simp [eqT] at h
theorem eqvs_same : ∀ {n m : Nat} {a b : List T} {p q : List PyData}, eqTs n a = true → eqTs m b = true → toPys a = some p → toPys b = some q → PyData.eqvAll p q = sameTs a b
  | n, m, [], b, p, q, h, g, e, f => by
    simp only [toPys] at e
    cases e
    cases b with
    | nil => simp only [toPys] at f; cases f; simp [PyData.eqvAll, sameTs]
    | cons y b =>
      simp only [toPys] at f
      split at f
      · cases f; simp [PyData.eqvAll, sameTs]
      · cases f
  | n, m, x :: a, b, p, q, h, g, e, f => by
    simp only [eqTs, Bool.and_eq_true] at h
    simp only [toPys] at e
    split at e
    · rename_i p1 ps1 e1 e2
      cases e
      cases b with
      | nil => simp only [toPys] at f; cases f; simp [PyData.eqvAll, sameTs]
      | cons y b =>
        simp only [eqTs, Bool.and_eq_true] at g
        simp only [toPys] at f
        split at f
        · rename_i q1 qs1 f1 f2
          cases f
          simp only [PyData.eqvAll, sameTs]
          rw [eqv_same h.1 g.1 e1 f1, eqvs_same h.2 g.2 e2 f2]
        · cases f
    · cases e
end
theorem eqT_shaped {n : Nat} {d : T} (h : eqT n d = true) (hn : n ≤ 64) : ∃ p, toPy d = some p ∧ SeqAt.shaped p = true := by
  obtain ⟨p, h1, h2, h3⟩ := eqT_py h
  refine ⟨p, h1, ?_⟩
  unfold SeqAt.shaped
  rw [h2, decide_eq_true (show p.depth ≤ 64 by omega)]
  rfl
theorem oEqD_same {n m : Nat} {a b : T} {k : T → Prop} (h : eqT n a = true) (g : eqT m b = true) (hk : k (.bl (sameT a b))) (hn : n ≤ 64 := by decide) (hm : m ≤ 64 := by decide) : oEqD a b k := by
  obtain ⟨p, e1, e2⟩ := eqT_shaped h hn
  obtain ⟨q, f1, f2⟩ := eqT_shaped g hm
  refine ⟨p, q, e1, f1, e2, f2, ?_⟩
  rw [eqv_same h g e1 f1]
  exact hk
def oNeD : T → T → (T → Prop) → Prop := fun d e k => ∃ p q, toPy d = some p ∧ toPy e = some q ∧ SeqAt.shaped p = true ∧ SeqAt.shaped q = true ∧ k (.bl (!p.eqv q))
theorem ro_neD {K : PySem.W.Frag} : ROp (rNeD K) oNeD := fun s P H x y d e k Q w h1 h2 ⟨p, q, e1, e2, s1, s2, h⟩ r =>
  ⟨p, q, dp_of w h1 e1, dp_of w h2 e2, s1, s2, r P H _ _ (Ext.refl w) (by simp [Rp]) h⟩
theorem oNeD_same {n m : Nat} {a b : T} {k : T → Prop} (h : eqT n a = true) (g : eqT m b = true) (hk : k (.bl (!sameT a b))) (hn : n ≤ 64 := by decide) (hm : m ≤ 64 := by decide) : oNeD a b k := by
  obtain ⟨p, e1, e2⟩ := eqT_shaped h hn
  obtain ⟨q, f1, f2⟩ := eqT_shaped g hm
  refine ⟨p, q, e1, f1, e2, f2, ?_⟩
  rw [eqv_same h g e1 f1]
  exact hk
mutual
theorem eqT_ok : ∀ {n : Nat} {d : T}, eqT n d = true → okT n d = true
  | n, .non, h => by simp [okT]
  | n, .int b, h => by simp [okT]
  | n, .str b, h => by simp [okT]
  | 0, .lst ds, h => by simp [eqT] at h
  | 0, .tup ds, h => by simp [eqT] at h
  | n + 1, .lst ds, h => by
    simp only [eqT] at h
    simp only [okT]
    exact eqTs_ok h
  | n + 1, .tup ds, h => by
    simp only [eqT] at h
    simp only [okT]
    exact eqTs_ok h
  | 0, .bl _, h => by simp [eqT] at h
  | n + 1, .bl _, h => by simp [eqT] at h
  | 0, .ty _, h => by simp [eqT] at h
  | n + 1, .ty _, h => by simp [eqT] at h
  | 0, .sto, h => by simp [eqT] at h
  | 0, .kc _, h => by simp [eqT] at h
  | 0, .fi _, h => by simp [eqT] at h
  | n + 1, .sto, h => by simp [eqT] at h
  | n + 1, .kc _, h => by simp [eqT] at h
  | n + 1, .fi _, h => by simp [eqT] at h
  | 0, .obj _ _ _, h => by simp [eqT] at h
  | n + 1, .obj _ _ _, h => by simp [eqT] at h
theorem eqTs_ok : ∀ {n : Nat} {a : List T}, eqTs n a = true → okTs n a = true
  | n, [], h => by simp [okTs]
  | n, a :: as, h => by
    simp only [eqTs, Bool.and_eq_true] at h
    simp only [okTs, Bool.and_eq_true]
    exact ⟨eqT_ok h.1, eqTs_ok h.2⟩
end
mutual
theorem sameT_eq : ∀ {n : Nat} {a b : T}, okT n a = true → sameT a b = true → a = b
  | n, .non, b, h, e => by cases b <;> simp_all [sameT]
  | n, .bl x, b, h, e => by cases b <;> simp_all [sameT]
  | n, .int x, b, h, e => by cases b <;> simp_all [sameT]
  | n, .str x, b, h, e => by cases b <;> simp_all [sameT]
  | 0, .lst ds, b, h, e => by simp [okT] at h
  | 0, .tup ds, b, h, e => by simp [okT] at h
  | n + 1, .lst ds, b, h, e => by
    simp only [okT] at h
    cases b with
    | lst es =>
      simp only [sameT] at e
      rw [sameTs_eq h e]
    | _ => simp [sameT] at e
  | n + 1, .tup ds, b, h, e => by
    simp only [okT] at h
    cases b with
    | tup es =>
      simp only [sameT] at e
      rw [sameTs_eq h e]
    | _ => simp [sameT] at e
  | 0, .ty _, b, h, e => by simp [okT] at h
  | n + 1, .ty _, b, h, e => by simp [okT] at h
  | 0, .sto, b, h, e => by simp [okT] at h
  | 0, .kc _, b, h, e => by simp [okT] at h
  | 0, .fi _, b, h, e => by simp [okT] at h
  | n + 1, .sto, b, h, e => by simp [okT] at h
  | n + 1, .kc _, b, h, e => by simp [okT] at h
  | n + 1, .fi _, b, h, e => by simp [okT] at h
  | 0, .obj _ _ _, b, h, e => by simp [okT] at h
  | n + 1, .obj _ _ _, b, h, e => by simp [okT] at h
theorem sameTs_eq : ∀ {n : Nat} {a b : List T}, okTs n a = true → sameTs a b = true → a = b
  | n, [], b, h, e => by cases b <;> simp_all [sameTs]
  | n, x :: a, b, h, e => by
    simp only [okTs, Bool.and_eq_true] at h
    cases b with
    | nil => simp [sameTs] at e
    | cons y b =>
      simp only [sameTs, Bool.and_eq_true] at e
      rw [sameT_eq h.1 e.1, sameTs_eq h.2 e.2]
end
theorem sameT_iff {n : Nat} {a b : T} (h : okT n a = true) : sameT a b = true ↔ a = b := ⟨sameT_eq h, fun e => by rw [← e]; exact sameT_refl h⟩
theorem iteP {c A B : Prop} [Decidable c] (h : c) (a : A) : if c then A else B := by
  rw [if_pos h]
  exact a
theorem iteN {c A B : Prop} [Decidable c] (h : ¬ c) (b : B) : if c then A else B := by
  rw [if_neg h]
  exact b
/-! places and parts of lists -/
theorem atI_c0 {α : Type} {a : α} {l : List α} : atI (a :: l) 0 = some a := atI_nat (xs := a :: l) rfl
theorem atI_c1 {α : Type} {a b : α} {l : List α} : atI (a :: b :: l) 1 = some b := atI_nat (xs := a :: b :: l) (j := 1) rfl
theorem atI_c2 {α : Type} {a b c : α} {l : List α} : atI (a :: b :: c :: l) 2 = some c := atI_nat (xs := a :: b :: c :: l) (j := 2) rfl
theorem atI_c3 {α : Type} {a b c d : α} {l : List α} : atI (a :: b :: c :: d :: l) 3 = some d := atI_nat (xs := a :: b :: c :: d :: l) (j := 3) rfl
theorem atI_c4 {α : Type} {a b c d e : α} {l : List α} : atI (a :: b :: c :: d :: e :: l) 4 = some e := atI_nat (xs := a :: b :: c :: d :: e :: l) (j := 4) rfl
theorem atI_c5 {α : Type} {a b c d e f : α} {l : List α} : atI (a :: b :: c :: d :: e :: f :: l) 5 = some f := atI_nat (xs := a :: b :: c :: d :: e :: f :: l) (j := 5) rfl
theorem atI_m1 {α : Type} {l : List α} {a : α} : atI (l ++ [a]) (-1) = some a := atI_neg1 (i := l.length) (by rw [List.length_append]; rfl) (by simp)
theorem atI_m2 {α : Type} {l : List α} {a b : α} : atI (l ++ [a, b]) (-2) = some a := by
  unfold atI ixN
  rw [List.length_append, if_neg (by decide)]
  simp only [List.length_cons, List.length_nil]
  rw [if_pos (by omega), show (-2 + ((l.length + (0 + 1 + 1) : Nat) : Int)).toNat = l.length by omega]
  simp
theorem cut_take {ds : List T} {n : Nat} : cutT ds none (some (n : Int)) = ds.take n := by
  unfold cutT
  rw [HT.sIx_none, HT.sIx_nat, List.drop_zero, Nat.sub_zero]
  by_cases h : n ≤ ds.length
  · rw [Nat.min_eq_left h]
  · rw [Nat.min_eq_right (by omega), List.take_of_length_le (by omega), List.take_of_length_le (by omega)]
theorem cut_drop {ds : List T} {n : Nat} : cutT ds (some (n : Int)) none = ds.drop n := by
  unfold cutT
  rw [HT.sIx_none, HT.sIx_nat]
  by_cases h : n ≤ ds.length
  · rw [Nat.min_eq_left h, List.take_of_length_le (by rw [List.length_drop]; omega)]
  · rw [Nat.min_eq_right (by omega), List.drop_of_length_le (by omega), List.drop_of_length_le (by omega)]
    simp
/-! methods of a text with one text -/
def rTxt1 (C : Str → Str → Prop) (g : Str → Str → V) : V → List V → Hp → VK → Prop := fun x xs H Q => ∃ a b, x = .str a ∧ xs = [.str b] ∧ C a b ∧ Q (g a b) H
def gStrip (a b : Str) : V := .str (Txt.stripChars a b)
theorem mt_stripH {X : Cx} : MtR X "str.strip" (rTxt1 (fun a _ => a.length ≤ sizeLine) gStrip) := mt_stripChars
def mStrip (ma mb : ME) : ME := fun XA env k => ma XA env fun d => ∃ a : Str, d = .str a ∧ mb XA env fun e => ∃ b : Str, e = .str b ∧ a.length < 1000000 ∧ k (.str (Txt.stripChars a b))
section
variable {A : Ad} {E : EK} {ta tb : TE} {ma mb : ME} {K : PySem.W.Frag}
theorem re_strip (ha : RE A E ta ma) (hb : RE A E tb mb) : RE A E (tM1 (rTxt1 (fun a _ => a.length ≤ sizeLine) gStrip) ta tb) (mStrip ma mb) := fun s H0 P σ H env XA k Q re x h q =>
  ha s H0 P σ H env XA _ _ re x h fun P1 H1 v d e1 r1 ⟨a, g1, h1⟩ => by
    subst g1
    have ev := rp_str r1
    subst ev
    refine ⟨⟨a, rfl⟩, hb s H0 P1 σ H1 env XA _ _ (re.ext e1) (x.ext e1) h1 fun P2 H2 w e e2 r2 ⟨b, g2, hz, h2⟩ => ?_⟩
    subst g2
    have ev := rp_str r2
    subst ev
    exact ⟨a, b, rfl, rfl, size_line hz, q P2 H2 _ _ (e1.trans e2) (by simp [Rp, gStrip]) h2⟩
end
def rInSg (neg : Bool) : R2 := fun x y H Q => ∃ (c : Nat) (z : Str), x = .str ⟨#[c]⟩ ∧ y = .str z ∧ Q (.bl (if neg = true then !decide (c ∈ z.cps.toList) else decide (c ∈ z.cps.toList))) H
theorem op_inSg {X : Cx} : OpR X (compareOp .In) (rInSg false) := op_in_sign
theorem op_notinSg {X : Cx} : OpR X (compareOp .NotIn) (rInSg true) := op_notIn_sign
def oInSg (neg : Bool) : T → T → (T → Prop) → Prop := fun d e k => ∃ (c : Nat) (z : Str), d = .str ⟨#[c]⟩ ∧ e = .str z ∧ k (.bl (if neg = true then !decide (c ∈ z.cps.toList) else decide (c ∈ z.cps.toList)))
theorem ro_inSg {neg : Bool} : ROp (rInSg neg) (oInSg neg) := fun s P H x y d e k Q w h1 h2 ⟨c, z, g1, g2, h⟩ r => by
  subst g1 g2
  exact ⟨c, z, rp_str h1, rp_str h2, r P H _ _ (Ext.refl w) (by simp [Rp]) h⟩
end Mt
/-! ### isinstance with an own class; == by an own __eq__ -/
namespace Mt
open PySem PySem.Spec PyProof.Rows L2 L2H
/-- the facts of an own class whose instances isinstance is asked of -/
structure InsF (K : PySem.W.Frag) (C : Addr) : Prop where
  cl : Cls K C
  ha : PySem.W.findIn K (.ref C) "__class__" = some (some (.builtin "object.__class__"))
  hn : PySem.W.specialIn K (.builtin "object.__class__") "__get__" = some (some (.builtin "getset_descriptor.__get__"))
  htk : PySem.W.takesIn K (.builtin "object.__class__") = some true
  hm : PySem.W.mroIn K C (.type "object") = some true
def tyNames : List String := ["NoneType", "bool", "int", "str", "list", "tuple"]
theorem tyT_in {d : T} {n : String} (h : tyT d = some n) : n ∈ tyNames := by
  cases d <;> simp only [tyT, Option.some.injEq, reduceCtorEq] at h <;> subst h <;> simp [tyNames]
/-- an own class that isinstance asks for -/
structure IsF (K : PySem.W.Frag) (C : Addr) : Prop where
  no : ∀ n, n ∈ tyNames → PySem.W.kitOne K (.type n) (.ref C) = some false
theorem notFirst_ty {K : PySem.W.Frag} {C : Addr} {n : String} (h : n ∈ tyNames) : PySem.W.notFirst K C (.type n) = true := by
  simp only [tyNames, List.mem_cons, List.not_mem_nil, or_false] at h
  rcases h with rfl | rfl | rfl | rfl | rfl | rfl <;> rfl
def mIsO (K : PySem.W.Frag) (C : Addr) (ma : ME) : ME := fun XA env k => ma XA env fun d => (∃ n, tyT d = some n ∧ PySem.W.kitOne K (.type n) (.ref C) = some false ∧ k (.bl false)) ∨ (∃ D ns ds b, d = .obj D ns ds ∧ InsF K D ∧ PySem.W.kitOne K (.ref D) (.ref C) = some b ∧ k (.bl b))
section
variable {A : Ad} {E : EK} {ta tb : TE} {ma mb : ME} {K : PySem.W.Frag}
theorem re_isO {C : Addr} (ha : RE A E ta ma) : RE A E (tCB (rIsi K) (tCons ta (tCons (tC (.ref C)) tNil))) (mIsO K C ma) := fun s H0 P σ H env XA k Q re x h q =>
  ha s H0 P σ H env XA _ _ re x h fun P1 H1 v d e1 r1 h1 => by
    rcases h1 with ⟨n, g1, g2, g3⟩ | ⟨D, ns, ds, b, rfl, g1, g2, g3⟩
    · exact ⟨v, .ref C, .type n, .ref C, false, rfl, .own C, tyx_of (rp_tyT e1.wf r1 g1), g2, q P1 H1 _ _ e1 (by simp [Rp]) g3⟩
    · simp only [Rp] at r1
      obtain ⟨a, dx, vs, rfl, a1, a2, a3⟩ := r1
      exact ⟨.ref a, .ref C, .ref D, .ref C, b, rfl, .own C, .base (.ins (e1.wf.sub _ _ a1) g1.cl g1.ha g1.hn g1.htk g1.hm), g2, q P1 H1 _ _ e1 (by simp [Rp]) g3⟩
end
/-- nothing that an own == would have to give way to -/
def NFV (K : PySem.W.Frag) (C : Addr) (y : V) (H : Hp) : Prop := (∃ n, zTyV y H = some n ∧ n ∈ tyNames) ∨ ∃ b D dx fs, y = .ref b ∧ H b = some (.ins D dx fs) ∧ PySem.W.notFirst K C (.ref D) = true
def tEqO (K : PySem.W.Frag) (C : Addr) (neg : Bool) (sp : Sp) (E : L2.St → XK) (ta tb : TE) : TE := fun σ H Q => ta σ H fun x H1 => tb σ H1 fun y H2 => ∃ a dx fs, x = .ref a ∧ H2 a = some (.ins C dx fs) ∧ NFV K C y H2 ∧ sp [x, y] H2 (fun v H3 => ∃ c, v = .bl c ∧ Q (.bl c) H3) (E σ)
section
variable {X : Cx} {W : WX} {k j : Nat} {C : Addr} {ps : List Str} {sp : Sp} {ta to : TE} {a o : Expr} {pos : Pos}
theorem pc_eqO (c : CalO X.prog X.w X.K X.mg X.base C "__eq__" j ps sp) (hr : Room k X.A) (tks : L2N.Takes X W) (ha : PE X a ta) (ho : PE X o to) (hj : j ≤ k := by decide) : PC X .Eq a o (tEqO X.K C false sp (WE W) ta to) := by
  refine ⟨fun pins s σ H Q I h => ?_⟩
  refine (thn (ha.run pins s σ H _ I h) fun u s1 ⟨x, H1, I1, rx, h1⟩ => thn (ho.run pins s1 σ H1 _ I1 h1) fun v s2 ⟨y, H2, I2, ry, b, dx, fs, ex, e, nf, h2⟩ => ?_)
  subst ex
  cases rx
  obtain ⟨f, fd, F, cl, M, bd⟩ := c.ex
  obtain ⟨m, fr⟩ := I2.fr
  obtain ⟨od, il⟩ := ins_look I2.hok e
  have lk : ∃ t, PySem.W.Looks (model X.prog X.w) s2.heap (typeOf v) t ∧ PySem.W.notFirst X.K C t = true := by
    rcases nf with ⟨n, z, hn⟩ | ⟨b', D, dx', fs', rfl, e', hn⟩
    · obtain ⟨P, kx, hp, _⟩ := kit_of I2 ry (tyx_of z)
      exact ⟨.type n, kx.ty _ _ I2.kIn hp, notFirst_ty hn⟩
    · cases ry
      obtain ⟨od', il'⟩ := ins_look I2.hok e'
      exact ⟨.ref D, il'.type, hn⟩
  obtain ⟨t, lt, hn⟩ := lk
  show wpAny (model X.prog X.w) X.A (richCompare .Eq (.ref b) v) (EP X pins σ Q) X.xe s2
  refine PySem.W.cmp_K (op := .Eq) hr.units0 fr I2.ok.mod.kin il lt hn M.at_ M.fn ?_
  refine thn (run_fnS (E := WE W) (us := [.ref b, v]) (vs := [.ref b, y]) F (hr.mono hj) bd (L2N.passAt tks σ) I2 (.cons rfl (.cons ry .nil)) h2) fun u s1 ⟨r, H1, I1, rr, c, er, q1⟩ => ?_
  subst er
  cases rr
  exact ⟨.bl c, H1, I1, rfl, q1⟩
end
def mEqO (K : PySem.W.Frag) (C : Addr) (c : Ct) (ma mb : ME) : ME := fun XA env k => ma XA env fun d => mb XA env fun e => (∃ ns ds, d = .obj C ns ds) ∧ ((∃ n, tyT e = some n) ∨ ∃ D ns ds, e = .obj D ns ds ∧ PySem.W.notFirst K C (.ref D) = true) ∧ c [d, e] (fun t => ∃ b, t = .bl b ∧ k (.bl b)) XA
section
variable {A : Ad} {E : EK} {ta tb : TE} {ma mb : ME} {K : PySem.W.Frag}
theorem re_eqO {C : Addr} {neg : Bool} {c : Ct} (ha : RE A E ta ma) (ho : RE A E tb mb) : RE A E (tEqO K C neg (SpU A 2 c) E ta tb) (mEqO K C c ma mb) := fun s H0 P σ H env XA k Q re x h q =>
  ha s H0 P σ H env XA _ _ re x h fun P1 H1 v d e1 r1 h1 => ho s H0 P1 σ H1 env XA _ _ (re.ext e1) (x.ext e1) h1 fun P2 H2 u e e2 r2 ⟨⟨ns, ds, g1⟩, g2, h2⟩ => by
    subst g1
    have r1 := rp_same e2.sub _ _ r1
    have r1' := r1
    simp only [Rp] at r1'
    obtain ⟨a, dx, vs, rfl, a1, _⟩ := r1'
    refine ⟨a, dx, _, rfl, e2.wf.sub _ _ a1, ?_, s, P2, [.obj C ns ds, e], fun t => ∃ b, t = .bl b ∧ k (.bl b), XA, e2.wf, rps_cons r1 (rps_cons r2 rps_nil), rfl, h2, ?_, ?_⟩
    · rcases g2 with ⟨n, g2⟩ | ⟨D, ns', ds', rfl, g2⟩
      · exact Or.inl ⟨n, rp_tyT e2.wf r2 g2, tyT_in g2⟩
      · simp only [Rp] at r2
        obtain ⟨b, dx', vs', rfl, b1, _⟩ := r2
        exact Or.inr ⟨b, D, dx', _, rfl, e2.wf.sub _ _ b1, g2⟩
    · rintro P' H' v d e3 r3 ⟨b, rfl, hk⟩
      exact ⟨b, rp_bl r3, q P' H' _ _ ((e1.trans e2).trans e3) (by simp [Rp]) hk⟩
    · intro P' H' y C' d e3 hx hat
      exact x P' H' y C' d ((e1.trans e2).trans e3) hx hat
end
end Mt
namespace Mt
open PySem PySem.Spec PyProof.Rows L2 L2H
theorem notFirst_self {K : PySem.W.Frag} {C : Addr} : PySem.W.notFirst K C (.ref C) = true := by
  unfold PySem.W.notFirst
  simp
end Mt
namespace Mt
open PySem PySem.Spec PyProof.Rows L2 L2H
/-! sorted, in of ints; a list's middle -/
def oSortI : List T → (T → Prop) → Prop := fun ds k => ∃ ns : List Int, ds = [.lst (ns.map T.int)] ∧ ∀ ms : List Int, ms.Perm ns → ms.Pairwise (· ≤ ·) → k (.lst (ms.map T.int))
theorem rcb_sortI {K : PySem.W.Frag} : RCB (rSortedI K) oSortI := fun s P H vs ds k Q w h ⟨ns, g1, h3⟩ q => by
  subst g1
  obtain ⟨v, rfl, h1⟩ := rps1 h
  simp only [Rp] at h1
  obtain ⟨a, us, rfl, a1, a2, a3⟩ := h1
  have := rps_intsE a2
  subst this
  refine ⟨a, ns, rfl, sql_of (w.sub _ _ a1), fun ms p pm srt hp => ?_⟩
  refine q _ _ _ _ (ext_new w hp) ?_ (h3 ms pm srt)
  simp only [Rp]
  refine ⟨p, _, rfl, upd_same, rps_ints ms, ?_⟩
  rw [List.length_map] at a3 ⊢
  rw [pm.length_eq]
  exact a3
def oInI (neg : Bool) : T → T → (T → Prop) → Prop := fun d e k => ∃ (z : Int) (ns : List Int), d = .int z ∧ (e = .lst (ns.map T.int) ∨ e = .tup (ns.map T.int)) ∧ k (.bl (if neg = true then !ns.contains z else ns.contains z))
theorem inV_ints {z : Int} {ns : List Int} : inV (.int z) (ns.map V.int) = ns.contains z := by
  unfold inV
  rw [List.any_map]
  induction ns with
  | nil => rfl
  | cons n ns ih =>
    rw [List.any_cons, List.contains_cons, ih]
    congr 1
    exact Bool.beq_comm
theorem ro_inI {K : PySem.W.Frag} {neg : Bool} : ROp (rIn K neg) (oInI neg) := fun s P H x y d e k Q w h1 h2 ⟨z, ns, g1, g2, h⟩ q => by
  subst g1
  have := rp_int h1
  subst this
  have fl : (ns.map V.int).all flatV = true := List.all_eq_true.mpr fun v hv => by
    obtain ⟨y, _, rfl⟩ := List.mem_map.mp hv
    rfl
  rcases g2 with g2 | g2 <;> subst g2 <;> simp only [Rp] at h2 <;> obtain ⟨a, vs, rfl, a1, a2, a3⟩ := h2 <;> have := rps_intsE a2 <;> subst this
  · refine ⟨a, _, rfl, Or.inl (sql_of (w.sub _ _ a1)), rfl, fl, ?_⟩
    rw [inV_ints]
    exact q P H _ _ (Ext.refl w) (by simp [Rp]) h
  · refine ⟨a, _, rfl, Or.inr (sqt_of (w.sub _ _ a1)), rfl, fl, ?_⟩
    rw [inV_ints]
    exact q P H _ _ (Ext.refl w) (by simp [Rp]) h
theorem cut_mid {ds : List T} {a b : Nat} (h : a ≤ ds.length) : cutT ds (some (a : Int)) (some (b : Int)) = (ds.drop a).take (b - a) := by
  unfold cutT
  rw [HT.sIx_nat, HT.sIx_nat, Nat.min_eq_left h]
  by_cases g : b ≤ ds.length
  · rw [Nat.min_eq_left g]
  · rw [Nat.min_eq_right (by omega), List.take_of_length_le (by rw [List.length_drop]; omega), List.take_of_length_le (by rw [List.length_drop]; omega)]
end Mt
namespace Mt
open PySem PySem.Spec PyProof.Rows L2 L2H
theorem op_inK {X : Cx} {K : PySem.W.Frag} (h : X.K = K := by rfl) : OpR X (compareOp .In) (rIn K false) := by
  subst h
  exact op_in_seq
theorem op_notInK {X : Cx} {K : PySem.W.Frag} (h : X.K = K := by rfl) : OpR X (compareOp .NotIn) (rIn K true) := by
  subst h
  exact op_notIn_seq
end Mt
/-! ### methods and makings by names; constants of the module; tuple.index, tuple(range), reversed(range) -/
namespace Mt
open PySem PySem.Spec PyProof.Rows L2 L2H
/-- a method called by names -/
structure CalOK (P : Program) (w : World) (K : PySem.W.Frag) (mg : Str → Option Value) (base : Heap) (C : Addr) (m : Str) (k : Nat) (ps : List Str) (n : Nat) (ks : List Str) (js : List Nat) (sp : Sp) : Prop where
  ex : ∃ f fd, FnOk P w K mg base (CN P w) k f fd ps sp ∧ Cls K C ∧ Meth K C m f ∧ KBn K fd ps (n + 1) ks (fun us ws => us ++ perm js ws) (fun vs zs => vs ++ perm js zs)
/-- o.m(.., k = v, ..): the errors are told with the slots -/
def tMethKW (C : Addr) (m : Str) (n q : Nat) (js : List Nat) (sp : Sp) (E : L2.St → XK) (ta : TE) (t tk : TA) : TE := fun σ H Q => ta σ H fun x H1 => ∃ a dx fs, x = .ref a ∧ H1 a = some (.ins C dx fs) ∧ fs.lookup m = none ∧
  t σ H1 fun vs H2 => tk σ H2 fun zs H3 => vs.length = n ∧ zs.length = q ∧ sp (x :: vs ++ perm js zs) H3 Q (E σ)
section
variable {X : Cx} {W : WX} {C : Addr} {m x : Str} {j k n q : Nat} {o e : Expr} {es : List Expr} {ta : TE} {t tk : TA} {p apos pos : Pos} {pl : Sem Bool} {ps ks : List Str} {js : List Nat} {sp : Sp} {kws : List Keyword}
theorem p_methKX0 (c : CalOK X.prog X.w X.K X.mg X.base C m j ps 0 ks js sp) (hr : Room k X.A) (tks : L2N.Takes X W) (ho : PE X o ta) (hkw : PK X kws tk) (hj : j ≤ k := by decide) (hm : ks.length = q := by rfl)
    (hall : (backToKw pos (keywordEach kws X.env)).all (·.1.isSome) = true := by rfl) (hks : (backToKw pos (keywordEach kws X.env)).filterMap (·.1) = ks := by rfl)
    (hpl : ((backTo pos (starEach [] X.env)).any (·.1) || (backToKw pos (keywordEach kws X.env)).any (·.1.isNone)) = false := by rfl)
    (ht : eval (.Call (.Attribute o m apos) [] kws pos) X.env = (do
      let ov ← eval o X.env
      standAt apos.atName
      let __x ← holding [ov] (getMethod ov m pl)
      match __x with
        | (f, first) => callWith pos f first (backTo pos (starEach [] X.env)) (backToKw pos (keywordEach kws X.env))) := by rfl) :
    PE X (.Call (.Attribute o m apos) [] kws pos) (tMethKW C m 0 q js sp (WE W) ta tNil tk) := by
  obtain ⟨f, fd, F, cl, M, b⟩ := c.ex
  constructor
  intro pins s σ H Q I h
  refine PySem.W.methodCall_KW (pl := pl) (thn (ho.run pins s σ H _ I h) fun u s1 ⟨x, H1, I1, rx, a, dx, fs, ex, ea, l, q⟩ => ?_) ht
  subst ex
  cases rx
  refine getmeth_ok I1 ea cl M l (PySem.W.callWith_KW0 (first := [.ref a]) (h₀ := X.base) I.ok.mod.kin M.kp hall (thn (hkw.run pos pins s1 σ H1 _ I1 q) fun ws s2 ⟨zs, H2, I2, rz, _, l2, q2⟩ => ⟨I2.kIn, ?_⟩) hpl)
  rw [hks]
  exact run_fnKS (us := [.ref a]) (vs := [.ref a]) F (hr.mono hj) b (L2N.passAt tks σ) I2 (.cons rfl .nil) rz rfl (l2.trans hm.symm) q2
theorem p_methKX (c : CalOK X.prog X.w X.K X.mg X.base C m j ps n ks js sp) (hr : Room k X.A) (tks : L2N.Takes X W) (ho : PE X o ta) (ha : PA X (e :: es) t) (hkw : PK X kws tk) (hj : j ≤ k := by decide) (hm : ks.length = q := by rfl)
    (hall : (backToKw pos (keywordEach kws X.env)).all (·.1.isSome) = true := by rfl) (hks : (backToKw pos (keywordEach kws X.env)).filterMap (·.1) = ks := by rfl)
    (he : starEach (e :: es) X.env = (false, eval e X.env) :: starEach es X.env := by rfl)
    (hpl : ((backTo pos (starEach (e :: es) X.env)).any (·.1) || (backToKw pos (keywordEach kws X.env)).any (·.1.isNone)) = false := by rfl)
    (ht : eval (.Call (.Attribute o m apos) (e :: es) kws pos) X.env = (do
      let ov ← eval o X.env
      standAt apos.atName
      let __x ← holding [ov] (getMethod ov m pl)
      match __x with
        | (f, first) => callWith pos f first (backTo pos (starEach (e :: es) X.env)) (backToKw pos (keywordEach kws X.env))) := by rfl) :
    PE X (.Call (.Attribute o m apos) (e :: es) kws pos) (tMethKW C m n q js sp (WE W) ta t tk) := by
  obtain ⟨f, fd, F, cl, M, b⟩ := c.ex
  constructor
  intro pins s σ H Q I h
  refine PySem.W.methodCall_KW (pl := pl) (thn (ho.run pins s σ H _ I h) fun u s1 ⟨x, H1, I1, rx, a, dx, fs, ex, ea, l, q⟩ => ?_) ht
  subst ex
  cases rx
  refine getmeth_ok I1 ea cl M l (PySem.W.callWith_KW (first := [.ref a]) (h₀ := X.base) I.ok.mod.kin M.kp hall (thn (ha.run pos pins s1 σ H1 _ I1 q) fun us s2 ⟨vs, H2, I2, r, q2⟩ => ?_) hpl he)
  refine thn (hkw.run pos pins s2 σ H2 _ I2 q2) fun ws s3 ⟨zs, H3, I3, rz, l1, l2, q3⟩ => ⟨I3.kIn, ?_⟩
  rw [hks]
  exact run_fnKS (us := .ref a :: us) (vs := .ref a :: vs) F (hr.mono hj) b (L2N.passAt tks σ) I3 (.cons rfl r) rz (by rw [List.length_cons, l1]) (l2.trans hm.symm) q3
/-- a class made by names -/
structure CalMK (P : Program) (w : World) (K : PySem.W.Frag) (mg : Str → Option Value) (base : Heap) (x : Str) (C : Addr) (k : Nat) (ps : List Str) (n : Nat) (ks : List Str) (js : List Nat) (sp : Sp) : Prop where
  ex : ∃ f fd, FnOk P w K mg base (CN P w) k f fd ps sp ∧ mg x = some (.ref C) ∧ Mk K C f ∧ KBn K fd ps (n + 1) ks (fun us ws => us ++ perm js ws) (fun vs zs => vs ++ perm js zs)
def tMakeKW (C : Addr) (n q : Nat) (js : List Nat) (sp : Sp) (E : L2.St → XK) (t tk : TA) : TE := fun σ H Q => t σ H fun vs H1 => tk σ H1 fun zs H2 => vs.length = n ∧ zs.length = q ∧
  ∀ x dx, H2 x = none → H2 dx = none → dx ≠ x → sp (.ref x :: vs ++ perm js zs) (upd (upd H2 dx (.own x)) x (.ins C dx [])) (fun v H3 => v = .non ∧ Q (.ref x) H3) (E σ)
theorem run_makeKS {CX : CXT} {f : Addr} {fd : FuncData} {E : XK} {pins : List (Addr × Obj)} {σ : L2.St} {H : Hp} {s : Shared} {Q : VK} {us ws : List Value} {vs zs : List V} (M : Mk X.K C f) (F : FnOk X.prog X.w X.K X.mg X.base CX k f fd ps sp) (hr : Room (k + 1) X.A)
    (hb : KBn X.K fd ps (n + 1) ks (fun us ws => us ++ perm js ws) (fun vs zs => vs ++ perm js zs)) (hx : PassesAt CX X σ E) (I : L2.Inv X pins σ H s) (r : Vals vs us) (rz : Vals zs ws) (l1 : vs.length = n) (l2 : zs.length = ks.length)
    (h : ∀ x dx, H x = none → H dx = none → dx ≠ x → sp (.ref x :: vs ++ perm js zs) (upd (upd H dx (.own x)) x (.ins C dx [])) (fun v H2 => v = .non ∧ Q (.ref x) H2) E) :
    wpAny (model X.prog X.w) X.A (call (.ref C) us (ks.zip ws)) (EP X pins σ Q) X.xe s := by
  have hq := h (s.heap.objs.size + 1) s.heap.objs.size (I.hok.fresh (Nat.le_succ _)) (I.hok.fresh (Nat.le_refl _)) (Nat.ne_of_lt (Nat.lt_succ_self _))
  have I2 := Inv.made (C := C) I
  have r1 : Vals (V.ref (s.heap.objs.size + 1) :: vs) (Value.ref (s.heap.objs.size + 1) :: us) := .cons rfl r
  have r2 := hb.rel r1 rz
  have e1 : (Value.ref (s.heap.objs.size + 1) :: us).length = n + 1 := r1.length.symm.trans (congrArg Nat.succ l1)
  have e2 : ws.length = ks.length := rz.length.symm.trans l2
  refine wpAny_call (make_map (f := f) I.kIn M.makes M.init (beq_iff_eq.mp M.fn) (codeAny_mono (F.run _ X.stack _ _ ⟨Value.ref (s.heap.objs.size + 1) :: us, ks.zip ws⟩ (Value.ref (s.heap.objs.size + 1) :: us ++ perm js ws) _ _ E (hr.make C us (ks.zip ws))
    (I2.env0.make C us (ks.zip ws)) (hb.to _ (Value.ref (s.heap.objs.size + 1) :: us) ws I2.kIn e1 e2) r2 hq) fun r s' hq' => ?_))
  cases r with
  | error e => exact hx pins _ _ e s' I2 hq'
  | ok fl =>
    cases fl with
    | ret u =>
      obtain ⟨v, H', I3, rv, ev, q3⟩ := I2.after hq'
      subst ev
      exact ⟨rv, ⟨V.ref (s.heap.objs.size + 1), H', I3, rfl, q3⟩⟩
    | next => exact False.elim hq'
    | brk => exact False.elim hq'
    | cont => exact False.elim hq'
theorem p_makeKX0 (c : CalMK X.prog X.w X.K X.mg X.base x C j ps 0 ks js sp) (hr : Room k X.A) (tks : L2N.Takes X W) (hkw : PK X kws tk) (hj : j + 1 ≤ k := by decide) (hm : ks.length = q := by rfl) (hg : Gl X x := by rfl)
    (hall : (backToKw pos (keywordEach kws X.env)).all (·.1.isSome) = true := by rfl) (hks : (backToKw pos (keywordEach kws X.env)).filterMap (·.1) = ks := by rfl) (hdb : (x == ("__debug__" : Str)) = false := by decide)
    (hpl : ((backTo pos (starEach [] X.env)).any (·.1) || (backToKw pos (keywordEach kws X.env)).any (·.1.isNone)) = false := by rfl) :
    PE X (.Call (.Name x p) [] kws pos) (tMakeKW C 0 q js sp (WE W) tNil tk) := by
  obtain ⟨f, fd, F, gm, M, b⟩ := c.ex
  refine ⟨fun pins s σ H Q I h => ?_⟩
  refine wpAny_Call_Name_kw (ld_glob I hg gm ?_ hdb)
  refine PySem.W.callWith_KW0 (h₀ := X.base) I.ok.mod.kin M.kp hall (thn (hkw.run pos pins s σ H _ I h) fun ws s2 ⟨zs, H2, I2, rz, _, l2, q2⟩ => ⟨I2.kIn, ?_⟩) hpl
  rw [hks]
  exact run_makeKS (us := []) (vs := []) M F (hr.mono hj) b (L2N.passAt tks σ) I2 .nil rz rfl (l2.trans hm.symm) q2
theorem p_makeKX (c : CalMK X.prog X.w X.K X.mg X.base x C j ps n ks js sp) (hr : Room k X.A) (tks : L2N.Takes X W) (ha : PA X (e :: es) t) (hkw : PK X kws tk) (hj : j + 1 ≤ k := by decide) (hm : ks.length = q := by rfl) (hg : Gl X x := by rfl)
    (hall : (backToKw pos (keywordEach kws X.env)).all (·.1.isSome) = true := by rfl) (hks : (backToKw pos (keywordEach kws X.env)).filterMap (·.1) = ks := by rfl) (hdb : (x == ("__debug__" : Str)) = false := by decide)
    (he : starEach (e :: es) X.env = (false, eval e X.env) :: starEach es X.env := by rfl)
    (hpl : ((backTo pos (starEach (e :: es) X.env)).any (·.1) || (backToKw pos (keywordEach kws X.env)).any (·.1.isNone)) = false := by rfl) :
    PE X (.Call (.Name x p) (e :: es) kws pos) (tMakeKW C n q js sp (WE W) t tk) := by
  obtain ⟨f, fd, F, gm, M, b⟩ := c.ex
  refine ⟨fun pins s σ H Q I h => ?_⟩
  refine wpAny_Call_Name_kw (ld_glob I hg gm ?_ hdb)
  refine PySem.W.callWith_KW (h₀ := X.base) I.ok.mod.kin M.kp hall (thn (ha.run pos pins s σ H _ I h) fun us s1 ⟨vs, H1, I1, r, q⟩ => ?_) hpl he
  refine thn (hkw.run pos pins s1 σ H1 _ I1 q) fun ws s2 ⟨zs, H2, I2, rz, l1, l2, q2⟩ => ⟨I2.kIn, ?_⟩
  rw [hks]
  exact run_makeKS M F (hr.mono hj) b (L2N.passAt tks σ) I2 r rz l1 (l2.trans hm.symm) q2
end
section
variable {A : Ad} {E : EK} {ta : TE} {me : ME} {aa ak : TA} {am ap : MA}
def mMethKX (C : Addr) (m : Str) (n q : Nat) (js : List Nat) (N : Nat) (c : Ct) (me : ME) (am ap : MA) : ME := fun XA env k => me XA env fun d => (∃ ns ds, d = .obj C ns ds ∧ ns.contains m = false) ∧ am XA env fun ds => ap XA env fun es => ds.length = n ∧ es.length = q ∧ (d :: ds ++ perm js es).length = N ∧ c (d :: ds ++ perm js es) k XA
theorem re_methKX {C : Addr} {m : Str} {n q : Nat} {js : List Nat} {N : Nat} {c : Ct} (he : RE A E ta me) (ha : RA A E aa am) (hk : RA A E ak ap) : RE A E (tMethKW C m n q js (SpU A N c) E ta aa ak) (mMethKX C m n q js N c me am ap) := fun s H0 P σ H env XA k Q re x h q =>
  he s H0 P σ H env XA _ _ re x h fun P1 H1 v d e1 r1 ⟨⟨ns, ds0, g1, g2⟩, h1⟩ => by
    subst g1
    have r1' := r1
    simp only [Rp] at r1'
    obtain ⟨a, dx, vs0, rfl, a1, a2, a3⟩ := r1'
    refine ⟨a, dx, _, rfl, e1.wf.sub _ _ a1, lk_no g2, ha s H0 P1 σ H1 env XA _ _ (re.ext e1) (x.ext e1) h1 fun P2 H2 vs ds e2 r2 h2 => hk s H0 P2 σ H2 env XA _ _ (re.ext (e1.trans e2)) (x.ext (e1.trans e2)) h2 fun P3 H3 ws es e3 r3 ⟨l1, l2, l3, h3⟩ => ?_⟩
    have e13 := e1.trans (e2.trans e3)
    exact ⟨by rw [rps_len r2]; exact l1, by rw [rps_len r3]; exact l2, s, P3, .obj C ns ds0 :: ds ++ perm js es, k, XA, e3.wf, rps_app (rps_cons (rp_same (e2.sub.trans e3.sub) _ _ r1) (rps_same e3.sub _ _ r2)) (rps_perm r3 js), l3, h3, fun P' H' v d e4 r4 h4 => q P' H' v d (e13.trans e4) r4 h4, fun P' H' z C' d e4 h4 h5 => x P' H' z C' d (e13.trans e4) h4 h5⟩
end
/-! constants of the module -/
theorem re_kc {A : Ad} {E : EK} {a : Addr} : RE A E (tC (.ref a)) (mC (.kc a)) := re_c fun _ _ => by simp [Rp]
/-- the module's tuple at a -/
def KTup (K : PySem.W.Frag) (a : Addr) (vs : List V) : Prop := (∃ (o : Obj) (its : Array Value) (n : Nat), K.lookup a = some o ∧ o.cls = .type "tuple" ∧ o.data = .seq its n ∧ its.size ≤ sizeLine ∧ Vals vs its.toList) ∧ vs.length < 1000000
theorem KTup.sq {K : PySem.W.Frag} {a : Addr} {vs : List V} (h : KTup K a vs) {H : Hp} : SqT K H a vs := Or.inr h.1
def rLenK (K : PySem.W.Frag) : List V → Hp → VK → Prop := fun vs H Q => ∃ p xs, vs = [.ref p] ∧ (SqL K H p xs ∨ SqT K H p xs) ∧ Q (.int xs.length) H
theorem call_lenK {X : Cx} : CallR X (.builtin "len") (rLenK X.K) := fun pins s σ H vs us Q I r ⟨p, xs, e, h, q⟩ => call_len_seq pins s σ H vs us Q I r ⟨p, xs, e, h, q⟩
def oLenK (K : PySem.W.Frag) : List T → (T → Prop) → Prop := fun ds k => ∃ a vs, ds = [.kc a] ∧ KTup K a vs ∧ k (.int vs.length)
theorem rcb_lenK {K : PySem.W.Frag} : RCB (rLenK K) (oLenK K) := fun s P H vs ds k Q w h ⟨a, ws, g1, g2, h3⟩ q => by
  subst g1
  obtain ⟨v, rfl, h1⟩ := rps1 h
  simp only [Rp] at h1
  subst h1
  exact ⟨a, ws, rfl, Or.inr g2.sq, q P H _ _ (Ext.refl w) (by simp [Rp]) h3⟩
def oInK (K : PySem.W.Frag) (neg : Bool) : T → T → (T → Prop) → Prop := fun d e k => ∃ (z : Int) (a : Addr) (ns : List Int), d = .int z ∧ e = .kc a ∧ KTup K a (ns.map V.int) ∧ k (.bl (if neg = true then !ns.contains z else ns.contains z))
theorem ro_inK {K : PySem.W.Frag} {neg : Bool} : ROp (rIn K neg) (oInK K neg) := fun s P H x y d e k Q w h1 h2 ⟨z, a, ns, g1, g2, g3, h⟩ q => by
  subst g1 g2
  have := rp_int h1
  subst this
  simp only [Rp] at h2
  subst h2
  have fl : (ns.map V.int).all flatV = true := List.all_eq_true.mpr fun v hv => by
    obtain ⟨y, _, rfl⟩ := List.mem_map.mp hv
    rfl
  refine ⟨a, _, rfl, Or.inr g3.sq, rfl, fl, ?_⟩
  rw [inV_ints]
  exact q P H _ _ (Ext.refl w) (by simp [Rp]) h
/-! tuple(range(..)) -/
def mRgA1 (me : ME) : MA := fun XA env k => me XA env fun d => ∃ n : Int, d = .int n ∧ 0 ≤ n ∧ n < 1000000 ∧ k (rngT 0 n.toNat)
def mTupRg (me : ME) : ME := fun XA env k => me XA env fun d => ∃ n : Int, d = .int n ∧ 0 ≤ n ∧ n < 1000000 ∧ k (.tup (rngT 0 n.toNat))
theorem rps_rng {s : Option Addr} {P : Hp} {a : Int} {n : Nat} : Rps s P (rngT a n) ((List.range n).map fun i => V.int (a + (i : Nat))) := by
  unfold rngT
  refine rps_of (by rw [List.length_map, List.length_map]) fun i d v h1 h2 => ?_
  rw [List.getElem?_map] at h1 h2
  cases q : (List.range n)[i]? with
  | none => rw [q] at h1; cases h1
  | some j =>
    rw [q] at h1 h2
    cases h1
    cases h2
    simp [Rp]
theorem re_tupRg {A : Ad} {E : EK} {te : TE} {me : ME} (ha : RE A E te me) : RE A E (tTupRg (tRg1 te)) (mTupRg me) := fun s H0 P σ H env XA k Q re x h q =>
  ha s H0 P σ H env XA _ _ re x h fun P1 H1 v d e1 r1 ⟨n, g1, g2, g3, h1⟩ => by
    subst g1
    have := rp_int r1
    subst this
    refine ⟨n, rfl, ⟨by omega, by omega, by omega, by omega, by omega⟩, fun p hp => ?_⟩
    refine q _ _ _ _ (e1.trans (ext_new e1.wf hp)) ?_ h1
    simp only [Rp]
    refine ⟨p, _, rfl, upd_same, ?_, by rw [rngT_len]; omega⟩
    unfold rgV
    rw [Int.sub_zero]
    exact rps_rng
/-! for i in reversed(range(a, b)) -/
def mRevR2 (ma mb : ME) : MA := fun XA env k => ma XA env fun d => mb XA env fun e => ∃ i j : Int, d = .int i ∧ e = .int j ∧ (-1000000 < i ∧ i < 1000000) ∧ (-1000000 < j ∧ j < 1000000) ∧ (j - i) < 1000000 ∧ k (rngT i (j - i).toNat).reverse
theorem rng_rev_at {a : Int} {n i : Nat} {x : T} (h : (rngT a n).reverse[i]? = some x) : i < n ∧ x = .int (a + (n : Int) - 1 + (i : Int) * (-1)) := by
  have hl : i < (rngT a n).reverse.length := (List.getElem?_eq_some_iff.mp h).1
  rw [List.length_reverse, rngT_len] at hl
  rw [List.getElem?_reverse (by rw [rngT_len]; exact hl), rngT_len] at h
  obtain ⟨_, rfl⟩ := rng_at h
  refine ⟨hl, ?_⟩
  congr 1
  omega
end Mt
/-! ### reversed(range), tuple.index of ints, the module's tuples walked and listed, the module's dicts with int keys -/
namespace Mt
open PySem PySem.Spec PyProof.Rows L2 L2H
theorem ri_revR2 {A : Ad} {E : EK} {ta tb : TE} {ma mb : ME} (ha : RE A E ta ma) (hb : RE A E tb mb) : RI A E (iRevR (tRg2 ta tb)) (mRevR2 ma mb) := fun s H0 P σ H env XA k R re x h q =>
  ha s H0 P σ H env XA _ _ re x h fun P1 H1 v d e1 r1 h1 => hb s H0 P1 σ H1 env XA _ _ (re.ext e1) (x.ext e1) h1 fun P2 H2 u e e2 r2 ⟨i, j, g1, g2, b1, b2, b3, h2⟩ => by
    subst g1 g2
    have := rp_int (rp_same e2.sub _ _ r1)
    subst this
    have := rp_int r2
    subst this
    refine ⟨i, j, rfl, rfl, by omega, by omega, by omega, by omega, q P2 H2 _ _ (e1.trans e2) (fun P' H' sp w => ?_) (by rw [List.length_reverse, rngT_len]; omega) h2⟩
    refine ⟨fun m d hd => ?_, fun m hm => by rw [List.length_reverse, rngT_len] at hm; exact hm⟩
    obtain ⟨hm, rfl⟩ := rng_rev_at hd
    refine ⟨hm, fun x H'' hy => ?_⟩
    obtain ⟨rfl, rfl⟩ := hy
    exact ⟨P', Ext.refl w, by simp [Rp]⟩
/-- t.index(z), ints: the first place -/
def rTIdx (K : PySem.W.Frag) : V → List V → Hp → VK → Prop := fun x xs H Q => ∃ p, ∃ ys : List Int, ∃ z j, x = .ref p ∧ xs = [.int z] ∧ SqT K H p (ys.map V.int) ∧ ys[j]? = some z ∧ (∀ m, m < j → ys[m]? ≠ some z) ∧ Q (.int (j : Nat)) H
theorem flat_intsV (ys : List Int) : (ys.map V.int).all flatV = true := by
  rw [List.all_map]
  exact List.all_eq_true.mpr fun _ _ => rfl
theorem mt_tidx {X : Cx} : MtR X "tuple.index" (rTIdx X.K) := by
  intro pins s σ H x xs v us Q I rx rs h
  obtain ⟨p, ys, z, j, rfl, rfl, hq, hy, hno, q⟩ := h
  cases rx
  obtain ⟨u, rfl, t, rfl⟩ := vals1 rs
  obtain ⟨its, r, pl, hz⟩ := I.tuple hq
  obtain ⟨⟨cls, dd, dt, sl⟩, ho, hc, n, hd⟩ := pl
  simp only at hc hd
  subst hc
  subst hd
  have hl : its.toArray.size = ys.length := by rw [List.size_toArray, ← r.length, List.length_map]
  have hj : j < its.toArray.size := by rw [hl]; exact (List.getElem?_eq_some_iff.mp hy).1
  have at' : ∀ (m : Nat) (hm : m < its.toArray.size), ∃ y t', ys[m]? = some y ∧ its.toArray[m] = Value.int y t' := fun m hm => by
    have hm' : m < ys.length := by rw [← hl]; exact hm
    obtain ⟨w, hw, t', hw'⟩ := r.get (i := m) (x := .int ys[m]) (by simp [hm'])
    refine ⟨ys[m], t', List.getElem?_eq_getElem hm', ?_⟩
    have e := (List.getElem?_eq_some_iff.mp hw).2
    rw [← hw', ← e]
    simp
  refine call_meets PySem.F.slot_tuple_index ⟨_, ho, rfl⟩ PySem.F.entry_tuple_index (PySem.F.args_tuple_index_2 _ _) (TI.tuple_indexAt p its.toArray n dd sl (.int z t) (eqU (.int z)) j hj ?_ ?_)
    ⟨ho, fun w hw => mem_eqAt (x := .int z) ⟨t, rfl⟩ rfl r (flat_intsV ys) w (by simpa using hw), ⟨.int (j : Nat), H, I.tok _, ⟨_, rfl⟩, q⟩⟩
  · obtain ⟨y, t', h1, h2⟩ := at' j hj
    rw [hy] at h1
    cases h1
    rw [h2]
    show (z == z) = true
    exact beq_self_eq_true z
  · intro m hm hmj
    obtain ⟨y, t', h1, h2⟩ := at' m hm
    rw [h2]
    show (y == z) = false
    exact beq_eq_false_iff_ne.mpr fun e => hno m hmj (e ▸ h1)
/-- t.index(z) of a tuple that is held with its object -/
def tTIdx (K : PySem.W.Frag) (to : TE) (t : TA) : TE := fun σ H Q => to σ H fun x H1 => (∃ p o ys, x = .ref p ∧ H1 p = some (.frz o (.tup ys)) ∧ o.dict = none) ∧ t σ H1 fun xs H2 => rTIdx K x xs H2 Q
section
variable {X : Cx} {o e : Expr} {es : List Expr} {to : TE} {t : TA} {apos cpos : Pos}
theorem pe_tidx (ho : PE X o to) (ha : PA X (e :: es) t)
    (hbase : attributeBase o "index" X.env (eval o X.env) = eval o X.env := by rfl)
    (hfew : ((backTo cpos (starEach (e :: es) X.env)).all (fun x => !x.1) && (backToKw cpos (keywordEach [] X.env)).all (fun x => x.1.isSome)
      && decide ((e :: es).length + ([] : List Keyword).length + (if ([] : List Keyword).isEmpty then 0 else 1) < 30)) = true := by rfl)
    (hline : (apos.endLine == cpos.line) = true := by rfl) (hs : starEach (e :: es) X.env = (false, eval e X.env) :: starEach es X.env := by rfl) (hplain : (backTo cpos (starEach es X.env)).any (·.1) = false := by rfl) :
    PE X (.Call (.Attribute o "index" apos) (e :: es) [] cpos) (tTIdx X.K to t) := by
  refine ⟨fun pins s σ H Q I h => ?_⟩
  refine wpAny_Call_method_late hbase hfew hline rfl (thn (ho.run pins s σ H _ I h) fun v s1 ⟨x, H1, I1, r1, ⟨p, ob, ys, ex, hp, hd⟩, q1⟩ => ?_)
  subst ex
  cases r1
  obtain ⟨h3, _, its, _, o2, h4, h5, _⟩ := (show ObjOk X.prog X.w H1 s1.heap p (.frz ob (.tup ys)) from I1.hok p _ hp)
  rw [h3] at h4
  cases h4
  refine ⟨"tuple", "tuple.index", PySem.F.plainAttrs_tuple, PySem.F.slot_tuple_index, PySem.F.type_tuple_index, ⟨_, h3, h5⟩, fun a e => by cases e; exact ⟨_, h3, hd⟩, ?_⟩
  have hA := ha.run cpos pins s1 σ H1 _ I1 q1
  rw [hs] at hA ⊢
  refine Calls.callWith_builtin (by show (false || (backTo cpos (starEach es X.env)).any (·.1)) = false; rw [hplain] <;> rfl) (Calls.evalArgs_plain ?_)
  exact thn hA fun us s2 ⟨vs, H2, I2, r2, q2⟩ => mt_tidx pins s2 σ H2 (.ref p) vs _ us Q I2 rfl r2 q2
end
def mTIdx (ma mb : ME) : ME := fun XA env k => ma XA env fun d => ∃ ns : List Int, d = .fi ns ∧ mb XA env fun e => ∃ (z : Int) (j : Nat), e = .int z ∧ ns[j]? = some z ∧ (∀ m, m < j → ns[m]? ≠ some z) ∧ k (.int (j : Nat))
theorem re_tidx {A : Ad} {E : EK} {ta tb : TE} {ma mb : ME} {K : PySem.W.Frag} (ha : RE A E ta ma) (hb : RE A E tb mb) : RE A E (tTIdx K ta (tCons tb tNil)) (mTIdx ma mb) := fun s H0 P σ H env XA k Q re x h q =>
  ha s H0 P σ H env XA _ _ re x h fun P1 H1 v d e1 r1 ⟨ns, g1, h1⟩ => by
    subst g1
    simp only [Rp] at r1
    obtain ⟨a, o, rfl, a1, a2, a3⟩ := r1
    refine ⟨⟨a, o, _, rfl, e1.wf.sub _ _ a1, a2⟩, hb s H0 P1 σ H1 env XA _ _ (re.ext e1) (x.ext e1) h1 fun P2 H2 u e e2 r2 ⟨z, j, g2, g3, g4, h2⟩ => ?_⟩
    subst g2
    have := rp_int r2
    subst this
    exact ⟨a, ns, z, j, rfl, rfl, Or.inl (Or.inr ⟨o, e2.wf.sub _ _ (e2.sub _ _ a1)⟩), g3, g4, q P2 H2 _ _ (e1.trans e2) (by simp [Rp]) h2⟩
/-- tuple([..]) of ints, held with its object -/
def rTupF (K : PySem.W.Frag) : List V → Hp → VK → Prop := fun xs H Q => ∃ p ys, xs = [.ref p] ∧ SqL K H p ys ∧ ∀ l o, H l = none → o.dict = none → Q (.ref l) (upd H l (.frz o (.tup ys)))
theorem call_tupF {X : Cx} : CallR X (.type "tuple") (rTupF X.K) := by
  intro pins s σ H xs us Q I r h
  obtain ⟨p, ys, rfl, hq, q⟩ := h
  obtain ⟨u, rfl, rx⟩ := vals1 r
  cases rx
  obtain ⟨its, r', pl, hz⟩ := I.list hq
  have hlen := r'.length
  refine call_tuple_list pl.isList (fun h' kp => ?_) (by simp only [List.size_toArray] <;> omega)
  have I1 : L2.Inv X pins σ H { s with heap := h' } := I.kept (t' := s.toks) kp
  have I2 : L2.Inv X pins σ (upd H h'.objs.size (.frz { cls := .type "tuple", data := .seq its.toArray } (.tup ys))) { s with heap := h'.push { cls := .type "tuple", data := .seq its.toArray } } :=
    I1.laid (t' := s.toks) (fun b o e => Heap.get?_push_of_some _ e) (Nat.le_refl _) (show ObjOk X.prog X.w _ _ _ (.frz _ (.tup ys)) from ⟨Heap.get?_push_size _ rfl, hz, its, r', IsTup.new _ _⟩)
  exact ⟨.ref h'.objs.size, _, I2, rfl, q _ _ (I1.hok.fresh (Nat.le_refl _)) rfl⟩
def oTupF : List T → (T → Prop) → Prop := fun ds k => ∃ ns : List Int, ds = [.lst (ns.map T.int)] ∧ k (.fi ns)
theorem rcb_tupF {K : PySem.W.Frag} : RCB (rTupF K) oTupF := fun s P H vs ds k Q w h ⟨ns, g1, h3⟩ q => by
  subst g1
  obtain ⟨v, rfl, h1⟩ := rps1 h
  simp only [Rp] at h1
  obtain ⟨a, vs, rfl, a1, a2, a3⟩ := h1
  have ev := rps_intsE a2
  subst ev
  refine ⟨a, _, rfl, Or.inl (Or.inl (w.sub _ _ a1)), fun l o hl hd => ?_⟩
  refine q _ _ _ _ (ext_new w hl) ?_ h3
  simp only [Rp]
  exact ⟨l, o, rfl, upd_same, hd, by rw [List.length_map] at a3; exact a3⟩
theorem items_fi {ns : List Int} : itemsOf (.fi ns) = some (ns.map T.int) := rfl
/-! the module's tuples -/
def mEnumK (K : PySem.W.Frag) (am : MA) : MA := fun XA env k => am XA env fun ds => ∃ (a : Addr) (ns : List Int), ds = [.kc a] ∧ KTup K a (ns.map V.int) ∧ k (enumT (ns.map T.int))
theorem ri_enumK {A : Ad} {E : EK} {aa : TA} {am : MA} {K : PySem.W.Frag} (ha : RA A E aa am) : RI A E (iEnumT K aa) (mEnumK K am) := fun s H0 P σ H env XA k R re x h q =>
  ha s H0 P σ H env XA _ _ re x h fun P1 H1 vs ds e1 r1 ⟨a, ns, h1, kt, h3⟩ => by
    subst h1
    obtain ⟨v, rfl, g⟩ := rps1 r1
    simp only [Rp] at g
    subst g
    have hl := kt.2
    rw [List.length_map] at hl
    refine ⟨a, _, rfl, kt.sq, q P1 H1 _ _ e1 (fun P' H' sp w => ?_) (by unfold enumT; rw [List.length_mapIdx, List.length_map]; exact hl) h3⟩
    have sq : SqT K H' a (ns.map V.int) := kt.sq
    refine ⟨fun i d hd => ?_, fun i hi => ⟨_, sq, by unfold enumT at hi; rw [List.length_mapIdx, List.length_map] at hi; rw [List.length_map]; exact hi⟩⟩
    unfold enumT at hd
    rw [List.getElem?_mapIdx, List.getElem?_map] at hd
    cases hz : ns[i]? with
    | none => rw [hz] at hd; cases hd
    | some z =>
      rw [hz] at hd
      cases hd
      have hv : (ns.map V.int)[i]? = some (V.int z) := by rw [List.getElem?_map, hz]; rfl
      refine ⟨⟨_, _, sq, hv⟩, fun x H'' hy => ?_⟩
      obtain ⟨p, y, rfl, hp, rfl, hx⟩ := hy
      have := hx _ sq
      rw [hv] at this
      cases this
      refine ⟨_, ext_new (o := .tup [.int (i : Nat), .int z]) w hp, ?_⟩
      simp only [Rp]
      exact ⟨p, _, rfl, upd_same, rps_cons (by simp [Rp]) (rps_cons (by simp [Rp]) rps_nil), by show 2 < 1000000; decide⟩
def rListK (K : PySem.W.Frag) : List V → Hp → VK → Prop := fun vs H Q => ∃ p xs, vs = [.ref p] ∧ (SqL K H p xs ∨ SqT K H p xs) ∧ ∀ l, H l = none → Q (.ref l) (upd H l (.lst xs))
theorem call_listK {X : Cx} : CallR X (.type "list") (rListK X.K) := fun pins s σ H vs us Q I r ⟨p, xs, e, h, q⟩ => call_list_of pins s σ H vs us Q I r ⟨p, xs, e, h, q⟩
def mListK (K : PySem.W.Frag) (am : MA) : MA := fun XA env k => am XA env fun ds => ∃ (a : Addr) (ns : List Int), ds = [.kc a] ∧ KTup K a (ns.map V.int) ∧ k (ns.map T.int)
theorem row_listK {A : Ad} {E : EK} {aa : TA} {am : MA} {K : PySem.W.Frag} (ha : RA A E aa am) : ROw A E (tCB (rListK K) aa) (mListK K am) := fun s H0 P σ H env XA k Q re x h q =>
  ha s H0 P σ H env XA _ _ re x h fun P1 H1 vs ds e1 r1 ⟨a, ns, h1, kt, h3⟩ => by
    subst h1
    obtain ⟨v, rfl, g⟩ := rps1 r1
    simp only [Rp] at g
    subst g
    have hl := kt.2
    rw [List.length_map] at hl
    exact ⟨a, _, rfl, Or.inr kt.sq, fun l hl2 => q P1 H1 l _ _ e1 hl2 (rps_ints ns) (by rw [List.length_map]; exact hl) h3⟩
/-! the module's dicts with int keys -/
/-- a value of the module: an int, a constant -/
def tv : T → V
  | .int i => .int i
  | .kc a => .ref a
  | _ => .non
def tvOk : T → Bool
  | .int _ => true
  | .kc _ => true
  | _ => false
theorem rp_tv {s : Option Addr} {P : Hp} {d : T} (h : tvOk d = true) : Rp s P d (tv d) := by
  cases d <;> first | (simp [tvOk] at h; done) | simp [tv, Rp]
def IntEnts : List DictEntry → List (Int × T) → Prop
  | [], [] => True
  | e :: es, kv :: kvs => (e.hash = hashInt kv.1 ∧ (∃ t, e.key = .int kv.1 t) ∧ tvOk kv.2 = true ∧ RelV (tv kv.2) e.val) ∧ IntEnts es kvs
  | _, _ => False
structure KInt (K : PySem.W.Frag) (d : Addr) (kvs : List (Int × T)) : Prop where
  at_ : ∃ es n, K.lookup d = some ⟨.type "dict", none, .dict es n, #[]⟩ ∧ IntEnts es.toList kvs
  low : (d == sysModules) = false
  nd : (kvs.map (·.1)).Nodup
def lookK (kvs : List (Int × T)) (z : Int) : Option T := (kvs.find? fun kv => kv.1 = z).map (·.2)
theorem ents_ok {P : Program} {w : World} : ∀ {es : List DictEntry} {kvs : List (Int × T)}, IntEnts es kvs → ∃ vs : List (Int × Value), Pairs (intKind P w) es vs ∧ (∀ e ∈ es, ∃ k, (intKind P w).is k e.key = true ∧ e.hash = (intKind P w).hash k) ∧ vs.map (·.1) = kvs.map (·.1) ∧
    (∀ z, (lookK kvs z = none ∧ valueAt vs z = none) ∨ ∃ d u, lookK kvs z = some d ∧ valueAt vs z = some u ∧ tvOk d = true ∧ RelV (tv d) u)
  | [], [], _ => ⟨[], .nil, (fun e h => absurd h List.not_mem_nil), rfl, (fun z => Or.inl ⟨rfl, rfl⟩)⟩
  | [], _ :: _, h => False.elim h
  | _ :: _, [], h => False.elim h
  | e :: es, kv :: kvs, h => by
    obtain ⟨⟨h1, ⟨t, h2⟩, h3, h4⟩, h5⟩ := h
    obtain ⟨vs, g1, g2, g3, g4⟩ := ents_ok (P := P) (w := w) h5
    have ik : (intKind P w).is kv.1 e.key = true := by rw [h2]; exact intKind_is P w kv.1 t
    refine ⟨(kv.1, e.val) :: vs, .cons ik rfl g1, fun e' he => ?_, by rw [List.map_cons, List.map_cons, g3], fun z => ?_⟩
    · rcases List.mem_cons.mp he with rfl | he
      · exact ⟨kv.1, ik, h1⟩
      · exact g2 e' he
    · by_cases hz : kv.1 = z
      · refine Or.inr ⟨kv.2, e.val, ?_, ?_, h3, h4⟩
        · simp [lookK, hz]
        · simp [valueAt, hz]
      · have e1 : lookK (kv :: kvs) z = lookK kvs z := by simp [lookK, List.find?_cons, hz]
        have e2 : valueAt ((kv.1, e.val) :: vs) z = valueAt vs z := by simp [valueAt, List.find?_cons, hz]
        rw [e1, e2]
        exact g4 z
theorem KInt.dict {K : PySem.W.Frag} {d : Addr} {kvs : List (Int × T)} (x : KInt K d kvs) {P : Program} {w : World} {h : Heap} (hk : K.In h) : ∃ vs : List (Int × Value), h.DictOf (intKind P w) d vs ∧
    (∀ z, (lookK kvs z = none ∧ valueAt vs z = none) ∨ ∃ d u, lookK kvs z = some d ∧ valueAt vs z = some u ∧ tvOk d = true ∧ RelV (tv d) u) := by
  obtain ⟨es, n, h1, h2⟩ := x.at_
  obtain ⟨vs, g1, g2, g3, g4⟩ := ents_ok (P := P) (w := w) h2
  exact ⟨vs, ⟨_, es, n, hk _ _ h1, ⟨rfl, rfl, rfl⟩, rfl, (fun e he => g2 e (by simpa using he)), g1, by rw [g3]; exact x.nd⟩, g4⟩
/-- NAME.get(z, x) -/
def tKGet (K : PySem.W.Frag) (td ty tx : TE) : TE := fun σ H Q => td σ H fun u H1 => ∃ a kvs, u = .ref a ∧ KInt K a kvs ∧ ty σ H1 fun y H2 => ∃ z : Int, y = .int z ∧ tx σ H2 fun x H3 =>
  (lookK kvs z = none → Q x H3) ∧ ∀ d, lookK kvs z = some d → tvOk d = true → Q (tv d) H3
section
variable {X : Cx} {o e f : Expr} {td ty tx : TE} {apos cpos : Pos}
theorem pe_kget (ho : PE X o td) (he : PE X e ty) (hf : PE X f tx) (m : M2 X o "get" apos e f cpos := by exact ⟨rfl, rfl, rfl, rfl⟩) : PE X (.Call (.Attribute o "get" apos) [e, f] [] cpos) (tKGet X.K td ty tx) := by
  refine ⟨fun pins s σ H Q I h => ?_⟩
  refine wpAny_Call_method m.base m.few m.line PySem.F.plainAttrs_dict PySem.F.slot_dict_get PySem.F.type_dict_get (thn (ho.run pins s σ H _ I h) fun u s1 ⟨x, H1, I1, rx, a, kvs, ex, d, q1⟩ => ?_)
  subst ex
  obtain rfl : u = Value.ref a := rx
  obtain ⟨vs0, D0, _⟩ := d.dict (P := X.prog) (w := X.w) I1.kIn
  refine ⟨D0.typeIs, fun b e => by cases e; obtain ⟨ob, _, _, h1, h2, _⟩ := D0; exact ⟨ob, h1, h2.2.1⟩, ?_⟩
  rw [m.trees]
  refine Calls.callWith_builtin rfl (Calls.evalArgs_plain (Calls.spliced_cons (thn (he.run pins s1 σ H1 _ I1 q1) fun iv s2 ⟨y, H2, I2, ry, z, ey, q2⟩ =>
    Calls.spliced_cons (thn (hf.run pins s2 σ H2 _ I2 q2) fun fv s3 ⟨x, H3, I3, rz, qn, qs⟩ => Calls.spliced_nil ?_))))
  subst ey
  obtain ⟨t, rfl⟩ : ∃ t, iv = Value.int z t := ry
  obtain ⟨vs, D, L⟩ := d.dict (P := X.prog) (w := X.w) I3.kIn
  refine call_meetsIn PySem.F.slot_dict_get D.typeIs PySem.F.entry_dict_get (PySem.F.args_dict_get_3 _ _ _) (meets_dict_get_default (intKind X.prog X.w) a (intKind_is _ _ z t) d.low fv) ⟨_, D.mapOf, ?_⟩
  rcases L z with ⟨l1, l2⟩ | ⟨dd, u, l1, l2, l3, l4⟩
  · rw [l2]
    exact ⟨x, H3, I3.tok _, rz, qn l1⟩
  · rw [l2]
    exact ⟨_, H3, I3.tok _, l4, qs dd l1 l3⟩
end
def mKGet (K : PySem.W.Frag) (md my mx : ME) : ME := fun XA env k => md XA env fun d => ∃ a kvs, d = .kc a ∧ KInt K a kvs ∧ my XA env fun e => ∃ z : Int, e = .int z ∧ mx XA env fun x => k ((lookK kvs z).getD x)
theorem re_kget {A : Ad} {E : EK} {td ty tx : TE} {md my mx : ME} {K : PySem.W.Frag} (hd : RE A E td md) (hy : RE A E ty my) (hx : RE A E tx mx) : RE A E (tKGet K td ty tx) (mKGet K md my mx) := fun s H0 P σ H env XA k Q re x h q =>
  hd s H0 P σ H env XA _ _ re x h fun P1 H1 v d e1 r1 ⟨a, kvs, g1, g2, h1⟩ => by
    subst g1
    simp only [Rp] at r1
    subst r1
    refine ⟨a, kvs, rfl, g2, hy s H0 P1 σ H1 env XA _ _ (re.ext e1) (x.ext e1) h1 fun P2 H2 u e e2 r2 ⟨z, g3, h2⟩ => ?_⟩
    subst g3
    have := rp_int r2
    subst this
    refine ⟨z, rfl, hx s H0 P2 σ H2 env XA _ _ (re.ext (e1.trans e2)) (x.ext (e1.trans e2)) h2 fun P3 H3 w d e3 r3 h3 => ⟨fun l => ?_, fun d' l o => ?_⟩⟩
    · rw [l] at h3
      exact q P3 H3 _ _ (e1.trans (e2.trans e3)) r3 h3
    · rw [l] at h3
      exact q P3 H3 _ _ (e1.trans (e2.trans e3)) (rp_tv o) h3
end Mt
/-! ### making by names -/
namespace Mt
open PySem PySem.Spec PyProof.Rows L2 L2H
section
variable {A : Ad} {E : EK} {aa ak : TA} {am ap : MA}
def mMakeKX (n q : Nat) (js : List Nat) (N : Nat) (c : Ct) (am ap : MA) : ME := fun XA env k => am XA env fun ds => ap XA env fun es => ds.length = n ∧ es.length = q ∧ (ds ++ perm js es).length = N ∧ c (ds ++ perm js es) k XA
theorem re_makeKX {C : Addr} {n q : Nat} {js : List Nat} {N : Nat} {c : Ct} (ha : RA A E aa am) (hk : RA A E ak ap) : RE A E (tMakeKW C n q js (SpI A C N c) E aa ak) (mMakeKX n q js N c am ap) := fun s H0 P σ H env XA k Q re x h q =>
  ha s H0 P σ H env XA _ _ re x h fun P1 H1 vs ds e1 r1 h1 => hk s H0 P1 σ H1 env XA _ _ (re.ext e1) (x.ext e1) h1 fun P2 H2 ws es e2 r2 ⟨l1, l2, l3, h2⟩ => by
    refine ⟨by rw [rps_len r1]; exact l1, by rw [rps_len r2]; exact l2, fun y dx hy hdx ne => ?_⟩
    have e12 := e1.trans e2
    have a1 := ext_own (o := .own y) e12.wf hdx
    have hy1 : (upd H2 dx (.own y)) y = none := by
      rw [upd_ne (Ne.symm ne)]
      exact hy
    have a2 := ext_own (o := .ins C dx []) a1.wf hy1
    have e0 : del (upd (upd H2 dx (.own y)) y (.ins C dx [])) y = upd H2 dx (.own y) := by
      funext b
      unfold del
      by_cases z : b = y
      · rw [if_pos z, z, hy1]
      · rw [if_neg z, upd_ne z]
    refine ⟨y, dx, _, s, P2, ds ++ perm js es, k, XA, rfl, upd_same, e12.wf.sub.free hy, fun z => ?_, a2.wf, rps_app (rps_same e2.sub _ _ r1) (rps_perm r2 js), l3, h2, fun P' H' d e2 r2 h3 => ?_, fun P' H' z C d e2 h3 h4 => ?_⟩
    · obtain ⟨_, t, _, h3⟩ := e12.wf.sto y z
      rw [hy] at h3
      cases h3
    · rw [e0] at e2
      exact ⟨rfl, q P' H' _ d (e12.trans (a1.trans e2)) r2 h3⟩
    · rw [e0] at e2
      exact x P' H' z C d (e12.trans (a1.trans e2)) h3 h4
end
end Mt
/-! ### [x] * n, a list of one's own -/
namespace Mt
open PySem PySem.Spec PyProof.Rows L2 L2H
theorem call_tupFK {X : Cx} {K : PySem.W.Frag} (h : X.K = K := by rfl) : CallR X (.type "tuple") (rTupF K) := by
  subst h
  exact call_tupF
theorem call_lenKK {X : Cx} {K : PySem.W.Frag} (h : X.K = K := by rfl) : CallR X (.builtin "len") (rLenK K) := by
  subst h
  exact call_lenK
theorem call_listKK {X : Cx} {K : PySem.W.Frag} (h : X.K = K := by rfl) : CallR X (.type "list") (rListK K) := by
  subst h
  exact call_listK
theorem call_tupOfK {X : Cx} {K : PySem.W.Frag} (h : X.K = K := by rfl) : CallR X (.type "tuple") (rTupOf K) := by
  subst h
  exact call_tupOf
theorem pe_tidxK {X : Cx} {K : PySem.W.Frag} {o e : Expr} {es : List Expr} {to : TE} {t : TA} {apos cpos : Pos} (hK : X.K = K) (ho : PE X o to) (ha : PA X (e :: es) t)
    (hbase : attributeBase o "index" X.env (eval o X.env) = eval o X.env := by rfl)
    (hfew : ((backTo cpos (starEach (e :: es) X.env)).all (fun x => !x.1) && (backToKw cpos (keywordEach [] X.env)).all (fun x => x.1.isSome)
      && decide ((e :: es).length + ([] : List Keyword).length + (if ([] : List Keyword).isEmpty then 0 else 1) < 30)) = true := by rfl)
    (hline : (apos.endLine == cpos.line) = true := by rfl) (hs : starEach (e :: es) X.env = (false, eval e X.env) :: starEach es X.env := by rfl) (hplain : (backTo cpos (starEach es X.env)).any (·.1) = false := by rfl) :
    PE X (.Call (.Attribute o "index" apos) (e :: es) [] cpos) (tTIdx K to t) := by
  subst hK
  exact pe_tidx ho ha hbase hfew hline hs hplain
theorem pi_listKK {X : Cx} {K : PySem.W.Frag} {tg l : Expr} {tl : TE} (hK : X.K = K) (hl : PE X l tl) : PI X tg l (iList K tl) := by
  subst hK
  exact pi_list hl
theorem pi_tupKK {X : Cx} {K : PySem.W.Frag} {tg l : Expr} {tl : TE} (hK : X.K = K) (hl : PE X l tl) : PI X tg l (iTup K tl) := by
  subst hK
  exact pi_tup hl
theorem pi_zipKK {X : Cx} {K : PySem.W.Frag} {e e2 : Expr} {ta : TA} {p pos tpos : Pos} {elts : List Expr} {kk : Nat} (hK : X.K = K) (hg : Gl X "zip") (hm : X.mg "zip" = none) (ha : PA X [e, e2] ta)
    (hs : starEach [e, e2] X.env = (false, eval e X.env) :: starEach [e2] X.env := by rfl) (hpl : (backTo pos (starEach [e2] X.env)).any (·.1) = false := by rfl) :
    PI X (.Tuple elts kk tpos) (.Call (.Name "zip" p) [e, e2] [] pos) (iZip K ta) := by
  subst hK
  exact pi_zip hg hm ha hs hpl
theorem pe_fldKK {X : Cx} {K : PySem.W.Frag} {e : Expr} {ta : TE} {f : Str} {pos : Pos} (hK : X.K = K) (he : PE X e ta) (hb : attributeBase e f X.env (eval e X.env) = eval e X.env) : PE X (.Attribute e f pos) (tFld K ta f) := by
  subst hK
  exact pe_fld he hb
theorem lc_id {f : T → (Option T → Prop) → Prop} {xs : List T} {k : List T → Prop} (h : ∀ x r, x ∈ xs → r (some x) → f x r) (hk : k xs) : lcInv f xs k := by
  refine lc_pure some (fun i x r hx hr => h x r (List.mem_of_getElem? hx) hr) ?_
  rw [List.filterMap_some]
  exact hk
/-- with a last word on whether all items were let through -/
theorem lc_idA {f : T → (Option T → Prop) → Prop} {p : T → Bool} {xs : List T} {k : List T → Prop} (h : ∀ x r, x ∈ xs → (p x = true → r (some x)) → f x r) (hk : xs.all p = true → k xs) : lcInv f xs k := by
  refine ⟨fun i acc => acc = xs.take i ∧ (xs.take i).all p = true, ⟨by rw [List.take_zero], by rw [List.take_zero]; rfl⟩, fun i x acc hx ⟨e, ea⟩ => h x _ (List.mem_of_getElem? hx) fun hp => ?_, fun acc ⟨e, ea⟩ => ?_⟩
  · have hi : i < xs.length := (List.getElem?_eq_some_iff.mp hx).1
    have et : xs.take (i + 1) = xs.take i ++ [x] := by rw [List.take_add_one, hx]; rfl
    exact ⟨by rw [et, e], by rw [et, List.all_append, ea]; simp [hp]⟩
  · rw [List.take_length] at e ea
    rw [e]
    exact hk ea
theorem rps_rep1 {s : Option Addr} {P : Hp} {d : T} {v : V} (h : Rp s P d v) : ∀ n : Nat, Rps s P (List.replicate n d) (List.replicate n [v]).flatten
  | 0 => by simp [Rps]
  | n + 1 => by
    rw [List.replicate_succ, List.replicate_succ, List.flatten_cons]
    exact rps_cons h (rps_rep1 h n)
theorem flat_rep_len {α : Type} {v : α} : ∀ n : Nat, (List.replicate n [v]).flatten.length = n
  | 0 => rfl
  | n + 1 => by rw [List.replicate_succ, List.flatten_cons, List.length_append, flat_rep_len n, List.length_singleton, Nat.add_comm]
section
variable {A : Ad} {E : EK} {ta tb : TE} {ma mb : ME}
def oRepO (ma mb : ME) : MA := fun XA env k => ma XA env fun d => mb XA env fun e => ∃ (t : T) (i : Int), d = .lst [t] ∧ e = .int i ∧ -1000000 < i ∧ i < 1000000 ∧ k (List.replicate i.toNat t)
theorem row_rep (ha : RE A E ta ma) (hb : RE A E tb mb) : ROw A E (tOp rRep ta tb) (oRepO ma mb) := fun s H0 P σ H env XA k Q re x h q =>
  ha s H0 P σ H env XA _ _ re x h fun P1 H1 v d e1 r1 h1 => hb s H0 P1 σ H1 env XA _ _ (re.ext e1) (x.ext e1) h1 fun P2 H2 w e e2 r2 ⟨t, i, g1, g2, g3, g4, g5⟩ => by
    subst g1 g2
    have := rp_int r2
    subst this
    have r1 := rp_same e2.sub _ _ r1
    simp only [Rp] at r1
    obtain ⟨a, vs, rfl, a1, a2, a3⟩ := r1
    obtain ⟨u, rfl, a4⟩ := rps1 a2
    refine ⟨a, i, [u], rfl, rfl, e2.wf.sub _ _ a1, by omega, by omega, size_line (by rw [List.length_singleton, Nat.one_mul]; omega), fun p hp => ?_⟩
    exact q P2 H2 p _ _ (e1.trans e2) hp (rps_rep1 a4 i.toNat) (by rw [List.length_replicate]; omega) g5
end
end Mt
/-! ### raise C() of a class without an __init__ of its own -/
namespace Mt
open PySem PySem.Spec PyProof.Rows L2 L2H
theorem pmk_own0 {X : Cx} {C : Addr} {bmB : List Value} {B newId initId : String} {x : Str} {p pos : Pos} (F : ExcBaseFacts B newId initId bmB) (q : PySem.W.excIn X.K C bmB newId = true) (gC : X.mg x = some (.ref C)) (kC : PySem.W.keepIn X.K (.ref C) = true) (r : L2.Raises X (.ref C)) (hg : Gl X x)
    (hdb : (x == ("__debug__" : Str)) = false := by decide) : L2N.PMk X (.Call (.Name x p) [] [] pos) (fun _ H Q => Q (.ref C) none H) := by
  intro pins s σ H Q I h
  refine wpAny_Call_Name_kw (ld_glob I hg gC ?_ hdb)
  refine PySem.W.callWith_K0 (first := []) I.kIn kC ?_
  show wpAny _ _ (call (.ref C) []) _ _ _
  obtain ⟨bm, N, nm, qn, bs, hdct, sn, sub, ab, col, dd, k0, k1, k2, k3, k5, mN, hC, hN, hni, T⟩ := exc_obj I.kIn q
  refine wpAny_call_exc_subT F T hC hN hni (fun h' e hm => ?_) (by show 0 ≤ sizeLine; rw [sizeLine_eq]; omega)
  exact L2N.mk_of I hm r h (I.hok.gone hm.new)
def mRaise0 : MS := fun env M => M.xr env .ni
theorem rs_raise0 {A : Ad} {W : WX} {C : Addr} (hC : C = A.ni) : RS A (WE W) (fun _ σ H => (fun _ H Q => Q (.ref C) none H) σ H fun cls d H' => W cls d σ H') mRaise0 := fun s P0 H0 P σ H env D M e re l h => by
  have xc := l.xr P σ H env e (Same.refl _) re
  exact xc P H .ni _ _ (Ext.refl re.wf) h ⟨by rw [hC], rfl⟩
end Mt
/-! ### the suite's call where the error may bear nothing (no dict) -/
namespace Mt
open PySem PySem.Spec PyProof.Rows L2 L2H
structure ErrAt0 (p : Addr × Obj) (C : Addr) : Prop where
  zn : L2N.Zn (.ref C) none p.2
  fl : ∃ vs, p.2.data = .fields vs
theorem ErrAt0.inst {p : Addr × Obj} {C : Addr} (z : ErrAt0 p C) {h : Heap} (hg : h.get? p.1 = some p.2) : PySem.W.InstAt h p.1 p.2 C none := by
  obtain ⟨vs, hv⟩ := z.fl
  obtain ⟨p1, ob⟩ := p
  obtain ⟨oc, odd, da, sl⟩ := ob
  obtain ⟨z1, z2, _⟩ := z.zn
  dsimp only at z1 z2 hv hg
  subst z1 z2 hv
  exact ⟨hg, rfl, rfl, trivial⟩
def rIsE0 (K : PySem.W.Frag) (C a : Addr) : List V → Hp → VK → Prop := fun xs H Q => ∃ (c : V) (cv : Value) (b : Bool), xs = [.ref a, c] ∧ (∀ u, RelV c u → u = cv) ∧ PySem.W.kitOne K (.ref C) cv = some b ∧ Q (.bl b) H
theorem call_isE0 {X : Cx} {p : Addr × Obj} {C : Addr} (T : XcC X.K C) (z : ErrAt0 p C) (hp : p ∈ X.pn) : CallR X (.builtin "isinstance") (rIsE0 X.K C p.1) := by
  intro pins s σ H xs us Q I r h
  obtain ⟨c, cv, b, rfl, hcv, e, q⟩ := h
  obtain ⟨u1, u2, rfl, r1, r2⟩ := vals2 r
  cases (show u1 = Value.ref p.1 from r1)
  have ec := hcv _ r2
  subst ec
  exact PySem.W.kia_one (PySem.W.kitx_exc (od := none) T.ic T.ga T.gg T.exC T.ca T.cn T.ct T.cm) I.kIn (z.inst (I.pin p (List.mem_append_left _ hp)).1) e (fun y => nomatch y) fun tk => ⟨.bl b, H, I.tok tk, rfl, q⟩
theorem w_isE0 {K : PySem.W.Frag} {C a c : Addr} {H : Hp} {Q : VK} : rIsE0 K C a [.ref a, .ref c] H Q = ∃ b, PySem.W.kitOne K (.ref C) (.ref c) = some b ∧ Q (.bl b) H := by
  refine propext ⟨fun ⟨c', cv, b, e1, e2, e3, q⟩ => ?_, fun ⟨b, e, q⟩ => ⟨.ref c, .ref c, b, rfl, fun u h => h, e, q⟩⟩
  cases e1
  have := e2 (.ref c) rfl
  subst this
  exact ⟨b, e3, q⟩
theorem w_isEt0 {K : PySem.W.Frag} {C a : Addr} {n : String} {H : Hp} {Q : VK} : rIsE0 K C a [.ref a, .ty n] H Q = ∃ b, PySem.W.kitOne K (.ref C) (.type n) = some b ∧ Q (.bl b) H := by
  refine propext ⟨fun ⟨c', cv, b, e1, e2, e3, q⟩ => ?_, fun ⟨b, e, q⟩ => ⟨.ty n, .type n, b, rfl, fun u h => h, e, q⟩⟩
  cases e1
  have := e2 (.type n) rfl
  subst this
  exact ⟨b, e3, q⟩
/-- what stands at p: an error, with its dict or without one -/
def ErrG (p : Addr × Obj) (C : Addr) (d : Option Addr) : Prop := (∃ dd, d = some dd ∧ ErrAt p C dd) ∨ (d = none ∧ ErrAt0 p C)
def tCallG (a : Addr) (cls : Value) (d : Option Addr) (sp : Addr × Obj → Sp) (t : TA) : TE := fun σ H Q => ∃ C, cls = .ref C ∧ t σ H fun vs H1 => ∀ oe, ErrG (a, oe) C d → sp (a, oe) vs H1 Q E0
theorem p_callG {X : Cx} {a : Addr} {oe : Obj} {cls : Value} {d : Option Addr} {pn : List (Addr × Obj)} {x : Str} {j k : Nat} {ps : List Str} {sp : Addr × Obj → Sp} {e : Expr} {es : List Expr} {t : TA} {q pos : Pos} (C : CalE X.prog X.w X.K X.mg X.base x j ps sp) (hr : Room k X.A)
    (hz : L2N.Zn cls d oe) (hf : ∃ vs, oe.data = .fields vs) (ha : PA (X.suite a ((a, oe) :: pn)) (e :: es) t) (hj : j ≤ k := by decide) (hg : Gl (X.suite a ((a, oe) :: pn)) x := by rfl)
    (hdb : (x == ("__debug__" : Str)) = false := by decide) (he : starEach (e :: es) X.env = (false, eval e X.env) :: starEach es X.env := by rfl) (hpl : (backTo pos (starEach es X.env)).any (·.1) = false := by rfl) :
    PE (X.suite a ((a, oe) :: pn)) (.Call (.Name x q) (e :: es) [] pos) (tCallG a cls d sp t) := by
  obtain ⟨vs, hv⟩ := hf
  refine ⟨fun pins s σ H Q I h => ?_⟩
  obtain ⟨C', rfl, h⟩ := h
  have hE : ErrG (a, oe) C' d := by
    cases d with
    | none => exact Or.inr ⟨rfl, hz, vs, hv⟩
    | some dd => exact Or.inl ⟨dd, rfl, hz, vs, hv⟩
  obtain ⟨f, fd, F, gm, kp, b⟩ := C.ex
  have hot : Hot1 (X.suite a ((a, oe) :: pn)).A (a, oe) := ⟨rfl, vs, hv, hz.2.2 vs hv⟩
  have hp : (a, oe) ∈ (X.suite a ((a, oe) :: pn)).pn := List.mem_cons_self ..
  refine wpAny_Call_Name_kw (ld_glob I hg gm (PySem.W.callWith_K (h₀ := X.base) I.ok.mod.kin kp (thn (ha.run pos pins s σ H _ I h) fun us s1 ⟨ws, H1, I1, r, hq⟩ => ⟨I1.kIn, ?_⟩) he hpl) hdb)
  have hq := hq oe hE
  have hl : us.length = ps.length := by
    rw [← r.length]
    exact F.len _ _ _ _ _ hq
  have b1 := b s1 us I1.kIn (by rw [List.append_nil]; exact hl)
  rw [List.append_nil] at b1
  have P1 := I1.pin (a, oe) (List.mem_append_left _ hp)
  have pin : PinOk (X.suite a ((a, oe) :: pn)).stack H1 s1 (a, oe) := ⟨P1.1, P1.2.1, fun hm => (List.mem_cons.mp (I1.stkSub a hm)).elim P1.2.2.1 P1.2.2.2.1, P1.2.2.2.2⟩
  refine wpAny_call (codeAny_mono (F.run (a, oe) (X.suite a ((a, oe) :: pn)).A (X.suite a ((a, oe) :: pn)).stack s1 H1 ⟨us, []⟩ us ws Q E0 ⟨(hr.mono hj).dp, (hr.mono hj).un⟩ hot pin I1.env0 b1 r hq) fun r' s' hr' => ?_)
  cases r' with
  | error e => exact False.elim hr'
  | ok fl =>
    cases fl with
    | ret u => exact I1.after hr'
    | _ => exact False.elim hr'
/-- _law_kind's promise: errors that bear an argument, and NoInverse -/
def SpG (A : Ad) (al : Ec → Bool) (p : Addr × Obj) : Sp := fun vs H Q E => SpK A al p vs H Q E ∨ (vs = [.ref p.1] ∧ ErrAt0 p A.ni ∧ ∀ t H', Same H H' → H t = none → H' t = some (.tup [.str "NoInverse", .non]) → Q (.ref t) H')
def mKindG (al : Ec → Bool) (x : Ex) : MS := fun _ M => (∃ c pl, x = .arg c pl ∧ al c = true ∧ c.attr = "argument" ∧ M.rt (.tup [.str (exName x), pl])) ∨ (x = .ni ∧ M.rt (.tup [.str "NoInverse", .non]))
/-- a new pair is data -/
theorem ext_pair {s : Option Addr} {P H H' : Hp} {t : Addr} {o : HO} (w : WF s P H) (sm : Same H H') (ht : H t = none) (et : H' t = some o) : Ext s P H (upd P t o) H' := by
  have tP : P t = none := w.sub.free ht
  have sP : Same P (upd P t o) := same_new tP
  have ts : ∀ b, s = some b → b ≠ t := fun b hb z => by
    obtain ⟨_, u, _, h3⟩ := w.sto b hb
    rw [z, ht] at h3
    cases h3
  refine ⟨⟨fun b o g => ?_, fun b hb => ?_⟩, sP, fun b o _ g => sm _ _ g, fun b hb g => ?_, fun a t t' _ h g => st_inj (sm _ _ h) g⟩
  · by_cases z : b = t
    · rw [z, upd_same] at g
      rw [z, ← g]
      exact et
    · rw [upd_ne z] at g
      exact sm _ _ (w.sub _ _ g)
  · obtain ⟨g1, u, g2, g3⟩ := w.sto b hb
    exact ⟨by rw [upd_ne (ts b hb)]; exact g1, u, stok_same sP g2, sm _ _ g3⟩
  · by_cases z : b = t
    · rw [z]
      exact ht
    · rw [upd_ne z] at g
      exact absurd hb g
theorem rh_kindG {A : Ad} {E : EK} {al : Ec → Bool} {i : Nat} : RH A E i (fun a cls d => tRet (tCallG a cls d (SpG A al) (tCons (tVar i) tNil))) (mKindG al) := fun a cls d x s P0 H0 P σ H env D M hi ha hx e re l h => by
  have w := re.wf
  rcases h with ⟨c, pl, hx2, hal, hat, h⟩ | ⟨hx2, h⟩
  · subst hx2
    obtain ⟨rfl, dd, v, rfl, hd, hr⟩ := hx
    refine ⟨_, rfl, .ref a, hi, fun oe he => Or.inl ?_⟩
    rcases he with ⟨d', e1, he⟩ | ⟨e1, _⟩
    · cases e1
      refine ⟨c, dd, v, rfl, hal, hat, he, by rw [hat] at hd; exact hd, fun t H' sm ht et => ?_⟩
      have e2 := ext_pair w sm ht et
      refine l.rt _ H' (.ref t) _ (e.trans e2) e2.sub ?_ h
      simp only [Rp]
      exact ⟨t, _, rfl, upd_same, rps_cons (by simp only [Rp]; rw [exName_pl]) (rps_cons (rp_same e2.sub _ _ hr) rps_nil), by show 2 < 1000000; decide⟩
    · cases e1
  · subst hx2
    obtain ⟨rfl, rfl⟩ := hx
    refine ⟨_, rfl, .ref a, hi, fun oe he => Or.inr ?_⟩
    rcases he with ⟨d', e1, _⟩ | ⟨_, he⟩
    · cases e1
    · refine ⟨rfl, he, fun t H' sm ht et => ?_⟩
      have e2 := ext_pair w sm ht et
      refine l.rt _ H' (.ref t) _ (e.trans e2) e2.sub ?_ h
      simp only [Rp]
      exact ⟨t, _, rfl, upd_same, rps_cons (by simp [Rp]) (rps_cons (by simp [Rp]) rps_nil), by show 2 < 1000000; decide⟩
end Mt
/-! ### NoInverse: its raise, its kind -/
namespace Mt
open PySem PySem.Spec PyProof.Rows L2 L2H
theorem FnE.or {P : Program} {w : World} {K : PySem.W.Frag} {mg : Str → Option Value} {base : Heap} {k : Nat} {f : Addr} {fd : FuncData} {ps : List Str} {sp sp' : Addr × Obj → Sp} (F : FnE P w K mg base k f fd ps sp) (G : FnE P w K mg base k f fd ps sp') : FnE P w K mg base k f fd ps (fun p vs H Q E => sp p vs H Q E ∨ sp' p vs H Q E) :=
  ⟨fun p vs H Q E g => g.elim (F.len p vs H Q E) (G.len p vs H Q E), fun p A outer s H args us vs Q E a b c d e f g => g.elim (F.run p A outer s H args us vs Q E a b c d e f) (G.run p A outer s H args us vs Q E a b c d e f)⟩
/-- a class whose errors bear nothing -/
structure ErrK0 (K : PySem.W.Frag) (mg : Str → Option Value) (x : Str) (C : Addr) : Prop where
  gC : mg x = some (.ref C)
  ex : PySem.W.excIn K C [.type "ValueError", .type "Exception", .type "BaseException", .type "object"] "ValueError.__new__" = true
  kC : PySem.W.keepIn K (.ref C) = true
  sub : PySem.W.subIn K (.ref C) (.type "BaseException") = some true
  ty : PySem.W.typeIn K (.ref C) = some (.type "type")
theorem p_err0 {X : Cx} {C : Addr} {x : Str} {p pos : Pos} (E : ErrK0 X.K X.mg x C) (hg : Gl X x := by rfl) (hdb : (x == ("__debug__" : Str)) = false := by decide) : L2N.PMk X (.Call (.Name x p) [] [] pos) (fun _ H Q => Q (.ref C) none H) :=
  pmk_own0 PySem.F.excBase_ValueError E.ex E.gC E.kC (raises_own E.sub E.ty) hg hdb
/-- what isinstance says of NoInverse -/
structure KNi (K : PySem.W.Frag) (A : Ad) : Prop where
  xc : XcC K A.ni
  bn : PySem.W.kitOne K (.ref A.ni) (.ref A.bn) = some false
  bs : PySem.W.kitOne K (.ref A.ni) (.ref A.bs) = some false
  be : PySem.W.kitOne K (.ref A.ni) (.ref A.be) = some false
  bt : PySem.W.kitOne K (.ref A.ni) (.ref A.bt) = some false
  tl : PySem.W.kitOne K (.ref A.ni) (.ref A.tl) = some false
  cl : PySem.W.kitOne K (.ref A.ni) (.ref A.cl) = some false
  ni : PySem.W.kitOne K (.ref A.ni) (.ref A.ni) = some true
  nm : PySem.W.kitOne K (.ref A.ni) (.ref A.nm) = some false
  en : PySem.W.kitOne K (.ref A.ni) (.ref A.en) = some false
  me : PySem.W.kitOne K (.ref A.ni) (.ref A.me) = some true
  ve : PySem.W.kitOne K (.ref A.ni) (.type "ValueError") = some true
theorem rip_int {g : Int → Int → Int} : RIp (ipI g) (oI g) := fun s P H x y d e k Q w h1 h2 ⟨i, j, g1, g2, h⟩ q => by
  subst g1 g2
  exact ⟨i, j, rp_int h1, rp_int h2, q P H _ _ (Ext.refl w) (by simp [Rp]) h⟩
end Mt
/-! ### methods that may raise, where they don't; list.index of ints; min of a list of ints -/
namespace Mt
open PySem PySem.Spec PyProof.Rows L2 L2H
section
variable {P : Program} {w : World} {K : PySem.W.Frag} {mg : Str → Option Value} {base : Heap} {A : Ad} {n k : Nat} {c : Ct} {C f : Addr} {fd : FuncData} {ps : List Str} {m : Str} {CX : CXT}
theorem spu_calmE {vs : List V} {H : Hp} {Q : VK} {E : XK} (h : SpU A n (cCalm c) vs H Q E) : SpU A n c vs H Q E := by
  obtain ⟨s, P, ds, kk, EA, h1, h2, h3, h4, h5, _⟩ := h
  exact ⟨s, P, ds, kk, fun _ => False, h1, h2, h3, h4, h5, fun _ _ _ _ _ _ z => z.elim⟩
theorem fnok_calmE (F : FnOk P w K mg base CX k f fd ps (SpU A n c)) : FnOk P w K mg base CX k f fd ps (SpU A n (cCalm c)) :=
  ⟨fun vs H Q E h => F.len vs H Q E (spu_calmE h), fun Ar outer s H args us vs Q E a b d e h => F.run Ar outer s H args us vs Q E a b d e (spu_calmE h)⟩
theorem CalO.calm0 (c0 : CalO P w K mg base C m k ps (SpU A n c)) : CalO P w K mg base C m k ps (SpU A n (cCalm c)) := by
  obtain ⟨f, fd, F, h⟩ := c0.ex
  exact ⟨f, fd, fnok_calmE F, h⟩
theorem CalX.calm0 {x : Str} (c0 : CalX P w K mg base x k ps (SpU A n c)) : CalX P w K mg base x k ps (SpU A n (cCalm c)) := by
  obtain ⟨f, fd, F, h⟩ := c0.ex
  exact ⟨f, fd, fnok_calmE F, h⟩
end
section
variable {A : Ad} {E : EK} {ta tb : TE} {ma mb : ME} {K : PySem.W.Frag}
def oMinL : List T → (T → Prop) → Prop := fun ds k => ∃ ns : List Int, ds = [.lst (ns.map T.int)] ∧ 0 < ns.length ∧ ∀ m, m ∈ ns → (∀ y, y ∈ ns → m ≤ y) → k (.int m)
theorem rcb_minL : RCB (rMin K) oMinL := fun s P H vs ds k Q w h ⟨ns, g1, g2, h3⟩ q => by
  subst g1
  obtain ⟨a, us, rfl, a1, a2⟩ := rps_lst1 (K := K) w h
  have e := rps_intsE a2
  subst e
  exact ⟨a, ns, rfl, a1, g2, fun m hm hy => q P H _ _ (Ext.refl w) (by simp [Rp]) (h3 m hm hy)⟩
def mLidx (ma mb : ME) : ME := fun XA env k => ma XA env fun d => ∃ ns : List Int, d = .lst (ns.map T.int) ∧ mb XA env fun e => ∃ (i : Int) (j : Nat), e = .int i ∧ ns[j]? = some i ∧ (∀ m, m < j → ns[m]? ≠ some i) ∧ k (.int (j : Nat))
theorem re_lidx (ha : RE A E ta ma) (hb : RE A E tb mb) : RE A E (tBM K "list" (rIndex K) ta (tCons tb tNil)) (mLidx ma mb) := fun s H0 P σ H env XA k Q re x h q =>
  ha s H0 P σ H env XA _ _ re x h fun P1 H1 v d e1 r1 ⟨ns, g1, h1⟩ => by
    subst g1
    simp only [Rp] at r1
    obtain ⟨a, vs, rfl, a1, a2, a3⟩ := r1
    have ev := rps_intsE a2
    subst ev
    refine ⟨by rw [w_tyL (e1.wf.sub _ _ a1)]; trivial, hb s H0 P1 σ H1 env XA _ _ (re.ext e1) (x.ext e1) h1 fun P2 H2 w e e2 r2 ⟨i, j, g2, g3, g4, h2⟩ => ?_⟩
    subst g2
    refine ⟨a, ns.map V.int, .int i, j, .int i, rfl, by rw [rp_int r2], sql_of (e2.wf.sub _ _ (e2.sub _ _ a1)), rfl, flat_intsV ns, by rw [List.getElem?_map, g3]; rfl, by show (i == i) = true; exact beq_self_eq_true i, fun m z' hm hz => ?_, q P2 H2 _ _ (e1.trans e2) (by simp [Rp]) h2⟩
    rw [List.getElem?_map] at hz
    cases hy : ns[m]? with
    | none => rw [hy] at hz; cases hz
    | some y =>
      rw [hy] at hz
      cases hz
      show (y == i) = false
      exact beq_eq_false_iff_ne.mpr fun e => g4 m hm (e ▸ hy)
/-! list(range(..)) -/
def mRgO1 (me : ME) : MA := fun XA env k => me XA env fun d => ∃ n : Int, d = .int n ∧ n < 1000000 ∧ -1000000 < n ∧ k (rngT 0 n.toNat)
def mRgO2 (ma mb : ME) : MA := fun XA env k => ma XA env fun d => mb XA env fun e => ∃ i j : Int, d = .int i ∧ e = .int j ∧ (-1000000 < i ∧ i < 1000000) ∧ (-1000000 < j ∧ j < 1000000) ∧ (j - i) < 1000000 ∧ k (rngT i (j - i).toNat)
theorem row_lstRg1 (ha : RE A E ta ma) : ROw A E (tLstRg (tRg1 ta)) (mRgO1 ma) := fun s H0 P σ H env XA k Q re x h q =>
  ha s H0 P σ H env XA _ _ re x h fun P1 H1 v d e1 r1 ⟨n, g1, g2, g3, h1⟩ => by
    subst g1
    have := rp_int r1
    subst this
    refine ⟨n, rfl, ⟨by omega, by omega, by omega, by omega, by omega⟩, fun p hp => ?_⟩
    refine q P1 H1 p _ _ e1 hp ?_ (by rw [rngT_len]; omega) h1
    unfold rgV
    rw [Int.sub_zero]
    exact rps_rng
theorem row_lstRg2 (ha : RE A E ta ma) (hb : RE A E tb mb) : ROw A E (tLstRg (tRg2 ta tb)) (mRgO2 ma mb) := fun s H0 P σ H env XA k Q re x h q =>
  ha s H0 P σ H env XA _ _ re x h fun P1 H1 v d e1 r1 h1 => hb s H0 P1 σ H1 env XA _ _ (re.ext e1) (x.ext e1) h1 fun P2 H2 u e e2 r2 ⟨i, j, g1, g2, b1, b2, b3, h2⟩ => by
    subst g1 g2
    have := rp_int (rp_same e2.sub _ _ r1)
    subst this
    have := rp_int r2
    subst this
    refine ⟨i, j, rfl, rfl, ⟨by omega, by omega, by omega, by omega, by omega⟩, fun p hp => ?_⟩
    exact q P2 H2 p _ _ (e1.trans e2) hp rps_rng (by rw [rngT_len]; omega) h2
end
theorem pe_lidxK {X : Cx} {K : PySem.W.Frag} {o e : Expr} {es : List Expr} {to : TE} {t : TA} {apos cpos : Pos} (hK : X.K = K) (ho : PE X o to) (ha : PA X (e :: es) t)
    (hbase : attributeBase o "index" X.env (eval o X.env) = eval o X.env := by rfl)
    (hfew : ((backTo cpos (starEach (e :: es) X.env)).all (fun x => !x.1) && (backToKw cpos (keywordEach [] X.env)).all (fun x => x.1.isSome)
      && decide ((e :: es).length + ([] : List Keyword).length + (if ([] : List Keyword).isEmpty then 0 else 1) < 30)) = true := by rfl)
    (hline : (apos.endLine == cpos.line) = true := by rfl) (hs : starEach (e :: es) X.env = (false, eval e X.env) :: starEach es X.env := by rfl) (hplain : (backTo cpos (starEach es X.env)).any (·.1) = false := by rfl) :
    PE X (.Call (.Attribute o "index" apos) (e :: es) [] cpos) (tBM K "list" (rIndex K) to t) := by
  subst hK
  exact pe_bm PySem.F.plainAttrs_list PySem.F.slot_list_index PySem.F.type_list_index mt_index ho ha hbase hfew hline hs hplain
end Mt
namespace Mt
open PySem PySem.Spec PyProof.Rows L2 L2H
theorem eqTs_ints {n : Nat} : ∀ ns : List Int, eqTs n (ns.map T.int) = true
  | [] => by simp [eqTs]
  | z :: ns => by
    rw [List.map_cons, eqTs, eqTs_ints ns]
    cases n <;> rfl
theorem eqT_ints (ns : List Int) : eqT 1 (.lst (ns.map T.int)) = true := by
  rw [eqT]
  exact eqTs_ints ns
theorem sameTs_ints : ∀ a b : List Int, sameTs (a.map T.int) (b.map T.int) = decide (a = b)
  | [], [] => rfl
  | [], y :: b => by simp [sameTs]
  | x :: a, [] => by simp [sameTs]
  | x :: a, y :: b => by
    rw [List.map_cons, List.map_cons, sameTs, sameTs_ints a b, sameT]
    by_cases h : x = y
    · subst h
      by_cases g : a = b
      · subst g
        simp
      · simp [g]
    · simp [h]
theorem sameT_ints {a b : List Int} : sameT (.lst (a.map T.int)) (.lst (b.map T.int)) = decide (a = b) := by rw [sameT, sameTs_ints]
theorem oEqD_ints {a b : List Int} {k : T → Prop} (hk : k (.bl (decide (a = b)))) : oEqD (.lst (a.map T.int)) (.lst (b.map T.int)) k := oEqD_same (eqT_ints a) (eqT_ints b) (by rw [sameT_ints]; exact hk)
theorem oNeD_ints {a b : List Int} {k : T → Prop} (hk : k (.bl (!decide (a = b)))) : oNeD (.lst (a.map T.int)) (.lst (b.map T.int)) k := oNeD_same (eqT_ints a) (eqT_ints b) (by rw [sameT_ints]; exact hk)
theorem sorted_uniq : ∀ {a b : List Int}, a.Perm b → a.Pairwise (· ≤ ·) → b.Pairwise (· ≤ ·) → a = b
  | [], b, h, _, _ => by rw [List.Perm.nil_eq h]
  | x :: a, [], h, _, _ => absurd h.symm (List.not_perm_nil_cons _ _)
  | x :: a, y :: b, h, ha, hb => by
    have hx : x ∈ y :: b := h.subset (List.mem_cons_self ..)
    have hy : y ∈ x :: a := h.symm.subset (List.mem_cons_self ..)
    have e : x = y := by
      rcases List.mem_cons.mp hx with e | hx
      · exact e
      · rcases List.mem_cons.mp hy with e | hy
        · exact e.symm
        · have h1 := (List.pairwise_cons.mp ha).1 y hy
          have h2 := (List.pairwise_cons.mp hb).1 x hx
          omega
    subst e
    rw [sorted_uniq (List.Perm.cons_inv h) (List.pairwise_cons.mp ha).2 (List.pairwise_cons.mp hb).2]
end Mt
/-! ### methods and calls by names that give trees; a part of a tree moved to a slot of its own; tests that change a tree -/
namespace Mt
open PySem PySem.Spec PyProof.Rows L2 L2H
section
variable {P : Program} {w : World} {K : PySem.W.Frag} {mg : Str → Option Value} {base : Heap} {A : Ad} {m n k : Nat} {c : CtF} {ps ks : List Str} {js : List Nat} {x : Str} {C : Addr}
theorem CalO.data (c0 : CalO P w K mg base C x k ps (SpF A n c)) : CalO P w K mg base C x k ps (SpU A n (cData c)) := by
  obtain ⟨f, fd, F, h⟩ := c0.ex
  exact ⟨f, fd, F.imp fun _ _ _ _ h => spf_data h, h⟩
theorem CalOK.data (c0 : CalOK P w K mg base C x k ps m ks js (SpF A n c)) : CalOK P w K mg base C x k ps m ks js (SpU A n (cData c)) := by
  obtain ⟨f, fd, F, h⟩ := c0.ex
  exact ⟨f, fd, F.imp fun _ _ _ _ h => spf_data h, h⟩
end
section
variable {A : Ad} {E : EK} {te ta tb tc tk : TE} {me ma mb mc : ME} {t u : TT} {mt mu : MT} {aa ar ak : TA} {am ap : MA} {K : PySem.W.Frag} {mo : MOt}
def mMethFX (C : Addr) (m : Str) (n : Nat) (c : CtF) (me : ME) (am : MA) : MOt := fun XA env k => me XA env fun d => (∃ ns ds, d = .obj C ns ds ∧ ns.contains m = false) ∧ am XA env fun ds => ds.length + 1 = n ∧ c (d :: ds) k XA
theorem rot_methX {C : Addr} {m : Str} {n : Nat} {c : CtF} (ha : RE A E te me) (hs : RA A E aa am) : ROt A E (tMethW C m (SpF A n c) E te aa) (mMethFX C m n c me am) := fun s H0 P σ H env XA k Q re x h q =>
  ha s H0 P σ H env XA _ _ re x h fun P1 H1 v d e1 r1 ⟨⟨ns, ds, g1, g2⟩, h1⟩ => by
    have r2 := r1
    subst g1
    simp only [Rp] at r1
    obtain ⟨a, dx, vs, rfl, r3, _⟩ := r1
    refine ⟨a, dx, _, rfl, e1.wf.sub _ _ r3, lk_no g2, hs s H0 P1 σ H1 env XA _ _ (re.ext e1) (x.ext e1) h1 fun P2 H2 ws es e2 r5 ⟨h2, h3⟩ => ?_⟩
    have e12 := e1.trans e2
    exact ⟨s, P2, _, k, XA, e2.wf, rps_cons (rp_same e2.sub _ _ r2) r5, h2, h3, fun P' H' v t S e3 o n f h4 => q P' H' v t S (e12.trans e3) o n (fun a ha => ⟨(f a ha).1, h0_free e12 (f a ha).2⟩) h4, fun P' H' z C d e3 h3 h4 => x P' H' z C d (e12.trans e3) h3 h4⟩
def mMethF (C : Addr) (m : Str) (n : Nat) (c : CtF) (me : ME) (am : MA) : MOt := fun XA env k => me XA env fun d => (∃ ns ds, d = .obj C ns ds ∧ ns.contains m = false) ∧ am XA env fun ds => ds.length + 1 = n ∧ c (d :: ds) k fun _ => False
theorem rot_meth {C : Addr} {m : Str} {n : Nat} {c : CtF} (ha : RE A E te me) (hs : RA A E aa am) : ROt A E (tMeth C m (SpF A n c) [] E0 te aa) (mMethF C m n c me am) := fun s H0 P σ H env XA k Q re x h q =>
  ha s H0 P σ H env XA _ _ re x h fun P1 H1 v d e1 r1 ⟨⟨ns, ds, g1, g2⟩, h1⟩ => by
    have r2 := r1
    subst g1
    simp only [Rp] at r1
    obtain ⟨a, dx, vs, rfl, r3, _⟩ := r1
    refine ⟨a, dx, _, rfl, e1.wf.sub _ _ r3, lk_no g2, hs s H0 P1 σ H1 env XA _ _ (re.ext e1) (x.ext e1) h1 fun P2 H2 ws es e2 r5 ⟨h2, h3⟩ => ?_⟩
    have e12 := e1.trans e2
    rw [List.append_nil]
    exact ⟨s, P2, _, k, _, e2.wf, rps_cons (rp_same e2.sub _ _ r2) r5, h2, h3, fun P' H' v t S e3 o n f h4 => q P' H' v t S (e12.trans e3) o n (fun a ha => ⟨(f a ha).1, h0_free e12 (f a ha).2⟩) h4, fun _ _ _ _ _ _ z => z.elim⟩
def mMethFKX (C : Addr) (m : Str) (n q : Nat) (js : List Nat) (N : Nat) (c : CtF) (me : ME) (am ap : MA) : MOt := fun XA env k => me XA env fun d => (∃ ns ds, d = .obj C ns ds ∧ ns.contains m = false) ∧ am XA env fun ds => ap XA env fun es => ds.length = n ∧ es.length = q ∧ (d :: ds ++ perm js es).length = N ∧ c (d :: ds ++ perm js es) k XA
theorem rot_methKX {C : Addr} {m : Str} {n q : Nat} {js : List Nat} {N : Nat} {c : CtF} (he : RE A E ta me) (ha : RA A E aa am) (hk : RA A E ak ap) : ROt A E (tMethKW C m n q js (SpF A N c) E ta aa ak) (mMethFKX C m n q js N c me am ap) := fun s H0 P σ H env XA k Q re x h q =>
  he s H0 P σ H env XA _ _ re x h fun P1 H1 v d e1 r1 ⟨⟨ns, ds0, g1, g2⟩, h1⟩ => by
    subst g1
    have r1' := r1
    simp only [Rp] at r1'
    obtain ⟨a, dx, vs0, rfl, a1, a2, a3⟩ := r1'
    refine ⟨a, dx, _, rfl, e1.wf.sub _ _ a1, lk_no g2, ha s H0 P1 σ H1 env XA _ _ (re.ext e1) (x.ext e1) h1 fun P2 H2 vs ds e2 r2 h2 => hk s H0 P2 σ H2 env XA _ _ (re.ext (e1.trans e2)) (x.ext (e1.trans e2)) h2 fun P3 H3 ws es e3 r3 ⟨l1, l2, l3, h3⟩ => ?_⟩
    have e13 := e1.trans (e2.trans e3)
    exact ⟨by rw [rps_len r2]; exact l1, by rw [rps_len r3]; exact l2, s, P3, .obj C ns ds0 :: ds ++ perm js es, k, XA, e3.wf, rps_app (rps_cons (rp_same (e2.sub.trans e3.sub) _ _ r1) (rps_same e3.sub _ _ r2)) (rps_perm r3 js), l3, h3, fun P' H' v t S e4 o n f h4 => q P' H' v t S (e13.trans e4) o n (fun a ha => ⟨(f a ha).1, h0_free e13 (f a ha).2⟩) h4, fun P' H' z C' d e4 h4 h5 => x P' H' z C' d (e13.trans e4) h4 h5⟩
/-! a list of scalars of lent things -/
theorem rps_scal {s : Option Addr} {P P' : Hp} : ∀ {ds : List T} {vs : List V}, ds.all scalT = true → Rps s P ds vs → Rps s P' ds vs
  | [], vs, _, r => by simpa only [Rps] using r
  | d :: ds, vs, h, r => by
    rw [List.all_cons, Bool.and_eq_true] at h
    simp only [Rps] at r ⊢
    obtain ⟨v, q, e1, e2, e3⟩ := r
    exact ⟨v, q, e1, rp_scal h.1 e2, rps_scal h.2 e3⟩
def mLendO (i : Nat) (mo : MA) : MA := fun _ env k => mo (fun _ => False) (frz env i) fun ds => ds.all scalT = true ∧ k ds
theorem row_lend (i : Nat) {mo : MA} (he : ROw A E te mo) : ROw A E te (mLendO i mo) := fun s H0 P σ H env XA k Q re x h q => by
  obtain ⟨Z, re2, sq, _⟩ := re.lend i
  exact he s H0 Z σ H _ (fun _ => False) _ Q re2 (fun _ _ _ _ _ _ z => z.elim) h fun P' H' p acc ds e hp r hl ⟨hs, hk⟩ => q P H' p acc ds (ext_lent re.wf sq e) hp (rps_scal hs r) hl hk
/-! a part of slot j's tree goes to slot i -/
theorem Rel.move {s : Option Addr} {H0 P H : Hp} {σ : L2.St} {env : Env} {i j : Nat} {t u : OT} {p : List Nat} {v w : V} (r : Rel s H0 P σ H env) (hij : i ≠ j) (h : env[j]? = some (some (.tr t))) (hv : σ[j]? = some (some v)) (hu : t.sub p = some u) (hw : VAt H v p w) :
    Rel s H0 P (σ.set i (some w)) H ((env.set j none).set i (some (.tr u))) := by
  obtain ⟨ad, h1, h2⟩ := r.ex
  obtain ⟨v', ev, nd, hA, oA⟩ := h2 j _ h
  rw [hv] at ev
  cases ev
  obtain ⟨Su, w', k1, k2, k3, k4, _⟩ := ot_at oA hu nd
  have ew := vat_one hw k4
  subst ew
  have ow : ∀ {k}, k ≠ i → IsOwn ((env.set j none).set i (some (.tr u))) k → IsOwn env k ∧ k ≠ j := fun {k} n ⟨x, e, m⟩ => by
    rw [List.getElem?_set_ne (Ne.symm n), List.getElem?_set] at e
    split at e
    · split at e <;> cases e
    · rename_i z
      exact ⟨⟨x, e, m⟩, fun y => z y.symm⟩
  have oj : IsOwn env j := ⟨_, h, rfl⟩
  refine ⟨r.wf, by rw [List.length_set, List.length_set, List.length_set]; exact r.len, fun k => if k = i then Su else ad k, fun a b c ha hb ea eb => ?_, fun k x e => ?_⟩
  · replace ea : c ∈ (if a = i then Su else ad a) := ea
    replace eb : c ∈ (if b = i then Su else ad b) := eb
    by_cases za : a = i
    · by_cases zb : b = i
      · rw [za, zb]
      · rw [if_pos za] at ea
        rw [if_neg zb] at eb
        obtain ⟨o1, o2⟩ := ow zb hb
        exact absurd (h1 b j c o1 oj eb (k1 c ea)) o2
    · by_cases zb : b = i
      · rw [if_neg za] at ea
        rw [if_pos zb] at eb
        obtain ⟨o1, o2⟩ := ow za ha
        exact absurd (h1 a j c o1 oj ea (k1 c eb)) o2
      · rw [if_neg za] at ea
        rw [if_neg zb] at eb
        exact h1 a b c (ow za ha).1 (ow zb hb).1 ea eb
  · show SlOk _ _ _ _ (if k = i then Su else ad k) _ _
    by_cases z : k = i
    · subst z
      rw [if_pos rfl]
      by_cases l : k < env.length
      · rw [List.getElem?_set_self (by rw [List.length_set]; omega)] at e
        cases e
        rw [List.getElem?_set_self (by rw [r.len]; exact l)]
        exact ⟨w, rfl, k2, fun a ha => hA a (k1 a ha), k3⟩
      · rw [List.getElem?_eq_none (by rw [List.length_set, List.length_set]; omega)] at e
        cases e
    · rw [if_neg z]
      rw [List.getElem?_set_ne (Ne.symm z)] at e ⊢
      rw [List.getElem?_set] at e
      split at e
      · split at e <;> cases e
      · exact h2 k x e
def mMove (mp : MPth) (i j : Nat) : MS := fun env M => mp (M.xr env) env fun _ _ u => M.nx ((env.set j none).set i (some (.tr u)))
theorem rs_move {mp : MPth} {i j : Nat} (hij : i ≠ j) (hp : RPth A E te j mp) : RS A E (tAsg te (gName i)) (mMove mp i j) := fun s P0 H0 P σ H env D M e re l h =>
  hp s H0 P σ H env _ _ _ re (l.xr P σ H env e (Same.refl _) re) h fun P1 H1 t p u v w e1 g1 g2 g3 g4 h1 =>
    l.nx P1 _ H1 _ (e.trans e1) e1.sub ((re.ext e1).move hij g1 g3 g2 g4) h1
/-! tests that change what is told of the slots -/
abbrev MTX := (Env → Ex → Prop) → Env → (Bool → Env → Prop) → Prop
def RTX (A : Ad) (E : EK) (t : TT) (mx : MTX) : Prop := ∀ s P0 H0 P σ H env (xr : Env → Ex → Prop) k (Q : Bool → Hp → Prop), Ext s P0 H0 P H → Rel s H0 P σ H env → (∀ P' H' env', Ext s P0 H0 P' H' → Same P P' → Rel s H0 P' σ H' env' → XC A s P' σ H' E (xr env')) → mx xr env k →
  (∀ P' H' b env', Ext s P0 H0 P' H' → Same P P' → Rel s H0 P' σ H' env' → k b env' → Q b H') → t σ H Q
def mxOf (mt : MT) : MTX := fun xr env k => mt (xr env) env fun b => k b env
theorem rtx_of (ht : RT A E t mt) : RTX A E t (mxOf mt) := fun s P0 H0 P σ H env xr k Q e re x h q =>
  ht s H0 P σ H env _ _ _ re (x P H env e (Same.refl _) re) h fun P1 H1 b e1 h1 => q P1 H1 b env (e.trans e1) e1.sub (re.ext e1) h1
variable {mx my : MTX}
def mxOr (mx my : MTX) : MTX := fun xr env k => mx xr env fun c env' => if c = true then k true env' else my xr env' k
theorem rtx_or (ht : RTX A E t mx) (hu : RTX A E u my) : RTX A E (tOr t u) (mxOr mx my) := fun s P0 H0 P σ H env xr k Q e re x h q =>
  ht s P0 H0 P σ H env xr _ _ e re x h fun P1 H1 b env1 e1 s1 re1 h1 => by
    cases b with
    | false => exact hu s P0 H0 P1 σ H1 env1 xr k _ e1 re1 (fun P' H' env' a b c => x P' H' env' a (s1.trans b) c) h1 fun P2 H2 c env2 e2 s2 re2 h2 => q P2 H2 c env2 e2 (s1.trans s2) re2 h2
    | true => exact q P1 H1 true env1 e1 s1 re1 h1
def mxAnd (mx my : MTX) : MTX := fun xr env k => mx xr env fun c env' => if c = true then my xr env' k else k false env'
theorem rtx_and (ht : RTX A E t mx) (hu : RTX A E u my) : RTX A E (tAnd t u) (mxAnd mx my) := fun s P0 H0 P σ H env xr k Q e re x h q =>
  ht s P0 H0 P σ H env xr _ _ e re x h fun P1 H1 b env1 e1 s1 re1 h1 => by
    cases b with
    | true => exact hu s P0 H0 P1 σ H1 env1 xr k _ e1 re1 (fun P' H' env' a b c => x P' H' env' a (s1.trans b) c) h1 fun P2 H2 c env2 e2 s2 re2 h2 => q P2 H2 c env2 e2 (s1.trans s2) re2 h2
    | false => exact q P1 H1 false env1 e1 s1 re1 h1
def mxNot (mx : MTX) : MTX := fun xr env k => mx xr env fun c env' => k (!c) env'
theorem rtx_not (ht : RTX A E t mx) : RTX A E (tNot t) (mxNot mx) := fun s P0 H0 P σ H env xr k Q e re x h q =>
  ht s P0 H0 P σ H env xr _ _ e re x h fun P1 H1 b env1 e1 s1 re1 h1 => q P1 H1 (!b) env1 e1 s1 re1 h1
variable {s1 s2 : TS} {m1 m2 : MS}
def mIfX (mx : MTX) (m1 m2 : MS) : MS := fun env M => mx M.xr env fun b env' => if b = true then m1 env' M else m2 env' M
theorem rs_ifX (ht : RTX A E t mx) (h1 : RS A E s1 m1) (h2 : RS A E s2 m2) : RS A E (tIfS t s1 s2) (mIfX mx m1 m2) := fun s P0 H0 P σ H env D M e re l h =>
  ht s P0 H0 P σ H env _ _ _ e re (fun P' H' env' a b c => l.xr P' σ H' env' a b c) h fun P1 H1 b env1 e1 s1 re1 h3 => by
    cases b with
    | true => exact h1 s P0 H0 P1 σ H1 env1 D M e1 re1 (l.up s1) h3
    | false => exact h2 s P0 H0 P1 σ H1 env1 D M e1 re1 (l.up s1) h3
end
/-! each list of a tree grows by 99 -/
mutual
def OT.bump : OT → OT
  | .d x => .d x
  | .lst ts => .lst (OT.bumps ts ++ [.d (.int 99)])
  | .tup ts => .tup (OT.bumps ts)
def OT.bumps : List OT → List OT
  | [] => []
  | t :: r => t.bump :: OT.bumps r
end
mutual
/-- data without a list -/
def noLT : T → Bool
  | .lst _ => false
  | .tup ds => noLTs ds
  | .obj _ _ _ => false
  | .sto => false
  | .kc _ => false
  | .fi _ => false
  | .ty _ => false
  | _ => true
def noLTs : List T → Bool
  | [] => true
  | d :: ds => noLT d && noLTs ds
end
mutual
def OT.noL : OT → Bool
  | .d x => noLT x
  | .lst ts => decide (ts.length < 999999) && OT.noLs ts
  | .tup ts => OT.noLs ts
def OT.noLs : List OT → Bool
  | [] => true
  | t :: r => t.noL && OT.noLs r
end
mutual
/-- no deeper than n -/
def depT : Nat → T → Bool
  | 0, .tup _ => false
  | n + 1, .tup ds => depTs n ds
  | _, _ => true
def depTs : Nat → List T → Bool
  | _, [] => true
  | n, d :: ds => depT n d && depTs n ds
end
mutual
def OT.dep : Nat → OT → Bool
  | n, .d x => depT n x
  | 0, .lst _ => false
  | 0, .tup _ => false
  | n + 1, .lst ts => OT.deps n ts
  | n + 1, .tup ts => OT.deps n ts
def OT.deps : Nat → List OT → Bool
  | _, [] => true
  | n, t :: r => t.dep n && OT.deps n r
end
/-- the promise of _law_apart: True, and each list of the tree has grown -/
def SpApart : Sp := fun vs H Q _ => ∃ s P v t S, vs = [v] ∧ WF s P H ∧ OtOk s P H t S v ∧ S.Nodup ∧ (∀ a, a ∈ S → P a = none ∧ s ≠ some a) ∧ t.noL = true ∧ t.dep 6 = true ∧ S.length < 100000 ∧
  ∀ H', (∀ b o, b ∉ S → H b = some o → H' b = some o) → OtOk s P H' t.bump S v → Q (.bl true) H'
mutual
theorem ot_det {s : Option Addr} {P H : Hp} : ∀ {t : OT} {S S' : List Addr} {v : V}, OtOk s P H t S v → OtOk s P H t S' v → S = S'
  | .d x, S, S', v, h, g => by
    simp only [OtOk] at h g
    rw [h.1, g.1]
  | .lst ts, S, S', v, h, g => by
    simp only [OtOk] at h g
    obtain ⟨a, vs, S1, rfl, rfl, h1, h2, _⟩ := h
    obtain ⟨b, us, S2, e, rfl, g1, g2, _⟩ := g
    cases e
    rw [h1] at g1
    cases g1
    rw [ots_det h2 g2]
  | .tup ts, S, S', v, h, g => by
    simp only [OtOk] at h g
    obtain ⟨a, vs, S1, rfl, rfl, h1, h2, _⟩ := h
    obtain ⟨b, us, S2, e, rfl, g1, g2, _⟩ := g
    cases e
    rw [h1] at g1
    cases g1
    rw [ots_det h2 g2]
theorem ots_det {s : Option Addr} {P H : Hp} : ∀ {ts : List OT} {S S' : List Addr} {vs : List V}, OtsOk s P H ts S vs → OtsOk s P H ts S' vs → S = S'
  | [], S, S', vs, h, g => by
    simp only [OtsOk] at h g
    rw [h.1, g.1]
  | t :: ts, S, S', vs, h, g => by
    simp only [OtsOk] at h g
    obtain ⟨S1, S2, v, r, rfl, rfl, h1, h2⟩ := h
    obtain ⟨T1, T2, u, q, rfl, e, g1, g2⟩ := g
    cases e
    rw [ot_det h1 g1, ots_det h2 g2]
end
mutual
/-- how many lists and tuples of one's own -/
def OT.cnt : OT → Nat
  | .d _ => 0
  | .lst ts => OT.cnts ts + 1
  | .tup ts => OT.cnts ts + 1
def OT.cnts : List OT → Nat
  | [] => 0
  | t :: r => t.cnt + OT.cnts r
end
mutual
theorem ot_cnt {s : Option Addr} {P H : Hp} : ∀ {t : OT} {S : List Addr} {v : V}, OtOk s P H t S v → S.length = t.cnt
  | .d x, S, v, h => by
    simp only [OtOk] at h
    rw [h.1, OT.cnt]
    rfl
  | .lst ts, S, v, h => by
    simp only [OtOk] at h
    obtain ⟨a, vs, S1, rfl, rfl, h1, h2, _⟩ := h
    rw [OT.cnt, List.length_cons, ots_cnt h2]
  | .tup ts, S, v, h => by
    simp only [OtOk] at h
    obtain ⟨a, vs, S1, rfl, rfl, h1, h2, _⟩ := h
    rw [OT.cnt, List.length_cons, ots_cnt h2]
theorem ots_cnt {s : Option Addr} {P H : Hp} : ∀ {ts : List OT} {S : List Addr} {vs : List V}, OtsOk s P H ts S vs → S.length = OT.cnts ts
  | [], S, vs, h => by
    simp only [OtsOk] at h
    rw [h.1, OT.cnts]
    rfl
  | t :: ts, S, vs, h => by
    simp only [OtsOk] at h
    obtain ⟨S1, S2, v, r, rfl, rfl, h1, h2⟩ := h
    rw [OT.cnts, List.length_append, ot_cnt h1, ots_cnt h2]
end
section
variable {A : Ad} {E : EK} {te : TE}
def mxApart (i : Nat) (mp : MPth) : MTX := fun xr env k => mp (xr env) env fun t p u => u.noL = true ∧ u.dep 6 = true ∧ u.cnt < 100000 ∧ k true (env.set i (some (.tr (t.put p u.bump))))
theorem rtx_apart {i : Nat} {mp : MPth} (hp : RPth A E te i mp) : RTX A E (tB (tCall SpApart [] E0 (tCons te tNil))) (mxApart i mp) := fun s P0 H0 P σ H env xr k Q e re x h q =>
  hp s H0 P σ H env _ _ _ re (x P H env e (Same.refl _) re) h fun P1 H1 t p u v w e1 g1 g2 g3 g4 ⟨h1, h2, h3, h4⟩ => by
    have re1 := re.ext e1
    obtain ⟨v1, S1, a1, a2, a3, a4⟩ := re1.tr g1
    rw [g3] at a1
    cases a1
    obtain ⟨Su, w0, m1, m2, c3, c4, c5⟩ := ot_at a4 g2 a2
    have ew := vat_one g4 c4
    subst ew
    show SpApart ([w] ++ []) H1 (fun x H1 => ∃ c, x = V.bl c ∧ Q c H1) E0
    rw [List.append_nil]
    refine ⟨s, P1, w, u, Su, rfl, re1.wf, c3, m2, fun a ha => ⟨(a3 a (m1 a ha)).1, (a3 a (m1 a ha)).2.2⟩, h1, h2, by rw [ot_cnt c3]; exact h3, fun H2 hk o2 => ⟨true, rfl, ?_⟩⟩
    have hkS : ∀ b o, b ∉ S1 → H1 b = some o → H2 b = some o := fun b o hb ho => hk b o (fun z => hb (m1 b z)) ho
    refine q P1 H2 true _ (ext_mod (A := S1) (e.trans e1) a3 hkS) e1.sub (re1.mod (Ext.refl re1.wf) g1 rfl fun A' hA' _ => ?_) h4
    obtain ⟨v2, ev, nd, hA3, oA⟩ := hA'
    rw [g3] at ev
    cases ev
    have eS := ot_det oA a4
    subst eS
    obtain ⟨R, r1, r2, r3⟩ := c5 H2 u.bump Su hk o2 m2 (fun a ha => Or.inl ha)
    have inA : ∀ a, a ∈ R → a ∈ A' := fun a ha => (r3 a ha).elim id (m1 a)
    exact ⟨R, fun a ha => Or.inl (inA a ha), hkS, _, g3, r2, fun a ha => hA3 a (inA a ha), r1⟩
end
end Mt
/-! ### the errors that bear nothing: NoInverse, NotMade, Ended; calls by names that give trees -/
namespace Mt
open PySem PySem.Spec PyProof.Rows L2 L2H
inductive Ez where
  | ni | nm | en
def Ez.ex : Ez → Ex
  | .ni => .ni
  | .nm => .nm
  | .en => .en
def Ez.adr (A : Ad) : Ez → Addr
  | .ni => A.ni
  | .nm => A.nm
  | .en => A.en
def Ez.s : Ez → Str
  | .ni => "NoInverse"
  | .nm => "NotMade"
  | .en => "Ended"
def mRaiseZ (z : Ez) : MS := fun env M => M.xr env z.ex
theorem exz_at {A : Ad} {s : Option Addr} {P H : Hp} {C : Value} {d : Option Addr} {z : Ez} : ExAt A s P H z.ex C d = (C = .ref (z.adr A) ∧ d = none) := by
  cases z <;> rfl
theorem rs_raiseZ {A : Ad} {W : WX} {C : Addr} {z : Ez} (hC : C = z.adr A) : RS A (WE W) (fun _ σ H => (fun _ H Q => Q (.ref C) none H) σ H fun cls d H' => W cls d σ H') (mRaiseZ z) := fun s P0 H0 P σ H env D M e re l h => by
  have xc := l.xr P σ H env e (Same.refl _) re
  exact xc P H z.ex _ _ (Ext.refl re.wf) h (by rw [exz_at, hC]; exact ⟨rfl, rfl⟩)
/-- what isinstance says of such an error -/
structure KZ (K : PySem.W.Frag) (A : Ad) (z : Ez) : Prop where
  xc : XcC K (z.adr A)
  bn : PySem.W.kitOne K (.ref (z.adr A)) (.ref A.bn) = some false
  bs : PySem.W.kitOne K (.ref (z.adr A)) (.ref A.bs) = some false
  be : PySem.W.kitOne K (.ref (z.adr A)) (.ref A.be) = some false
  bt : PySem.W.kitOne K (.ref (z.adr A)) (.ref A.bt) = some false
  tl : PySem.W.kitOne K (.ref (z.adr A)) (.ref A.tl) = some false
  cl : PySem.W.kitOne K (.ref (z.adr A)) (.ref A.cl) = some false
  ni : PySem.W.kitOne K (.ref (z.adr A)) (.ref A.ni) = some (match z with | .ni => true | _ => false)
  nm : PySem.W.kitOne K (.ref (z.adr A)) (.ref A.nm) = some (match z with | .nm => true | _ => false)
  en : PySem.W.kitOne K (.ref (z.adr A)) (.ref A.en) = some (match z with | .en => true | _ => false)
  me : PySem.W.kitOne K (.ref (z.adr A)) (.ref A.me) = some true
  ve : PySem.W.kitOne K (.ref (z.adr A)) (.type "ValueError") = some true
/-- _law_kind's promise: errors that bear an argument, and those that bear nothing -/
def SpH (A : Ad) (al : Ec → Bool) (zl : Ez → Bool) (p : Addr × Obj) : Sp := fun vs H Q E => SpK A al p vs H Q E ∨ (∃ z, zl z = true ∧ vs = [.ref p.1] ∧ ErrAt0 p (z.adr A) ∧ ∀ t H', Same H H' → H t = none → H' t = some (.tup [.str z.s, .non]) → Q (.ref t) H')
def mKindH (al : Ec → Bool) (zl : Ez → Bool) (x : Ex) : MS := fun _ M => (∃ c pl, x = .arg c pl ∧ al c = true ∧ c.attr = "argument" ∧ M.rt (.tup [.str (exName x), pl])) ∨ (∃ z, zl z = true ∧ x = z.ex ∧ M.rt (.tup [.str z.s, .non]))
theorem rh_kindH {A : Ad} {E : EK} {al : Ec → Bool} {zl : Ez → Bool} {i : Nat} : RH A E i (fun a cls d => tRet (tCallG a cls d (SpH A al zl) (tCons (tVar i) tNil))) (mKindH al zl) := fun a cls d x s P0 H0 P σ H env D M hi ha hx e re l h => by
  have w := re.wf
  rcases h with ⟨c, pl, hx2, hal, hat, h⟩ | ⟨z, hz, hx2, h⟩
  · subst hx2
    obtain ⟨rfl, dd, v, rfl, hd, hr⟩ := hx
    refine ⟨_, rfl, .ref a, hi, fun oe he => Or.inl ?_⟩
    rcases he with ⟨d', e1, he⟩ | ⟨e1, _⟩
    · cases e1
      refine ⟨c, dd, v, rfl, hal, hat, he, by rw [hat] at hd; exact hd, fun t H' sm ht et => ?_⟩
      have e2 := ext_pair w sm ht et
      refine l.rt _ H' (.ref t) _ (e.trans e2) e2.sub ?_ h
      simp only [Rp]
      exact ⟨t, _, rfl, upd_same, rps_cons (by simp only [Rp]; rw [exName_pl]) (rps_cons (rp_same e2.sub _ _ hr) rps_nil), by show 2 < 1000000; decide⟩
    · cases e1
  · subst hx2
    rw [exz_at] at hx
    obtain ⟨rfl, rfl⟩ := hx
    refine ⟨_, rfl, .ref a, hi, fun oe he => Or.inr ?_⟩
    rcases he with ⟨d', e1, _⟩ | ⟨_, he⟩
    · cases e1
    · refine ⟨z, hz, rfl, he, fun t H' sm ht et => ?_⟩
      have e2 := ext_pair w sm ht et
      refine l.rt _ H' (.ref t) _ (e.trans e2) e2.sub ?_ h
      simp only [Rp]
      exact ⟨t, _, rfl, upd_same, rps_cons (by simp [Rp]) (rps_cons (by simp [Rp]) rps_nil), by show 2 < 1000000; decide⟩
section
variable {A : Ad} {E : EK} {aa ak : TA} {am ap : MA}
def mCallFKX (n q : Nat) (js : List Nat) (N : Nat) (c : CtF) (am ap : MA) : MOt := fun XA env k => am XA env fun ds => ap XA env fun es => ds.length = n ∧ es.length = q ∧ (ds ++ perm js es).length = N ∧ c (ds ++ perm js es) k XA
theorem rot_callKX {n m : Nat} {js : List Nat} {N : Nat} {c : CtF} (ha : RA A E aa am) (hk : RA A E ak ap) : ROt A E (tCallKS n m js (SpF A N c) E aa ak) (mCallFKX n m js N c am ap) := fun s H0 P σ H env XA k Q re x h q =>
  ha s H0 P σ H env XA _ _ re x h fun P1 H1 vs ds e1 r1 h1 => hk s H0 P1 σ H1 env XA _ _ (re.ext e1) (x.ext e1) h1 fun P2 H2 ws es e2 r2 ⟨l1, l2, l3, h2⟩ =>
    ⟨by rw [rps_len r1]; exact l1, by rw [rps_len r2]; exact l2, s, P2, ds ++ perm js es, k, XA, e2.wf, rps_app (rps_same e2.sub _ _ r1) (rps_perm r2 js), l3, h2, fun P' H' v t S e3 o n f h3 => q P' H' v t S (e1.trans (e2.trans e3)) o n (fun a ha => ⟨(f a ha).1, h0_free (e1.trans e2) (f a ha).2⟩) h3, fun P' H' z C d e3 h3 h4 => x P' H' z C d (e1.trans (e2.trans e3)) h3 h4⟩
end
end Mt
/-! ### trees made of lent things; tuple of a list of trees; a pair with a slot's tree returned -/
namespace Mt
open PySem PySem.Spec PyProof.Rows L2 L2H
mutual
/-- data as a tree of one's own through all levels -/
def T.toO : T → OT
  | .lst ds => .lst (toOs ds)
  | .tup ds => .tup (toOs ds)
  | x => .d x
def toOs : List T → List OT
  | [] => []
  | d :: ds => d.toO :: toOs ds
end
mutual
theorem toO_t : ∀ x : T, x.toO.t = x
  | .lst ds => by rw [T.toO, OT.t, toOs_t]
  | .tup ds => by rw [T.toO, OT.t, toOs_t]
  | .non => by rw [T.toO, OT.t]; intro _ h; cases h; intro _ h; cases h
  | .bl _ => by rw [T.toO, OT.t] <;> (intro _ h; cases h)
  | .int _ => by rw [T.toO, OT.t] <;> (intro _ h; cases h)
  | .str _ => by rw [T.toO, OT.t] <;> (intro _ h; cases h)
  | .ty _ => by rw [T.toO, OT.t] <;> (intro _ h; cases h)
  | .sto => by rw [T.toO, OT.t]; intro _ h; cases h; intro _ h; cases h
  | .kc _ => by rw [T.toO, OT.t] <;> (intro _ h; cases h)
  | .fi _ => by rw [T.toO, OT.t] <;> (intro _ h; cases h)
  | .obj _ _ _ => by rw [T.toO, OT.t] <;> (intro _ h; cases h)
theorem toOs_t : ∀ ds : List T, OT.ts (toOs ds) = ds
  | [] => by rw [toOs, OT.ts]
  | d :: ds => by rw [toOs, OT.ts, toO_t, toOs_t]
end
theorem toOs_map : ∀ ds : List T, toOs ds = ds.map T.toO
  | [] => by rw [toOs]; rfl
  | d :: ds => by rw [toOs, toOs_map, List.map_cons]
mutual
/-- scalars at the leaves -/
def OT.sc : OT → Bool
  | .d x => scalT x
  | .lst ts => OT.scs ts
  | .tup ts => OT.scs ts
def OT.scs : List OT → Bool
  | [] => true
  | t :: r => t.sc && OT.scs r
end
mutual
theorem ot_sc {s : Option Addr} {P P2 H : Hp} : ∀ {t : OT} {S : List Addr} {v : V}, t.sc = true → OtOk s P H t S v → OtOk s P2 H t S v
  | .d x, S, v, h, o => by
    simp only [OT.sc] at h
    simp only [OtOk] at o ⊢
    exact ⟨o.1, rp_scal h o.2⟩
  | .lst ts, S, v, h, o => by
    simp only [OT.sc] at h
    simp only [OtOk] at o ⊢
    obtain ⟨a, vs, S', e1, e2, e3, e4, e5⟩ := o
    exact ⟨a, vs, S', e1, e2, e3, ots_sc h e4, e5⟩
  | .tup ts, S, v, h, o => by
    simp only [OT.sc] at h
    simp only [OtOk] at o ⊢
    obtain ⟨a, vs, S', e1, e2, e3, e4, e5⟩ := o
    exact ⟨a, vs, S', e1, e2, e3, ots_sc h e4, e5⟩
theorem ots_sc {s : Option Addr} {P P2 H : Hp} : ∀ {ts : List OT} {S : List Addr} {vs : List V}, OT.scs ts = true → OtsOk s P H ts S vs → OtsOk s P2 H ts S vs
  | [], S, vs, h, o => by
    simp only [OtsOk] at o ⊢
    exact o
  | t :: ts, S, vs, h, o => by
    simp only [OT.scs, Bool.and_eq_true] at h
    simp only [OtsOk] at o ⊢
    obtain ⟨S1, S2, v, r, e1, e2, e3, e4⟩ := o
    exact ⟨S1, S2, v, r, e1, e2, ot_sc h.1 e3, ots_sc h.2 e4⟩
end
theorem Rel.tree {s : Option Addr} {H0 P H : Hp} {σ : L2.St} {env : Env} {i : Nat} {x : Sl} {t : OT} (r : Rel s H0 P σ H env) (h : env[i]? = some (some x)) (e : treeOf x = some t) : ∃ v S, σ[i]? = some (some v) ∧ S.Nodup ∧ (∀ a, a ∈ S → P a = none ∧ H0 a = none ∧ s ≠ some a) ∧ OtOk s P H t S v := by
  cases x with
  | d y => cases e
  | ob z C ns ds => cases e
  | own ds =>
    cases e
    obtain ⟨a, vs, g1, g2, g3, g4, g5, g6, g7⟩ := r.own h
    refine ⟨.ref a, [a], g1, List.nodup_cons.mpr ⟨fun h => (nomatch h), List.nodup_nil⟩, fun b hb => by cases List.mem_singleton.mp hb; exact ⟨g2, g3, g4⟩, ?_⟩
    simp only [OtOk]
    exact ⟨a, vs, [], rfl, rfl, g5, ots_d g6, by rw [List.length_map]; exact g7⟩
  | tr t' =>
    cases e
    obtain ⟨v, S, g1, g2, g3, g4⟩ := r.tr h
    exact ⟨v, S, g1, g2, g3, g4⟩
section
variable {A : Ad} {E : EK} {te ta : TE} {ma : ME} {K : PySem.W.Frag} {mo : MOt}
def mLendOt (i : Nat) (mo : MOt) : MOt := fun _ env k => mo (fun _ => False) (frz env i) fun t => t.sc = true ∧ k t
theorem rot_lend (i : Nat) (he : ROt A E te mo) : ROt A E te (mLendOt i mo) := fun s H0 P σ H env XA k Q re x h q => by
  obtain ⟨Z, re2, sq, _⟩ := re.lend i
  exact he s H0 Z σ H _ (fun _ => False) _ Q re2 (fun _ _ _ _ _ _ z => z.elim) h fun P' H' v t S e o n f ⟨hs, hk⟩ => q P H' v t S (ext_lent re.wf sq e) (ot_sc hs o) n (fun a ha => ⟨re.wf.sub.free (f a ha).2, (f a ha).2⟩) hk
def mOtTup (mo : MOt) : MOt := fun XA env k => mo XA env fun t => ∃ ts, t = .lst ts ∧ k (.tup ts)
theorem rot_tupOf (ha : ROt A E te mo) : ROt A E (tCB (rTupOf K) (tCons te tNil)) (mOtTup mo) := fun s H0 P σ H env XA k Q re x h q =>
  ha s H0 P σ H env XA _ _ re x h fun P1 H1 v t S e1 o1 n1 f1 ⟨ts, et, h1⟩ => by
    subst et
    simp only [OtOk] at o1
    obtain ⟨a, vs, S', rfl, rfl, g1, g2, g3⟩ := o1
    obtain ⟨na, n2⟩ := List.nodup_cons.mp n1
    refine ⟨a, vs, rfl, Or.inl ⟨sql_of g1, fun p hp => ?_⟩⟩
    have nS : p ∉ S' := fun z => by
      obtain ⟨o, ho⟩ := ots_in g2 p z
      rw [hp] at ho
      cases ho
    refine q P1 _ (.ref p) (.tup ts) (p :: S') (e1.trans (ext_own e1.wf hp)) ?_ (List.nodup_cons.mpr ⟨nS, n2⟩) (fun b hb => ?_) h1
    · simp only [OtOk]
      exact ⟨p, vs, S', rfl, rfl, upd_same, ots_keep (Same.refl _) (fun b o hb ho => by rw [upd_ne (fun z : b = p => nS (by rw [← z]; exact hb))]; exact ho) g2, g3⟩
    · rcases List.mem_cons.mp hb with rfl | hb
      · exact ⟨e1.wf.sub.free hp, h0_free e1 hp⟩
      · exact f1 b (List.mem_cons_of_mem _ hb)
def mRetP (ma : ME) (i : Nat) : MS := fun env M => ma (M.xr env) env fun d => ∃ x t, env[i]? = some (some x) ∧ treeOf x = some t ∧ M.ro (.tup [.d d, t])
theorem rs_retP {i : Nat} (ha : RE A E ta ma) : RS A E (tRet (tTup (tCons ta (tCons (tVar i) tNil)))) (mRetP ma i) := fun s P0 H0 P σ H env D M e re l h =>
  ha s H0 P σ H env _ _ _ re (l.xr P σ H env e (Same.refl _) re) h fun P1 H1 v d e1 r1 ⟨x, t, g1, g2, h1⟩ => by
    obtain ⟨w, S, k1, k2, k3, k4⟩ := (re.ext e1).tree g1 g2
    refine ⟨w, k1, size_line (by show 2 < 1000000; decide), fun p hp => ?_⟩
    have nS : p ∉ S := fun z => by
      obtain ⟨o, ho⟩ := ot_in k4 p z
      rw [hp] at ho
      cases ho
    have e01 := e.trans e1
    refine l.ro P1 _ (.ref p) (.tup [.d d, t]) (p :: S) (e01.trans (ext_own e1.wf hp)) e1.sub ?_ (List.nodup_cons.mpr ⟨nS, k2⟩) (fun a ha => ?_) h1
    · simp only [OtOk, OtsOk]
      refine ⟨p, [v, w], S, rfl, rfl, upd_same, ⟨[], S, v, [w], rfl, rfl, ⟨rfl, r1⟩, S, [], w, [], by rw [List.append_nil], rfl, ot_keep (Same.refl _) (fun a o ha ho => by rw [upd_ne (fun z : a = p => nS (by rw [← z]; exact ha))]; exact ho) k4, rfl, rfl⟩, by show 2 < 1000000; decide⟩
    · rcases List.mem_cons.mp ha with rfl | ha
      · exact ⟨e1.wf.sub.free hp, h0_free e01 hp⟩
      · exact ⟨(k3 a ha).1, (k3 a ha).2.1⟩
end
end Mt
namespace Mt
open PySem PySem.Spec PyProof.Rows L2 L2H
theorem lct_map {f : T → (Option OT → Prop) → Prop} {xs : List T} {k : List OT → Prop} (G : T → OT) (h : ∀ x r, x ∈ xs → r (some (G x)) → f x r) (hk : k (xs.map G)) : lcInvT f xs k := by
  refine ⟨fun i acc => acc = (xs.take i).map G, rfl, fun i x acc hx ha => ?_, fun acc ha => ?_⟩
  · refine h x _ (List.mem_of_getElem? hx) ?_
    show acc ++ [G x] = (xs.take (i + 1)).map G
    rw [ha, List.take_add_one, hx, List.map_append]
    rfl
  · have ha : acc = (xs.take xs.length).map G := ha
    rw [List.take_length] at ha
    rw [ha]
    exact hk
theorem lct_list {α : Type} {f : T → (Option OT → Prop) → Prop} {as : List α} {g : α → T} {G : α → OT} {k : List OT → Prop} (h : ∀ a ∈ as, ∀ r : Option OT → Prop, r (some (G a)) → f (g a) r) (hk : k (as.map G)) : lcInvT f (as.map g) k := by
  refine ⟨fun i acc => acc = (as.take i).map G, rfl, fun i x acc hx ha => ?_, fun acc ha => ?_⟩
  · rw [List.getElem?_map] at hx
    cases q : as[i]? with
    | none => rw [q] at hx; cases hx
    | some a =>
      rw [q] at hx
      cases hx
      refine h a (List.mem_of_getElem? q) _ ?_
      show acc ++ [G a] = (as.take (i + 1)).map G
      rw [ha, List.take_add_one, q, List.map_append]
      rfl
  · rw [List.length_map, List.take_length] at ha
    rw [ha]
    exact hk
theorem lct_rng {f : T → (Option OT → Prop) → Prop} {n : Nat} {k : List OT → Prop} (G : Nat → OT) (h : ∀ i r, i < n → r (some (G i)) → f (.int ((i : Nat) : Int)) r) (hk : k ((List.range n).map G)) : lcInvT f (rngT 0 n) k := by
  have e : rngT 0 n = (List.range n).map fun i : Nat => T.int ((i : Nat) : Int) := by
    unfold rngT
    refine List.map_congr_left fun i _ => ?_
    rw [Int.zero_add]
  rw [e]
  exact lct_list (fun i hi r hr => h i r (List.mem_range.mp hi) hr) hk
theorem lc_rng {f : T → (Option T → Prop) → Prop} {n : Nat} {k : List T → Prop} (G : Nat → T) (h : ∀ i r, i < n → r (some (G i)) → f (.int ((i : Nat) : Int)) r) (hk : k ((List.range n).map G)) : lcInv f (rngT 0 n) k := by
  refine lc_map G (fun i x r hx hr => ?_) (by rw [rngT_len]; exact hk)
  obtain ⟨hi, rfl⟩ := rng_at hx
  rw [Int.zero_add]
  exact h i r hi hr
/-- a row of ints, rows of such: lists of one's own -/
def rowO (r : List Int) : OT := .lst ((r.map T.int).map OT.d)
def matO (m : List (List Int)) : OT := .lst (m.map rowO)
theorem rowO_t (r : List Int) : (rowO r).t = .lst (r.map T.int) := by simp only [rowO, t_lst, ots_mapd]
theorem ots_map {α : Type} {G : α → OT} : ∀ as : List α, OT.ts (as.map G) = as.map fun a => (G a).t
  | [] => by rw [List.map_nil, OT.ts, List.map_nil]
  | a :: as => by rw [List.map_cons, OT.ts, ots_map as, List.map_cons]
theorem matO_t (m : List (List Int)) : (matO m).t = .lst (m.map fun r => .lst (r.map T.int)) := by
  rw [matO, t_lst, ots_map]
  simp only [rowO_t]
theorem scs_all : ∀ ts : List OT, OT.scs ts = ts.all OT.sc
  | [] => by rw [OT.scs, List.all_nil]
  | t :: ts => by rw [OT.scs, scs_all ts, List.all_cons]
theorem noLs_all : ∀ ts : List OT, OT.noLs ts = ts.all OT.noL
  | [] => by rw [OT.noLs, List.all_nil]
  | t :: ts => by rw [OT.noLs, noLs_all ts, List.all_cons]
theorem deps_all (n : Nat) : ∀ ts : List OT, OT.deps n ts = ts.all (OT.dep n)
  | [] => by rw [OT.deps, List.all_nil]
  | t :: ts => by rw [OT.deps, deps_all n ts, List.all_cons]
theorem rowO_sc (r : List Int) : (rowO r).sc = true := by
  rw [rowO, OT.sc, scs_all, List.all_eq_true]
  intro t ht
  obtain ⟨x, hx, rfl⟩ := List.mem_map.mp ht
  obtain ⟨z, _, rfl⟩ := List.mem_map.mp hx
  rfl
theorem matO_sc (m : List (List Int)) : (matO m).sc = true := by
  rw [matO, OT.sc, scs_all, List.all_eq_true]
  intro t ht
  obtain ⟨r, _, rfl⟩ := List.mem_map.mp ht
  exact rowO_sc r
theorem rowO_noL {r : List Int} (h : r.length < 999999) : (rowO r).noL = true := by
  rw [rowO, OT.noL, noLs_all, Bool.and_eq_true, decide_eq_true_iff, List.length_map, List.length_map, List.all_eq_true]
  refine ⟨h, fun t ht => ?_⟩
  obtain ⟨x, hx, rfl⟩ := List.mem_map.mp ht
  obtain ⟨z, _, rfl⟩ := List.mem_map.mp hx
  rfl
theorem matO_noL {m : List (List Int)} (h : m.length < 999999) (hr : ∀ r ∈ m, r.length < 999999) : (matO m).noL = true := by
  rw [matO, OT.noL, noLs_all, Bool.and_eq_true, decide_eq_true_iff, List.length_map, List.all_eq_true]
  refine ⟨h, fun t ht => ?_⟩
  obtain ⟨r, hm, rfl⟩ := List.mem_map.mp ht
  exact rowO_noL (hr r hm)
theorem rowO_dep (r : List Int) (n : Nat) : (rowO r).dep (n + 1) = true := by
  rw [rowO, OT.dep, deps_all, List.all_eq_true]
  intro t ht
  obtain ⟨x, hx, rfl⟩ := List.mem_map.mp ht
  obtain ⟨z, _, rfl⟩ := List.mem_map.mp hx
  cases n <;> rfl
theorem matO_dep (m : List (List Int)) (n : Nat) : (matO m).dep (n + 2) = true := by
  rw [matO, OT.dep, deps_all, List.all_eq_true]
  intro t ht
  obtain ⟨r, _, rfl⟩ := List.mem_map.mp ht
  exact rowO_dep r n
theorem cnts_d : ∀ ds : List T, OT.cnts (ds.map OT.d) = 0
  | [] => by rw [List.map_nil, OT.cnts]
  | d :: ds => by rw [List.map_cons, OT.cnts, cnts_d ds, OT.cnt]
theorem rowO_cnt (r : List Int) : (rowO r).cnt = 1 := by rw [rowO, OT.cnt, cnts_d]
theorem cnts_rows : ∀ m : List (List Int), OT.cnts (m.map rowO) = m.length
  | [] => by rw [List.map_nil, OT.cnts]; rfl
  | r :: m => by rw [List.map_cons, OT.cnts, cnts_rows m, rowO_cnt, List.length_cons, Nat.add_comm]
theorem matO_cnt (m : List (List Int)) : (matO m).cnt = m.length + 1 := by rw [matO, OT.cnt, cnts_rows]
theorem rowO_toO (r : List Int) : (T.lst (r.map T.int)).toO = rowO r := by
  rw [T.toO, toOs_map, rowO, List.map_map, List.map_map]
  congr 1
theorem matO_toO (m : List (List Int)) : (T.lst (m.map fun r => T.lst (r.map T.int))).toO = matO m := by
  rw [T.toO, toOs_map, matO, List.map_map]
  congr 1
  refine List.map_congr_left fun r _ => ?_
  exact rowO_toO r
theorem okTs_map_int (n : Nat) : ∀ ns : List Int, okTs n (ns.map T.int) = true
  | [] => by simp [okTs]
  | z :: ns => by
    rw [List.map_cons, okTs, okTs_map_int n ns]
    cases n <;> rfl
theorem okT_row (n : Nat) (r : List Int) : okT (n + 1) (.lst (r.map T.int)) = true := by
  rw [okT]
  exact okTs_map_int n r
theorem okTs_rows (n : Nat) : ∀ m : List (List Int), okTs (n + 1) (m.map fun r => T.lst (r.map T.int)) = true
  | [] => by simp [okTs]
  | r :: m => by rw [List.map_cons, okTs, okTs_rows n m, okT_row]; rfl
theorem okT_mat (n : Nat) (m : List (List Int)) : okT (n + 2) (.lst (m.map fun r => T.lst (r.map T.int))) = true := by
  rw [okT]
  exact okTs_rows n m
end Mt
namespace Mt
open PySem PySem.Spec PyProof.Rows L2 L2H
theorem zipT_map {α β : Type} {g : α → T} {h : β → T} : ∀ {a : List α} {b : List β}, zipT (a.map g) (b.map h) = (a.zip b).map fun z => T.tup [g z.1, h z.2]
  | [], _ => by simp [zipT]
  | _ :: _, [] => by simp [zipT]
  | x :: a, y :: b => by
    have ih := zipT_map (g := g) (h := h) (a := a) (b := b)
    unfold zipT at ih ⊢
    simpa using ih
end Mt
namespace Mt
open PySem PySem.Spec PyProof.Rows L2 L2H
section
variable {X : Cx}
def rMin3H : List V → Hp → VK → Prop := fun xs H Q => ∃ i j k : Int, xs = [.int i, .int j, .int k] ∧ Q (.int (min (min i j) k)) H
theorem call_min3H (hc : X.calm = true) : CallR X (.builtin "min") rMin3H := by
  intro pins s σ H xs us Q I r h
  obtain ⟨i, j, k, rfl, q⟩ := h
  cases r with
  | cons r1 rr =>
    obtain ⟨u, w', rfl, ⟨t, rfl⟩, ⟨t', rfl⟩⟩ := vals2 rr
    obtain ⟨t0, rfl⟩ := r1
    refine min_three_ints (I.ok.hd hc) fun h' tk kk => ⟨_, H, I.kept kk, ?_, q⟩
    by_cases h1 : j < i
    · rw [if_pos h1]
      by_cases h2 : k < j
      · rw [if_pos h2, show min (min i j) k = k by omega]
        exact ⟨_, rfl⟩
      · rw [if_neg h2, show min (min i j) k = j by omega]
        exact ⟨_, rfl⟩
    · rw [if_neg h1]
      by_cases h2 : k < i
      · rw [if_pos h2, show min (min i j) k = k by omega]
        exact ⟨_, rfl⟩
      · rw [if_neg h2, show min (min i j) k = i by omega]
        exact ⟨_, rfl⟩
end
def oMin3 : List T → (T → Prop) → Prop := fun ds k => ∃ i j l : Int, ds = [.int i, .int j, .int l] ∧ k (.int (min (min i j) l))
theorem rcb_min3 : RCB rMin3H oMin3 := fun s P H vs ds k Q w h ⟨i, j, l, g1, h3⟩ q => by
  subst g1
  obtain ⟨v, u, x, rfl, h1, h2, h4⟩ := rps3 h
  exact ⟨i, j, l, by rw [rp_int h1, rp_int h2, rp_int h4], q P H _ _ (Ext.refl w) (by simp [Rp]) h3⟩
theorem oMin3_w {a b c : Int} {k : T → Prop} : oMin3 [.int a, .int b, .int c] k = k (.int (min (min a b) c)) := propext ⟨fun ⟨i, j, l, e, h⟩ => by cases e; exact h, fun h => ⟨a, b, c, rfl, h⟩⟩
end Mt
namespace Mt
open PySem PySem.Spec PyProof.Rows L2 L2H
theorem rd_true : ∀ s P, Rps s P [.bl true] [.bl true] := fun s P => rps_cons (by simp [Rp]) rps_nil
theorem ints_inj : ∀ {a b : List Int}, a.map T.int = b.map T.int → a = b
  | [], [], _ => rfl
  | [], _ :: _, h => by cases h
  | _ :: _, [], h => by cases h
  | x :: a, y :: b, h => by
    rw [List.map_cons, List.map_cons, List.cons.injEq] at h
    rw [T.int.inj h.1, ints_inj h.2]
theorem ints_ty {ns : List Int} : ∀ e ∈ ns.map T.int, ∃ n, tyT e = some n := fun e he => by
  obtain ⟨z, _, rfl⟩ := List.mem_map.mp he
  exact ⟨_, rfl⟩
/-- whole numbers in a field's range -/
def inF (q : Int) (r : List Int) : Prop := ∀ z ∈ r, 0 ≤ z ∧ z < q
theorem ints_whole {q : Int} {r : List Int} (h : inF q r) : (r.map T.int).all (fun e => wholeT e 0 (q - 1)) = true := by
  rw [List.all_eq_true]
  intro e he
  obtain ⟨z, hz, rfl⟩ := List.mem_map.mp he
  obtain ⟨z0, z1⟩ := h z hz
  simp only [wholeT, decide_eq_true z0, decide_eq_true (show z ≤ q - 1 by omega), Bool.and_self]
theorem whole_true {v : T} {lo hi : Int} (h : wholeT v lo hi = true) : ∃ i, v = .int i ∧ lo ≤ i ∧ i ≤ hi := by
  cases v with
  | int i =>
    simp only [wholeT, Bool.and_eq_true, decide_eq_true_eq] at h
    exact ⟨i, rfl, h.1, h.2⟩
  | _ => simp [wholeT] at h
theorem whole_row {p : Int} : ∀ {es : List T}, es.all (fun e => wholeT e 0 (p - 1)) = true → ∃ ns : List Int, es = ns.map T.int ∧ inF p ns
  | [], _ => ⟨[], rfl, fun z h => nomatch h⟩
  | e :: es, h => by
    rw [List.all_cons, Bool.and_eq_true] at h
    obtain ⟨i, rfl, i0, i1⟩ := whole_true h.1
    obtain ⟨ns, rfl, hn⟩ := whole_row h.2
    refine ⟨i :: ns, rfl, fun z hz => ?_⟩
    rcases List.mem_cons.mp hz with rfl | hz
    · omega
    · exact hn z hz
theorem inF_cons {q z : Int} {r : List Int} : inF q (z :: r) ↔ (0 ≤ z ∧ z < q) ∧ inF q r := by
  unfold inF
  simp
theorem inF_nil {q : Int} : inF q [] := fun z h => nomatch h
theorem inF_app {q : Int} {a b : List Int} (h : inF q a) (g : inF q b) : inF q (a ++ b) := fun z hz => (List.mem_append.mp hz).elim (h z) (g z)
theorem inF_rep {q : Int} (hq : 0 < q) (n : Nat) : inF q (List.replicate n 0) := fun z hz => by
  rw [List.eq_of_mem_replicate hz]
  omega
theorem lc_ints {f : T → (Option T → Prop) → Prop} {n : Nat} {k : List T → Prop} (C : Int → Prop) (h : ∀ i r, i < n → (∀ z : Int, C z → r (some (.int z))) → f (.int ((i : Nat) : Int)) r) (hk : ∀ ns : List Int, ns.length = n → (∀ z ∈ ns, C z) → k (ns.map T.int)) : lcInv f (rngT 0 n) k := by
  refine ⟨fun i acc => ∃ ns : List Int, acc = ns.map T.int ∧ ns.length = i ∧ ∀ z ∈ ns, C z, ⟨[], rfl, rfl, fun z h => nomatch h⟩, ?_, ?_⟩
  · rintro i x acc hx ⟨ns, rfl, hl, hz⟩
    obtain ⟨hi, rfl⟩ := rng_at hx
    rw [Int.zero_add]
    refine h i _ hi fun z cz => ⟨ns ++ [z], by rw [List.map_append]; rfl, by rw [List.length_append, hl]; rfl, fun y hy => ?_⟩
    rcases List.mem_append.mp hy with hy | hy
    · exact hz y hy
    · rw [List.mem_singleton.mp hy]
      exact cz
  · rintro acc ⟨ns, rfl, hl, hz⟩
    rw [rngT_len] at hl
    exact hk ns hl hz
end Mt
namespace Mt
open PySem PySem.Spec PyProof.Rows L2 L2H
theorem rowO_map {α : Type} (g : α → Int) (l : List α) : rowO (l.map g) = .lst ((l.map fun x => T.int (g x)).map OT.d) := by
  rw [rowO, List.map_map (f := g)]
  rfl
end Mt
namespace Mt
open PySem PySem.Spec PyProof.Rows L2 L2H
/-- rows of data, lists of one's own -/
def rowOT (r : List T) : OT := .lst (r.map OT.d)
def matOT (m : List (List T)) : OT := .lst (m.map rowOT)
theorem rowOT_t (r : List T) : (rowOT r).t = .lst r := by simp only [rowOT, t_lst, ots_mapd]
theorem matOT_t (m : List (List T)) : (matOT m).t = .lst (m.map T.lst) := by
  rw [matOT, t_lst, ots_map]
  simp only [rowOT_t]
theorem rowO_OT (r : List Int) : rowO r = rowOT (r.map T.int) := rfl
theorem matO_OT (m : List (List Int)) : matO m = matOT (m.map fun r => r.map T.int) := by
  rw [matO, matOT, List.map_map]
  rfl
def colsT (w : Nat) (m : List (List T)) : List (List T) := (List.range w).map fun p => m.map fun r => r.getD p .non
theorem okTs_lists {n : Nat} : ∀ {m : List (List T)}, (∀ r ∈ m, okTs n r = true) → okTs (n + 1) (m.map T.lst) = true
  | [], _ => by simp [okTs]
  | r :: m, h => by
    rw [List.map_cons, okTs, okT, h r (List.mem_cons_self ..), okTs_lists fun r hr => h r (List.mem_cons_of_mem _ hr)]
    rfl
end Mt
namespace Mt
open PySem PySem.Spec PyProof.Rows L2 L2H
/-! each row of a matrix of one's own grows by 99, then the matrix -/
def bumpR (m : List (List T)) : OT := .lst (m.map (fun r => rowOT (r ++ [.int 99])) ++ [.d (.int 99)])
def SpRows : Sp := fun vs H Q _ => ∃ s P v m S, vs = [v] ∧ WF s P H ∧ OtOk s P H (matOT m) S v ∧ S.Nodup ∧ (∀ a, a ∈ S → P a = none ∧ s ≠ some a) ∧ m.length < 99999 ∧ (∀ r ∈ m, r.length < 999999) ∧
  ∀ H', (∀ b o, b ∉ S → H b = some o → H' b = some o) → OtOk s P H' (bumpR m) S v → Q (.bl true) H'
section
variable {A : Ad} {E : EK} {te : TE}
def mxRows (i : Nat) (mp : MPth) : MTX := fun xr env k => mp (xr env) env fun t p u => ∃ m, u = matOT m ∧ m.length < 99999 ∧ (∀ r ∈ m, r.length < 999999) ∧ k true (env.set i (some (.tr (t.put p (bumpR m)))))
theorem rtx_rows {i : Nat} {mp : MPth} (hp : RPth A E te i mp) : RTX A E (tB (tCall SpRows [] E0 (tCons te tNil))) (mxRows i mp) := fun s P0 H0 P σ H env xr k Q e re x h q =>
  hp s H0 P σ H env _ _ _ re (x P H env e (Same.refl _) re) h fun P1 H1 t p u v w e1 g1 g2 g3 g4 ⟨m, eu, h2, h3, h4⟩ => by
    subst eu
    have re1 := re.ext e1
    obtain ⟨v1, S1, a1, a2, a3, a4⟩ := re1.tr g1
    rw [g3] at a1
    cases a1
    obtain ⟨Su, w0, m1, m2, c3, c4, c5⟩ := ot_at a4 g2 a2
    have ew := vat_one g4 c4
    subst ew
    show SpRows ([w] ++ []) H1 (fun x H1 => ∃ c, x = V.bl c ∧ Q c H1) E0
    rw [List.append_nil]
    refine ⟨s, P1, w, m, Su, rfl, re1.wf, c3, m2, fun a ha => ⟨(a3 a (m1 a ha)).1, (a3 a (m1 a ha)).2.2⟩, h2, h3, fun H2 hk o2 => ⟨true, rfl, ?_⟩⟩
    have hkS : ∀ b o, b ∉ S1 → H1 b = some o → H2 b = some o := fun b o hb ho => hk b o (fun z => hb (m1 b z)) ho
    refine q P1 H2 true _ (ext_mod (A := S1) (e.trans e1) a3 hkS) e1.sub (re1.mod (Ext.refl re1.wf) g1 rfl fun A' hA' _ => ?_) h4
    obtain ⟨v2, ev, nd, hA3, oA⟩ := hA'
    rw [g3] at ev
    cases ev
    have eS := ot_det oA a4
    subst eS
    obtain ⟨R, r1, r2, r3⟩ := c5 H2 (bumpR m) Su hk o2 m2 (fun a ha => Or.inl ha)
    have inA : ∀ a, a ∈ R → a ∈ A' := fun a ha => (r3 a ha).elim id (m1 a)
    exact ⟨R, fun a ha => Or.inl (inA a ha), hkS, _, g3, r2, fun a ha => hA3 a (inA a ha), r1⟩
end
end Mt
/-! ### a name for a part of a tree, through which an item is set -/
namespace Mt
open PySem PySem.Spec PyProof.Rows L2 L2H
section
variable {A : Ad} {E : EK} {te ta tj : TE} {mj : ME} {mo : MOt} {s2 : TS} {m2 : MS}
/-- `x = tree[..]` and `x[e] = y` right behind it: the tree is changed, x is told of no more -/
def mAlias (mp : MPth) (i j : Nat) (mo : MOt) (mj : ME) (m2 : MS) : MS := fun env M => i < env.length ∧ mp (M.xr env) env fun t p u => mo (M.xr (env.set i none)) (env.set i none) fun y => mj (M.xr (env.set i none)) (env.set i none) fun d => ∃ ts n k, u = .lst ts ∧ d = .int n ∧ ixN ts.length n = some k ∧ m2 ((env.set i none).set j (some (.tr (t.put p (.lst (ts.set k y)))))) M
theorem rs_alias {mp : MPth} {i j : Nat} (hij : i ≠ j) (hp : RPth A E ta j mp) (ho : ROt A E te mo) (hj : RE A E tj mj) (hs : RS A E s2 m2) : RS A E (tSeq (tAsg ta (gName i)) (tSeq (tAsg te (gSub (tVar i) tj rSetL)) s2)) (mAlias mp i j mo mj m2) := fun s P0 H0 P σ H env D M e re l h =>
  let ⟨hi, h⟩ := h
  hp s H0 P σ H env _ _ _ re (l.xr P σ H env e (Same.refl _) re) h fun P1 H1 t p u v w e1 g1 g2 g3 g4 h1 => by
    have re1 : Rel s H0 P1 (σ.set i (some w)) H1 (env.set i none) := (re.ext e1).drop
    have li : i < σ.length := by rw [re.len]; exact hi
    have gi : (σ.set i (some w))[i]? = some (some w) := List.getElem?_set_self li
    have g1' : (env.set i none)[j]? = some (some (.tr t)) := by rw [List.getElem?_set_ne hij]; exact g1
    have g3' : (σ.set i (some w))[j]? = some (some v) := by rw [List.getElem?_set_ne hij]; exact g3
    have ee := e.trans e1
    refine ho s H0 P1 _ H1 _ _ _ _ re1 (l.xr P1 _ H1 _ ee e1.sub re1) h1 fun P2 H2 y t2 S2 e2 o2 n2 f2 h2 => ?_
    have re2 := re1.ext e2
    refine ⟨w, gi, hj s H0 P2 _ H2 _ _ _ _ re2 (l.xr P2 _ H2 _ (ee.trans e2) (e1.sub.trans e2.sub) re2) h2 fun P3 H3 z d e3 r3 ⟨ts, n, k, eu, ed, hx, h3⟩ => ?_⟩
    subst eu ed
    obtain ⟨v1, S1, a1, a2, a3, a4⟩ := re1.tr g1'
    rw [g3'] at a1
    cases a1
    obtain ⟨Su0, w0, m1, _, c30, c40, _⟩ := ot_at a4 g2 a2
    have ew := vat_one g4 c40
    subst ew
    simp only [OtOk] at c30
    obtain ⟨a, vs, S', rfl, eS, d1, d2, d3⟩ := c30
    have e23 := e2.trans e3
    have g4' := vat_keep a4 g2 (fun b o hb ho => e23.keep b o (a3 b hb).2.2 ho) g4
    have in2 := ot_in o2
    have o3 : OtOk s P3 H3 t2 S2 y := ot_keep e3.sub (fun b o hb ho => e3.keep b o (ne_sto (b := b) re1.wf (f2 b hb).2) ho) o2
    have f3 : ∀ b, b ∈ S2 → P3 b = none ∧ H1 b = none := fun b hb => by
      obtain ⟨o, ho⟩ := in2 b hb
      exact ⟨ext_P e3 (f2 b hb).1 (by rw [ho]; exact fun z => nomatch z), (f2 b hb).2⟩
    have jl := ix_lt hx
    obtain ⟨vs', T', q1, q0, q2, q3⟩ := tr_change (f := fun vs => vs.set k y) (ts' := ts.set k t2) ee re1 e23 g1' g2 g3' g4' f3 (by rw [List.length_set]; exact d3) fun S' vs os nd ds => by
      obtain ⟨X1, Xu, X2, x, rfl, _, _, rep⟩ := ots_at os (List.getElem?_eq_getElem jl)
      have m2 := List.nodup_append.mp nd
      have m3 := List.nodup_append.mp m2.2.1
      refine ⟨X1 ++ (S2 ++ X2), rep H3 t2 S2 y (fun _ _ _ h => h) o3, List.nodup_append.mpr ⟨m2.1, List.nodup_append.mpr ⟨n2, m3.2.1, fun b hb c hc ee => ?_⟩, fun b hb c hc ee => ?_⟩, fun b hb => ?_⟩
      · subst ee
        exact ds b (List.mem_append_right _ (List.mem_append_right _ hc)) hb
      · subst ee
        rcases List.mem_append.mp hc with hc | hc
        · exact ds b (List.mem_append_left _ hb) hc
        · exact m2.2.2 b hb b (List.mem_append_right _ hc) rfl
      · rcases List.mem_append.mp hb with hb | hb
        · exact Or.inl (List.mem_append_left _ hb)
        · rcases List.mem_append.mp hb with hb | hb
          · exact Or.inr hb
          · exact Or.inl (List.mem_append_right _ (List.mem_append_right _ hb))
    rw [rp_int r3]
    show rSetL (.ref a) (.int n) y H3 _
    rw [w_setE q1 (j := k) (by rw [ots_vlen q0]; exact hx)]
    exact hs s P0 H0 P3 _ _ _ D M q2 q3 (l.up (e1.sub.trans e23.sub)) h3
end
/-- the items of one's own list become data, the list stays one's own -/
theorem Rel.flat {s : Option Addr} {P0 H0 P H : Hp} {σ : L2.St} {env : Env} {i : Nat} {ts : List OT} (r : Rel s H0 P σ H env) (e0 : Ext s P0 H0 P H) (h : env[i]? = some (some (.tr (.lst ts)))) :
    ∃ P', Same P P' ∧ Ext s P0 H0 P' H ∧ Rel s H0 P' σ H (env.set i (some (.own (OT.ts ts)))) := by
  obtain ⟨ad, h1, h2⟩ := r.ex
  have hx := h2 i _ h
  have il : i < env.length := (List.getElem?_eq_some_iff.mp h).1
  obtain ⟨v, ev, nd, nx, ok⟩ := hx
  simp only [OtOk] at ok
  obtain ⟨a, vs, S, rfl, eS, d1, d2, d3⟩ := ok
  rw [eS] at nd nx
  have aS : a ∉ S := (List.nodup_cons.mp nd).1
  have nS : ∀ b, b ∈ S → P b = none ∧ H0 b = none ∧ s ≠ some b := fun b hb => nx b (List.mem_cons_of_mem _ hb)
  have na := nx a List.mem_cons_self
  have sP : Same P (join P H S) := fun b o e => by
    unfold join
    rw [if_neg (fun z => by rw [(nS b z).1] at e; cases e)]
    exact e
  have wf : WF s (join P H S) H := by
    refine ⟨fun b o g => ?_, fun b hb => ?_⟩
    · unfold join at g
      by_cases z : b ∈ S
      · rw [if_pos z] at g
        exact g
      · rw [if_neg z] at g
        exact r.wf.sub _ _ g
    · obtain ⟨g1, t, g2, g3⟩ := r.wf.sto b hb
      refine ⟨?_, t, stok_same sP g2, g3⟩
      unfold join
      rw [if_neg (fun z => (nS b z).2.2 hb)]
      exact g1
  have ja : join P H S a = none := by
    unfold join
    rw [if_neg aS]
    exact na.1
  have own : ∀ {j}, IsOwn (env.set i (some (.own (OT.ts ts)))) j → IsOwn env j := fun {j} ⟨x, e, m⟩ => by
    by_cases z : j = i
    · subst z
      exact ⟨_, h, rfl⟩
    · rw [List.getElem?_set_ne (Ne.symm z)] at e
      exact ⟨_, e, m⟩
  have sub : ∀ {j c}, c ∈ (if j = i then [a] else ad j) → c ∈ ad j := fun {j c} hc => by
    by_cases z : j = i
    · rw [if_pos z] at hc
      rw [z, eS, List.mem_singleton.mp hc]
      exact List.mem_cons_self
    · rw [if_neg z] at hc
      exact hc
  refine ⟨join P H S, sP, ⟨wf, e0.sub.trans sP, e0.keep, fun b hb g => ?_, e0.lst⟩, wf, by rw [List.length_set]; exact r.len, fun k => if k = i then [a] else ad k, fun j k c ha hb ea eb => ?_, fun j x' e => ?_⟩
  · unfold join at g
    by_cases z : b ∈ S
    · exact (nS b z).2.1
    · rw [if_neg z] at g
      exact e0.new b hb g
  · exact h1 j k c (own ha) (own hb) (sub ea) (sub eb)
  · by_cases z : j = i
    · subst z
      rw [List.getElem?_set_self il] at e
      cases e
      show SlOk s H0 _ H (if j = j then [a] else ad j) _ _
      rw [if_pos rfl]
      exact ⟨a, rfl, ev, ja, na.2.1, na.2.2, vs, d1, ots_data sP (fun b o hb ho => by
        unfold join
        rw [if_pos hb]
        exact ho) d2, by rw [ots_len]; exact d3⟩
    · rw [List.getElem?_set_ne (Ne.symm z)] at e
      have g := h2 j x' e
      show SlOk s H0 _ H (if j = i then [a] else ad j) _ _
      rw [if_neg z]
      refine slok_up sP (fun mm b ha => ?_) (fun mm b o ha ho => ho) g
      unfold join
      rw [if_neg (fun zz => z (h1 j i b ⟨_, e, mm⟩ ⟨_, h, rfl⟩ ha (by rw [eS]; exact List.mem_cons_of_mem _ zz)))]
      exact (slok_mine mm g b ha).1
section
variable {A : Ad} {E : EK} {s1 : TS} {m1 : MS}
/-- ahead of a statement: the tree in slot i becomes a list of one's own whose items are data -/
def mFlat (i : Nat) (ms : MS) : MS := fun env M => ∃ ts, env[i]? = some (some (.tr (.lst ts))) ∧ ms (env.set i (some (.own (OT.ts ts)))) M
theorem rs_flat (i : Nat) (h1 : RS A E s1 m1) : RS A E s1 (mFlat i m1) := fun s P0 H0 P σ H env D M e re l ⟨ts, g, h⟩ => by
  obtain ⟨P', sp, e', re'⟩ := re.flat e g
  exact h1 s P0 H0 P' σ H _ D M e' re' (l.up sp) h
end
end Mt
/-! ### the head by one run in the kernel: what the top leaves, as facts that the run looks at -/
namespace Mt
open PySem PySem.Spec PyProof.Rows L2 L2H
/-- a def: where it stands, its name, its qualified name, its text -/
structure FnG where
  ad : PySem.W.Frag → Addr
  name : Str
  qual : Str
  st : Stmt
abbrev FnGV : Type := Option (Str × Str × Arguments × FuncBody × Scope × Addr × List (Str × Addr) × Value × Addr)
def fnG (K : PySem.W.Frag) (a : Addr) : FnGV := match K.lookup a with
  | some ⟨_, _, .func fd, _⟩ => some (fd.name, fd.qualname, fd.params, fd.body, fd.scope, fd.globals, fd.closure, fd.defaults, fd.builtins)
  | _ => none
def FnG.val (d : FnG) : FnGV := some (d.name, d.qual, defArgs d.st, .stmts (defBody d.st), defScope d.st, mainGlobals, [], .none, builtinsNs)
def FnG.ok (K : PySem.W.Frag) (d : FnG) : Bool := PySem.W.keepIn K (.ref (d.ad K)) && (match K.lookup (d.ad K) with
  | some ⟨_, _, .func fd, _⟩ => PySem.W.codeIn K fd.code d.qual
  | _ => false)
theorem FnG.get {K : PySem.W.Frag} {d : FnG} (e : fnG K (d.ad K) = d.val) (c : d.ok K = true) :
    ∃ oc od osl kV doc pm an cdv ct, K.lookup (d.ad K) = some ⟨oc, od, .func (PySem.W.fnOf d.name d.qual (defArgs d.st) (defBody d.st) (defScope d.st) .none kV doc pm an cdv ct), osl⟩ ∧ PySem.W.codeIn K cdv d.qual = true ∧ PySem.W.keepIn K (.ref (d.ad K)) = true := by
  unfold FnG.ok at c
  unfold fnG FnG.val at e
  rw [Bool.and_eq_true] at c
  revert c e
  generalize d.ad K = adr
  intro e ⟨ck, cc⟩
  generalize hl : K.lookup adr = lo at e cc
  match lo, hl, e, cc with
  | some ⟨k1, k2, .func ⟨f1, f2, f3, f4, f5, f6, f7, f8, g1, g2, g3, g4, g5, g6, f9⟩, k3⟩, hl, e, cc =>
    simp only [Option.some.injEq, Prod.mk.injEq] at e
    rcases e with ⟨rfl, rfl, rfl, rfl, rfl, rfl, rfl, rfl, rfl⟩
    exact ⟨k1, k2, k3, g1, g2, g3, g4, g5, g6, rfl, cc, ck⟩
theorem FnG.fn {K : PySem.W.Frag} {d : FnG} (e : fnG K (d.ad K) = d.val) (c : d.ok K = true) : ∃ fd, Fun K d.name d.qual d.st (d.ad K) fd := by
  obtain ⟨oc, od, osl, kV, doc, pm, an, cdv, ct, l, h, k⟩ := FnG.get e c
  exact ⟨_, fun_mk l h k⟩
/-- the defaults of a def's keyword-only arguments -/
def kwV (K : PySem.W.Frag) (kV : Value) (kws : List (Str × V)) : Bool := match kV with
  | .ref D => kws.all fun q => (match PySem.W.nsIn K D q.1 with
    | some (some u) => He.relB q.2 u
    | _ => false)
  | _ => false
def kwB (K : PySem.W.Frag) (a : Addr) (kws : List (Str × V)) : Bool := match K.lookup a with
  | some ⟨_, _, .func fd, _⟩ => kwV K fd.kwdefaults kws
  | _ => false
theorem FnG.both {K : PySem.W.Frag} {d : FnG} {kws : List (Str × V)} (e : fnG K (d.ad K) = d.val) (c : d.ok K = true) (b : kwB K (d.ad K) kws = true) :
    ∃ fd, Fun K d.name d.qual d.st (d.ad K) fd ∧ FunD K d.name d.qual (defArgs d.st) (defBody d.st) (defScope d.st) [] kws (d.ad K) fd := by
  obtain ⟨oc, od, osl, kV, doc, pm, an, cdv, ct, l, h, k⟩ := FnG.get e c
  unfold kwB at b
  rw [l] at b
  have b2 : kwV K kV kws = true := b
  unfold kwV at b2
  cases kV with
  | ref D =>
    refine ⟨_, both_mk l rfl h k fun q hq => ?_⟩
    have b3 := List.all_eq_true.mp b2 q hq
    cases z : PySem.W.nsIn K D q.1 with
    | none =>
      rw [z] at b3
      cases b3
    | some v =>
      cases v with
      | none =>
        rw [z] at b3
        cases b3
      | some u =>
        rw [z] at b3
        exact ⟨u, rfl, He.relB_ok b3⟩
  | _ => cases b2
/-- a tuple that the top binds -/
def ktB (K : PySem.W.Frag) (a : Addr) (vs : List V) : Bool := match K.lookup a with
  | some ⟨.type n, _, .seq its _, _⟩ => decide (n = "tuple") && (decide (its.size ≤ sizeLine) && He.relAll vs its.toList)
  | _ => false
theorem ktB_ok {K : PySem.W.Frag} {a : Addr} {vs : List V} (h : ktB K a vs = true) : ∃ (o : Obj) (its : Array Value) (n : Nat), K.lookup a = some o ∧ o.cls = .type "tuple" ∧ o.data = .seq its n ∧ its.size ≤ sizeLine ∧ Vals vs its.toList := by
  unfold ktB at h
  split at h
  · rename_i n d its m sl q
    obtain ⟨h1, h2⟩ := Bool.and_eq_true_iff.mp h
    obtain ⟨h2, h3⟩ := Bool.and_eq_true_iff.mp h2
    refine ⟨_, its, m, q, ?_, rfl, of_decide_eq_true h2, He.relAll_ok h3⟩
    rw [of_decide_eq_true h1]
  · cases h
/-- a dict of ints that the top binds -/
def entsB : List DictEntry → List (Int × T) → Bool
  | [], [] => true
  | e :: es, kv :: kvs => decide (e.hash = hashInt kv.1) && ((match e.key with
    | .int i _ => decide (i = kv.1)
    | _ => false) && (tvOk kv.2 && (He.relB (tv kv.2) e.val && entsB es kvs)))
  | _, _ => false
theorem entsB_ok : ∀ {es : List DictEntry} {kvs : List (Int × T)}, entsB es kvs = true → IntEnts es kvs
  | [], [], _ => trivial
  | [], _ :: _, h => by cases h
  | _ :: _, [], h => by cases h
  | e :: es, kv :: kvs, h => by
    rw [entsB] at h
    simp only [Bool.and_eq_true] at h
    obtain ⟨h1, h2, h3, h4, h5⟩ := h
    refine ⟨⟨of_decide_eq_true h1, ?_, h3, He.relB_ok h4⟩, entsB_ok h5⟩
    split at h2
    · rename_i i t q
      rw [q, of_decide_eq_true h2]
      exact ⟨t, rfl⟩
    · cases h2
def kdB (K : PySem.W.Frag) (a : Addr) (kvs : List (Int × T)) : Bool := match K.lookup a with
  | some ⟨.type n, none, .dict es _, sl⟩ => decide (n = "dict") && (decide (sl.size = 0) && entsB es.toList kvs)
  | _ => false
theorem kdB_ok {K : PySem.W.Frag} {a : Addr} {kvs : List (Int × T)} (h : kdB K a kvs = true) : ∃ es n, K.lookup a = some ⟨.type "dict", none, .dict es n, #[]⟩ ∧ IntEnts es.toList kvs := by
  unfold kdB at h
  split at h
  · rename_i n es m sl q
    obtain ⟨h1, h2⟩ := Bool.and_eq_true_iff.mp h
    obtain ⟨h2, h3⟩ := Bool.and_eq_true_iff.mp h2
    refine ⟨es, m, ?_, entsB_ok h3⟩
    rw [q, of_decide_eq_true h1, Array.eq_empty_of_size_eq_zero (of_decide_eq_true h2)]
  · cases h
/-- the item of a dict of ints -/
def kdAt (K : PySem.W.Frag) (a : Addr) (i : Int) : Addr := match K.lookup a with
  | some ⟨_, _, .dict es _, _⟩ => (match es.toList.find? fun e => (match e.key with
    | .int j _ => decide (j = i)
    | _ => false) with
    | some e => (match e.val with
      | .ref b => b
      | _ => 0)
    | none => 0)
  | _ => 0
/-- an error's class -/
def excB (K : PySem.W.Frag) (a : Addr) : Bool := match K.lookup a with
  | some ⟨.type n, _, .cls cd, sl⟩ => decide (n = "type") && (match cd.mro, sl.toList with
    | .ref C :: bm, [_, _, _, _, some (.builtin m), _] => decide (C = a) && (decide (m = "ValueError.__new__") && (cd.hasDict && (!cd.hasDel && PySem.HandSPX.refsVE bm)))
    | _, _ => false)
  | _ => false
theorem excB_ok {K : PySem.W.Frag} {a : Addr} (h : excB K a = true) : ∃ (nm q : Str) (N : Addr) (bs bm : List Value) (sn : List Str) (sub : List Value) (ab : Bool) (col : Option Bool) (dd : Option Addr) (e0 e1 e2 e3 e5 : Option Value),
    K.lookup a = some (excClassObj nm q a N bs bm true sn sub ab col dd e0 e1 e2 e3 e5 "ValueError.__new__") ∧ PySem.HandSPX.refsVE bm = true := by
  unfold excB at h
  split at h
  · rename_i n d cd sl q
    obtain ⟨h1, h2⟩ := Bool.and_eq_true_iff.mp h
    split at h2
    · rename_i C bm e0 e1 e2 e3 m e5 hm hs
      obtain ⟨g2, h3⟩ := Bool.and_eq_true_iff.mp h2
      obtain ⟨g3, h4⟩ := Bool.and_eq_true_iff.mp h3
      obtain ⟨g4, h5⟩ := Bool.and_eq_true_iff.mp h4
      obtain ⟨g5, h6⟩ := Bool.and_eq_true_iff.mp h5
      have e1' := of_decide_eq_true h1
      have e2' := of_decide_eq_true g2
      have e3' := of_decide_eq_true g3
      clear h h1 h2 h3 h4 h5 g2 g3
      subst e1' e2' e3'
      obtain ⟨c1, c2, c3, c4, c5, c6, c7, c8, c9, c10, c11⟩ := cd
      simp only at hm g4 g5
      subst hm g4
      have h11 : c11 = false := by simpa using g5
      subst h11
      have hs2 : sl = #[e0, e1, e2, e3, some (.builtin "ValueError.__new__"), e5] := by
        cases sl
        simp only at hs
        rw [hs]
      subst hs2
      exact ⟨_, _, _, _, bm, _, _, _, _, _, e0, e1, e2, e3, e5, q, h6⟩
    · cases h2
  · cases h
/-- where a class keeps a method's function, behind a property too -/
def propA (K : PySem.W.Frag) (p : Addr) : Addr := match PySem.W.recIn K p "property" with
  | some (.ref g :: _) => g
  | _ => 0
def recB (K : PySem.W.Frag) (p : Addr) : Bool := match PySem.W.recIn K p "property" with
  | some (.ref _ :: _) => true
  | _ => false
theorem recB_ok {K : PySem.W.Frag} {p : Addr} (h : recB K p = true) : ∃ rest, PySem.W.recIn K p "property" = some (.ref (propA K p) :: rest) := by
  unfold recB at h
  unfold propA
  split at h
  · rename_i g rest q
    rw [q]
    exact ⟨rest, rfl⟩
  · cases h
/-- the token of an int that the top binds -/
def tokA (K : PySem.W.Frag) (x : Str) : Tok := match PySem.W.nsIn K mainGlobals x with
  | some (some (.int _ t)) => t
  | _ => default
/-! the run's Hook -/
abbrev AlX : Type := Bool × List FnGV
def obsX (fx : List (PySem.W.Frag → Bool)) (fn : List FnG) (K : PySem.W.Frag) : AlX := (fx.all (fun f => f K) && fn.all (fun d => d.ok K), fn.map fun d => fnG K (d.ad K))
def valX (fn : List FnG) : AlX := (true, fn.map FnG.val)
def SaysX (fx : List (PySem.W.Frag → Bool)) (fn : List FnG) (K : PySem.W.Frag) : Prop := obsX fx fn K = valX fn
def obsXG (as : List Addr) (fx : List (PySem.W.Frag → Bool)) (fn : List FnG) (g : Addr → Option Obj) : AlX := obsX fx fn (He.frG g as)
def hookX (as : List Addr) (fx : List (PySem.W.Frag → Bool)) (fn : List FnG) : PySem.W.Hook where
  α := AlX
  obs := fun s => obsXG as fx fn s.heap.get?
  val := fun _ => valX fn
  says := fun _ h => ∃ K : PySem.W.Frag, K.In h ∧ SaysX fx fn K
  of := fun _ _ e => ⟨_, He.frG_in, e⟩
  keeps := fun _ _ _ ⟨part, inH, said⟩ kept => ⟨part, PySem.W.Frag.In.keeps inH kept, said⟩
theorem obsXG_eq {as : List Addr} {fx : List (PySem.W.Frag → Bool)} {fn : List FnG} {g : Addr → Option Obj} {s : Shared} (h : ∀ a, g a = s.heap.get? a) : obsXG as fx fn g = (hookX as fx fn).obs s := by
  have eqg : g = s.heap.get? := funext fun a => h a
  subst eqg
  rfl
section
variable {fx : List (PySem.W.Frag → Bool)} {fn : List FnG} {K : PySem.W.Frag}
theorem SaysX.two (c : SaysX fx fn K) : fx.all (fun f => f K) = true ∧ fn.all (fun d => d.ok K) = true := Bool.and_eq_true_iff.mp (show (fx.all (fun f => f K) && fn.all (fun d => d.ok K)) = true from congrArg (fun z : AlX => z.1) c)
theorem SaysX.fact (c : SaysX fx fn K) (i : Nat) {f : PySem.W.Frag → Bool} (h : fx[i]? = some f := by rfl) : f K = true := List.all_eq_true.mp c.two.1 f (List.mem_of_getElem? h)
theorem SaysX.eqs (c : SaysX fx fn K) (i : Nat) {d : FnG} (h : fn[i]? = some d) : fnG K (d.ad K) = d.val ∧ d.ok K = true := by
  have same : fn.map (fun x => fnG K (x.ad K)) = fn.map FnG.val := congrArg Prod.snd c
  have at_i := congrArg (fun l : List FnGV => l[i]?) same
  simp only [List.getElem?_map, h, Option.map_some, Option.some.injEq] at at_i
  exact ⟨at_i, List.all_eq_true.mp c.two.2 d (List.mem_of_getElem? h)⟩
theorem SaysX.def_ (c : SaysX fx fn K) (i : Nat) {d : FnG} (h : fn[i]? = some d := by rfl) : ∃ fd, Fun K d.name d.qual d.st (d.ad K) fd := FnG.fn (c.eqs i h).1 (c.eqs i h).2
theorem SaysX.defD (c : SaysX fx fn K) (i : Nat) {d : FnG} {kws : List (Str × V)} (b : kwB K (d.ad K) kws = true) (h : fn[i]? = some d := by rfl) : ∃ fd, Fun K d.name d.qual d.st (d.ad K) fd ∧ FunD K d.name d.qual (defArgs d.st) (defBody d.st) (defScope d.st) [] kws (d.ad K) fd := FnG.both (c.eqs i h).1 (c.eqs i h).2 b
end
/-- a law's end over such a head -/
theorem walk_ofX {l : PySem.W.OpenLaw} {n k : Nat} {q : Program} {loose : List Str} {XP : (Str → Option Value) → Heap → Prop} {YP : World → Heap → Prop} {d : DefRec} {CX : World → CXT} {x : Str}
    (most : l.most = some n) (line : n ≤ sizeLine) (plain : d.params.defaults = []) (room : Room k callerA)
    (F : ∀ (w : World) (mg : Str → Option Value) (fa : Addr) (h : Heap), YP w h → h.Ns mainGlobals mg → mg d.name = some (.ref fa) → ∃ (K : PySem.W.Frag) (fd : FuncData) (sp : Sp), K.In h ∧ (∀ (s : Shared) (u : Value), BindsTo s fd ⟨[u], []⟩ [(x, u)]) ∧ (∀ (H : Hp) (a : Addr) (ns : List Int), ns.length ≤ n → Only H → SqL K H a (ns.map V.int) → sp [.ref a] H (fun v _ => v = .bl true) fun _ _ _ => False) ∧ ∀ base : Heap, K.In base → base.Ns mainGlobals mg → FnOk l.prog w K mg base (CX w) k fa fd [x] sp)
    (none : ∀ (w : World) (H : Hp) (s : Shared) (e : Value) (s' : Shared), CX w [] H s (fun _ _ _ => False) e s' → False) : PySem.W.WalkO q loose XP YP l.row.toRowW d [] (fun f vs => PySem.call f vs) := by
  refine Att.attach_call most plain fun w t0 t1 mg mb fa ob pm cd doc a vs ns up says hob hdt hcd named isl ary len gen => ?_
  obtain ⟨K, fd, sp, inH, binds, pre, ok⟩ := F w mg fa _ says up.T.g named
  exact law_call inH up.T.g up.T.b up.T.builtins up.T.nolimit gen isl ary (Nat.le_trans len line) room ok binds (fun H only seq => pre H a ns len only seq) fun H e t2 => none w H t1 e t2
end Mt
namespace Mt
open PySem PySem.Spec PyProof.Rows L2 L2H
def topS (i : Nat) : Stmt := PySem.Challenge.pw_mendsontime_k31_pattern_text_round_trip.main.body.getD i (.Pass ⟨0, 0, 0, 0⟩)
structure Txt (K : PySem.W.Frag) (mg : Str → Option Value) (A : Ad) (tk : Nat → Tok) : Prop where
  m_ValueError : mg "ValueError" = none
  m_abs : mg "abs" = none
  m_all : mg "all" = none
  m_bool : mg "bool" = none
  m_int : mg "int" = none
  m_isinstance : mg "isinstance" = none
  m_len : mg "len" = none
  m_list : mg "list" = none
  m_max : mg "max" = none
  m_range : mg "range" = none
  m_str : mg "str" = none
  m_tuple : mg "tuple" = none
  m_type : mg "type" = none
  g_MendError : mg "MendError" = some (.ref A.me)
  g_BadNumber : mg "BadNumber" = some (.ref A.bn)
  g_BadShape : mg "BadShape" = some (.ref A.bs)
  g_BadElement : mg "BadElement" = some (.ref A.be)
  g_BadText : mg "BadText" = some (.ref A.bt)
  g_TooLarge : mg "TooLarge" = some (.ref A.tl)
  g_Clash : mg "Clash" = some (.ref A.cl)
  g_NoInverse : mg "NoInverse" = some (.ref A.ni)
  g_NotMade : mg "NotMade" = some (.ref A.nm)
  g_Ended : mg "Ended" = some (.ref A.en)
  g_MOST_BEATS : mg "MOST_BEATS" = some (.int 800 (tk 0))
  g_MOST_ROUND : mg "MOST_ROUND" = some (.int 8 (tk 1))
abbrev s_is_whole : Stmt := topS 11
theorem sc_is_whole : FnScope ["value", "low", "high"] ["value", "low", "high"] (defScope s_is_whole) := ⟨rfl, rfl, rfl, by decide +kernel, rfl, by decide +kernel, by decide +kernel⟩
abbrev s_check_number : Stmt := topS 12
theorem sc_check_number : FnScope ["value", "low", "high", "argument"] ["value", "low", "high", "argument"] (defScope s_check_number) := ⟨rfl, rfl, rfl, by decide +kernel, rfl, by decide +kernel, by decide +kernel⟩
abbrev s_check_element : Stmt := topS 13
theorem sc_check_element : FnScope ["value", "size", "argument"] ["value", "size", "argument"] (defScope s_check_element) := ⟨rfl, rfl, rfl, by decide +kernel, rfl, by decide +kernel, by decide +kernel⟩
abbrev s_check_list : Stmt := topS 14
theorem sc_check_list : FnScope ["value", "most", "argument", "exact"] ["value", "most", "argument", "exact"] (defScope s_check_list) := ⟨rfl, rfl, rfl, by decide +kernel, rfl, by decide +kernel, by decide +kernel⟩
abbrev s_check_entries : Stmt := topS 15
theorem sc_check_entries : FnScope ["row", "size", "argument", "entry"] ["row", "size", "argument"] (defScope s_check_entries) := ⟨rfl, rfl, rfl, by decide +kernel, rfl, by decide +kernel, by decide +kernel⟩
abbrev s_check_pattern : Stmt := topS 16
theorem sc_check_pattern : FnScope ["pattern", "most", "argument", "exact"] ["pattern", "most", "argument", "exact"] (defScope s_check_pattern) := ⟨rfl, rfl, rfl, by decide +kernel, rfl, by decide +kernel, by decide +kernel⟩
abbrev s_round_pattern : Stmt := topS 20
theorem sc_round_pattern : FnScope ["lost", "heard", "beats", "beat"] ["lost", "heard", "beats"] (defScope s_round_pattern) := ⟨rfl, rfl, rfl, by decide +kernel, rfl, by decide +kernel, by decide +kernel⟩
abbrev s_pattern_text : Stmt := topS 21
theorem sc_pattern_text : FnScope ["pattern", "flag"] ["pattern"] (defScope s_pattern_text) := ⟨rfl, rfl, rfl, by decide +kernel, rfl, by decide +kernel, by decide +kernel⟩
abbrev s_read_pattern : Stmt := topS 22
theorem sc_read_pattern : FnScope ["text", "sign"] ["text"] (defScope s_read_pattern) := ⟨rfl, rfl, rfl, by decide +kernel, rfl, by decide +kernel, by decide +kernel⟩
abbrev s_law_mixed : Stmt := topS 24
theorem sc_law_mixed : FnScope ["number", "turn", "first", "second"] ["number", "turn"] (defScope s_law_mixed) := ⟨rfl, rfl, rfl, by decide +kernel, rfl, by decide +kernel, by decide +kernel⟩
abbrev s_law_store : Stmt := topS 25
theorem sc_law_store : FnScope ["script", "seed", "cell"] ["script"] (defScope s_law_store) := ⟨rfl, rfl, rfl, by decide +kernel, rfl, by decide +kernel, by decide +kernel⟩
abbrev s_law_take : Stmt := topS 26
theorem sc_law_take : FnScope ["store", "many", "number"] ["store", "many"] (defScope s_law_take) := ⟨rfl, rfl, rfl, by decide +kernel, rfl, by decide +kernel, by decide +kernel⟩
abbrev s_law_edge : Stmt := topS 27
theorem sc_law_edge : FnScope ["store", "low", "high", "way"] ["store", "low", "high"] (defScope s_law_edge) := ⟨rfl, rfl, rfl, by decide +kernel, rfl, by decide +kernel, by decide +kernel⟩
abbrev s_law_small : Stmt := topS 28
theorem sc_law_small : FnScope ["store", "low", "usual", "high"] ["store", "low", "usual", "high"] (defScope s_law_small) := ⟨rfl, rfl, rfl, by decide +kernel, rfl, by decide +kernel, by decide +kernel⟩
abbrev s_law_is_int : Stmt := topS 29
theorem sc_law_is_int : FnScope ["value"] ["value"] (defScope s_law_is_int) := ⟨rfl, rfl, rfl, by decide +kernel, rfl, by decide +kernel, by decide +kernel⟩
abbrev s_law_same : Stmt := topS 30
theorem sc_law_same : FnScope ["left", "right", "k"] ["left", "right"] (defScope s_law_same) := ⟨rfl, rfl, rfl, by decide +kernel, rfl, by decide +kernel, by decide +kernel⟩
abbrev s_law_copy : Stmt := topS 31
theorem sc_law_copy : FnScope ["value", "part"] ["value"] (defScope s_law_copy) := ⟨rfl, rfl, rfl, by decide +kernel, rfl, by decide +kernel, by decide +kernel⟩
abbrev s_law_lists : Stmt := topS 32
theorem sc_law_lists : FnScope ["value", "depth", "found", "part"] ["value", "depth"] (defScope s_law_lists) := ⟨rfl, rfl, rfl, by decide +kernel, rfl, by decide +kernel, by decide +kernel⟩
abbrev s_law_apart : Stmt := topS 33
theorem sc_law_apart : FnScope ["value", "found", "sizes", "k", "row"] ["value"] (defScope s_law_apart) := ⟨rfl, rfl, rfl, by decide +kernel, rfl, by decide +kernel, by decide +kernel⟩
abbrev s_law_char : Stmt := topS 34
theorem sc_law_char : FnScope ["store", "chars"] ["store"] (defScope s_law_char) := ⟨rfl, rfl, rfl, by decide +kernel, rfl, by decide +kernel, by decide +kernel⟩
abbrev s_law_text : Stmt := topS 35
theorem sc_law_text : FnScope ["store", "most", "k"] ["store", "most"] (defScope s_law_text) := ⟨rfl, rfl, rfl, by decide +kernel, rfl, by decide +kernel, by decide +kernel⟩
abbrev s_law_strange : Stmt := topS 36
theorem sc_law_strange : FnScope ["store", "most", "text", "at"] ["store", "most"] (defScope s_law_strange) := ⟨rfl, rfl, rfl, by decide +kernel, rfl, by decide +kernel, by decide +kernel⟩
abbrev s_law_not_number : Stmt := topS 37
theorem sc_law_not_number : FnScope ["store", "low", "high", "found"] ["store", "low", "high"] (defScope s_law_not_number) := ⟨rfl, rfl, rfl, by decide +kernel, rfl, by decide +kernel, by decide +kernel⟩
abbrev s_law_not_list : Stmt := topS 38
theorem sc_law_not_list : FnScope ["store", "row", "none", "found"] ["store", "row", "none"] (defScope s_law_not_list) := ⟨rfl, rfl, rfl, by decide +kernel, rfl, by decide +kernel, by decide +kernel⟩
abbrev s_law_not_upto : Stmt := topS 39
theorem sc_law_not_upto : FnScope ["store", "size", "row", "most", "way", "found", "at", "k"] ["store", "size", "row", "most"] (defScope s_law_not_upto) := ⟨rfl, rfl, rfl, by decide +kernel, rfl, by decide +kernel, by decide +kernel⟩
abbrev s_law_kind : Stmt := topS 40
theorem sc_law_kind : FnScope ["error", "found"] ["error"] (defScope s_law_kind) := ⟨rfl, rfl, rfl, by decide +kernel, rfl, by decide +kernel, by decide +kernel⟩
abbrev s_law_flags : Stmt := topS 41
theorem sc_law_flags : FnScope ["store", "beats", "way", "found", "flag", "k"] ["store", "beats"] (defScope s_law_flags) := ⟨rfl, rfl, rfl, by decide +kernel, rfl, by decide +kernel, by decide +kernel⟩
abbrev s_law_pattern : Stmt := topS 42
theorem sc_law_pattern : FnScope ["store", "usual", "most"] ["store", "usual", "most"] (defScope s_law_pattern) := ⟨rfl, rfl, rfl, by decide +kernel, rfl, by decide +kernel, by decide +kernel⟩
abbrev s_law_dots : Stmt := topS 43
theorem sc_law_dots : FnScope ["pattern", "flag"] ["pattern"] (defScope s_law_dots) := ⟨rfl, rfl, rfl, by decide +kernel, rfl, by decide +kernel, by decide +kernel⟩
abbrev s_law_not_dots : Stmt := topS 44
theorem sc_law_not_dots : FnScope ["store", "pattern", "text", "way", "at"] ["store", "pattern"] (defScope s_law_not_dots) := ⟨rfl, rfl, rfl, by decide +kernel, rfl, by decide +kernel, by decide +kernel⟩
abbrev s_law_asked_read : Stmt := topS 45
theorem sc_law_asked_read : FnScope ["text", "e", "answer"] ["text"] (defScope s_law_asked_read) := ⟨rfl, rfl, rfl, by decide +kernel, rfl, by decide +kernel, by decide +kernel⟩
abbrev s_law_asked_text : Stmt := topS 46
theorem sc_law_asked_text : FnScope ["flags", "handed", "e", "answer"] ["flags"] (defScope s_law_asked_text) := ⟨rfl, rfl, rfl, by decide +kernel, rfl, by decide +kernel, by decide +kernel⟩
abbrev s_law_asked_round : Stmt := topS 47
theorem sc_law_asked_round : FnScope ["out", "back", "beats", "e", "answer"] ["out", "back", "beats"] (defScope s_law_asked_round) := ⟨rfl, rfl, rfl, by decide +kernel, rfl, by decide +kernel, by decide +kernel⟩
abbrev s_law_round_trip : Stmt := topS 48
theorem sc_law_round_trip : FnScope ["flags", "text", "told", "back", "flag"] ["flags"] (defScope s_law_round_trip) := ⟨rfl, rfl, rfl, by decide +kernel, rfl, by decide +kernel, by decide +kernel⟩
abbrev s_law_bad_texts : Stmt := topS 49
theorem sc_law_bad_texts : FnScope ["store", "flags", "k", "bad", "name"] ["store", "flags"] (defScope s_law_bad_texts) := ⟨rfl, rfl, rfl, by decide +kernel, rfl, by decide +kernel, by decide +kernel⟩
abbrev s_law_repeats : Stmt := topS 50
theorem sc_law_repeats : FnScope ["out", "back", "flags", "k"] ["out", "back", "flags"] (defScope s_law_repeats) := ⟨rfl, rfl, rfl, by decide +kernel, rfl, by decide +kernel, by decide +kernel⟩
abbrev s_law_round_right : Stmt := topS 51
theorem sc_law_round_right : FnScope ["out", "back", "beats", "told", "kept", "flag"] ["out", "back", "beats"] (defScope s_law_round_right) := ⟨rfl, rfl, rfl, by decide +kernel, rfl, by decide +kernel, by decide +kernel⟩
abbrev s_law_bad_rounds : Stmt := topS 52
theorem sc_law_bad_rounds : FnScope ["store", "out", "back", "k", "bad", "past", "beats"] ["store", "out", "back"] (defScope s_law_bad_rounds) := ⟨rfl, rfl, rfl, by decide +kernel, rfl, by decide +kernel, by decide +kernel⟩
abbrev s_law : Stmt := topS 53
theorem sc_law : FnScope ["script", "store", "flags", "out", "back", "beats"] ["script"] (defScope s_law) := ⟨rfl, rfl, rfl, by decide +kernel, rfl, by decide +kernel, by decide +kernel⟩
abbrev s_BadNumber___init__ : Stmt := inClass (topS 2) 0
theorem sc_BadNumber___init__ : FnScope ["self", "argument"] ["self", "argument"] (defScope s_BadNumber___init__) := ⟨rfl, rfl, rfl, by decide +kernel, rfl, by decide +kernel, by decide +kernel⟩
abbrev s_BadShape___init__ : Stmt := inClass (topS 3) 0
theorem sc_BadShape___init__ : FnScope ["self", "argument"] ["self", "argument"] (defScope s_BadShape___init__) := ⟨rfl, rfl, rfl, by decide +kernel, rfl, by decide +kernel, by decide +kernel⟩
abbrev s_BadElement___init__ : Stmt := inClass (topS 4) 0
theorem sc_BadElement___init__ : FnScope ["self", "argument"] ["self", "argument"] (defScope s_BadElement___init__) := ⟨rfl, rfl, rfl, by decide +kernel, rfl, by decide +kernel, by decide +kernel⟩
abbrev s_BadText___init__ : Stmt := inClass (topS 5) 0
theorem sc_BadText___init__ : FnScope ["self", "line"] ["self", "line"] (defScope s_BadText___init__) := ⟨rfl, rfl, rfl, by decide +kernel, rfl, by decide +kernel, by decide +kernel⟩
abbrev s_TooLarge___init__ : Stmt := inClass (topS 6) 0
theorem sc_TooLarge___init__ : FnScope ["self", "bound"] ["self", "bound"] (defScope s_TooLarge___init__) := ⟨rfl, rfl, rfl, by decide +kernel, rfl, by decide +kernel, by decide +kernel⟩
abbrev s_Clash___init__ : Stmt := inClass (topS 7) 0
theorem sc_Clash___init__ : FnScope ["self", "moment"] ["self", "moment"] (defScope s_Clash___init__) := ⟨rfl, rfl, rfl, by decide +kernel, rfl, by decide +kernel, by decide +kernel⟩
/-- the errors that this program raises -/
def ecAl : Ec → Bool
  | .bn => true
  | .bs => true
  | .be => true
  | _ => false
/-- those that bear nothing -/
def zlAl : Ez → Bool
  | _ => false
/-- those that bear another thing -/
def blAl : Ec → Bool
  | .bt => true
  | _ => false
end Mt
namespace Mt
open PySem PySem.Spec PyProof.Rows L2 L2H
def fa_0 (K : PySem.W.Frag) : Bool := decide (PySem.W.nsIn K mainGlobals "BadNumber" = some (some (.ref (He.ga K "BadNumber"))))
def fa_1 (K : PySem.W.Frag) : Bool := decide (PySem.W.nsIn K mainGlobals "BadShape" = some (some (.ref (He.ga K "BadShape"))))
def fa_2 (K : PySem.W.Frag) : Bool := decide (PySem.W.nsIn K mainGlobals "BadElement" = some (some (.ref (He.ga K "BadElement"))))
def fa_3 (K : PySem.W.Frag) : Bool := decide (PySem.W.nsIn K mainGlobals "BadText" = some (some (.ref (He.ga K "BadText"))))
def fa_4 (K : PySem.W.Frag) : Bool := decide (PySem.W.nsIn K mainGlobals "TooLarge" = some (some (.ref (He.ga K "TooLarge"))))
def fa_5 (K : PySem.W.Frag) : Bool := decide (PySem.W.nsIn K mainGlobals "Clash" = some (some (.ref (He.ga K "Clash"))))
def fa_6 (K : PySem.W.Frag) : Bool := decide (PySem.W.nsIn K mainGlobals "NoInverse" = some (some (.ref (He.ga K "NoInverse"))))
def fa_7 (K : PySem.W.Frag) : Bool := decide (PySem.W.nsIn K mainGlobals "NotMade" = some (some (.ref (He.ga K "NotMade"))))
def fa_8 (K : PySem.W.Frag) : Bool := decide (PySem.W.nsIn K mainGlobals "Ended" = some (some (.ref (He.ga K "Ended"))))
def fa_9 (K : PySem.W.Frag) : Bool := decide (PySem.W.nsIn K mainGlobals "MendError" = some (some (.ref (He.ga K "MendError"))))
def fa_10 (K : PySem.W.Frag) : Bool := decide (PySem.W.nsIn K mainGlobals "MOST_BEATS" = some (some (.int 800 (tokA K "MOST_BEATS"))))
def fa_11 (K : PySem.W.Frag) : Bool := decide (PySem.W.nsIn K mainGlobals "MOST_ROUND" = some (some (.int 8 (tokA K "MOST_ROUND"))))
def fa_12 (K : PySem.W.Frag) : Bool := decide (PySem.W.nsIn K mainGlobals "ValueError" = some none)
def fa_13 (K : PySem.W.Frag) : Bool := decide (PySem.W.nsIn K mainGlobals "abs" = some none)
def fa_14 (K : PySem.W.Frag) : Bool := decide (PySem.W.nsIn K mainGlobals "all" = some none)
def fa_15 (K : PySem.W.Frag) : Bool := decide (PySem.W.nsIn K mainGlobals "bool" = some none)
def fa_16 (K : PySem.W.Frag) : Bool := decide (PySem.W.nsIn K mainGlobals "int" = some none)
def fa_17 (K : PySem.W.Frag) : Bool := decide (PySem.W.nsIn K mainGlobals "isinstance" = some none)
def fa_18 (K : PySem.W.Frag) : Bool := decide (PySem.W.nsIn K mainGlobals "len" = some none)
def fa_19 (K : PySem.W.Frag) : Bool := decide (PySem.W.nsIn K mainGlobals "list" = some none)
def fa_20 (K : PySem.W.Frag) : Bool := decide (PySem.W.nsIn K mainGlobals "max" = some none)
def fa_21 (K : PySem.W.Frag) : Bool := decide (PySem.W.nsIn K mainGlobals "range" = some none)
def fa_22 (K : PySem.W.Frag) : Bool := decide (PySem.W.nsIn K mainGlobals "str" = some none)
def fa_23 (K : PySem.W.Frag) : Bool := decide (PySem.W.nsIn K mainGlobals "tuple" = some none)
def fa_24 (K : PySem.W.Frag) : Bool := decide (PySem.W.nsIn K mainGlobals "type" = some none)
def fa_25 (K : PySem.W.Frag) : Bool := excB K (He.ga K "BadNumber")
def fa_26 (K : PySem.W.Frag) : Bool := decide (PySem.W.findIn K (.ref (He.ga K "BadNumber")) "__setattr__" = some (some (.builtin "object.__setattr__")))
def fa_27 (K : PySem.W.Frag) : Bool := decide (PySem.W.subIn K (.ref (He.ga K "BadNumber")) (.type "BaseException") = some true)
def fa_28 (K : PySem.W.Frag) : Bool := decide (PySem.W.typeIn K (.ref (He.ga K "BadNumber")) = some (.type "type"))
def fa_29 (K : PySem.W.Frag) : Bool := decide (PySem.W.keepIn K (.ref (He.ga K "BadNumber")) = true)
def fa_30 (K : PySem.W.Frag) : Bool := decide (PySem.W.findIn K (.ref (He.ga K "BadNumber")) "argument" = some none)
def fa_31 (K : PySem.W.Frag) : Bool := decide (PySem.W.findIn K (.ref (He.ga K "BadNumber")) "__init__" = some (some (.ref (He.ma K (He.ga K "BadNumber") "__init__"))))
def fa_32 (K : PySem.W.Frag) : Bool := decide (PySem.W.typeIn K (.ref (He.ma K (He.ga K "BadNumber") "__init__")) = some (.type "function"))
def fa_33 (K : PySem.W.Frag) : Bool := decide ((PySem.W.clsIn K (He.ga K "BadNumber")).isSome = true)
def fa_34 (K : PySem.W.Frag) : Bool := decide (PySem.W.findIn K (.ref (He.ga K "BadNumber")) "__getattribute__" = some (some (.builtin "BaseException.__getattribute__")))
def fa_35 (K : PySem.W.Frag) : Bool := decide (PySem.W.findIn K (.ref (He.ga K "BadNumber")) "__getattr__" = some none)
def fa_36 (K : PySem.W.Frag) : Bool := decide (PySem.W.hasDictIn K (He.ga K "BadNumber") = true)
def fa_37 (K : PySem.W.Frag) : Bool := decide (PySem.W.findIn K (.ref (He.ga K "BadNumber")) "__class__" = some (some (.builtin "object.__class__")))
def fa_38 (K : PySem.W.Frag) : Bool := decide (PySem.W.mroIn K (He.ga K "BadNumber") (.type "object") = some true)
def fa_39 (K : PySem.W.Frag) : Bool := decide (PySem.W.kitOne K (.ref (He.ga K "BadNumber")) (.ref (He.ga K "BadNumber")) = some true)
def fa_40 (K : PySem.W.Frag) : Bool := decide (PySem.W.kitOne K (.ref (He.ga K "BadNumber")) (.ref (He.ga K "BadShape")) = some false)
def fa_41 (K : PySem.W.Frag) : Bool := decide (PySem.W.kitOne K (.ref (He.ga K "BadNumber")) (.ref (He.ga K "BadElement")) = some false)
def fa_42 (K : PySem.W.Frag) : Bool := decide (PySem.W.kitOne K (.ref (He.ga K "BadNumber")) (.ref (He.ga K "BadText")) = some false)
def fa_43 (K : PySem.W.Frag) : Bool := decide (PySem.W.kitOne K (.ref (He.ga K "BadNumber")) (.ref (He.ga K "TooLarge")) = some false)
def fa_44 (K : PySem.W.Frag) : Bool := decide (PySem.W.kitOne K (.ref (He.ga K "BadNumber")) (.ref (He.ga K "Clash")) = some false)
def fa_45 (K : PySem.W.Frag) : Bool := decide (PySem.W.kitOne K (.ref (He.ga K "BadNumber")) (.ref (He.ga K "NoInverse")) = some false)
def fa_46 (K : PySem.W.Frag) : Bool := decide (PySem.W.kitOne K (.ref (He.ga K "BadNumber")) (.ref (He.ga K "NotMade")) = some false)
def fa_47 (K : PySem.W.Frag) : Bool := decide (PySem.W.kitOne K (.ref (He.ga K "BadNumber")) (.ref (He.ga K "Ended")) = some false)
def fa_48 (K : PySem.W.Frag) : Bool := decide (PySem.W.kitOne K (.ref (He.ga K "BadNumber")) (.ref (He.ga K "MendError")) = some true)
def fa_49 (K : PySem.W.Frag) : Bool := decide (PySem.W.kitOne K (.ref (He.ga K "BadNumber")) (.type "ValueError") = some true)
def fa_50 (K : PySem.W.Frag) : Bool := excB K (He.ga K "BadShape")
def fa_51 (K : PySem.W.Frag) : Bool := decide (PySem.W.findIn K (.ref (He.ga K "BadShape")) "__setattr__" = some (some (.builtin "object.__setattr__")))
def fa_52 (K : PySem.W.Frag) : Bool := decide (PySem.W.subIn K (.ref (He.ga K "BadShape")) (.type "BaseException") = some true)
def fa_53 (K : PySem.W.Frag) : Bool := decide (PySem.W.typeIn K (.ref (He.ga K "BadShape")) = some (.type "type"))
def fa_54 (K : PySem.W.Frag) : Bool := decide (PySem.W.keepIn K (.ref (He.ga K "BadShape")) = true)
def fa_55 (K : PySem.W.Frag) : Bool := decide (PySem.W.findIn K (.ref (He.ga K "BadShape")) "argument" = some none)
def fa_56 (K : PySem.W.Frag) : Bool := decide (PySem.W.findIn K (.ref (He.ga K "BadShape")) "__init__" = some (some (.ref (He.ma K (He.ga K "BadShape") "__init__"))))
def fa_57 (K : PySem.W.Frag) : Bool := decide (PySem.W.typeIn K (.ref (He.ma K (He.ga K "BadShape") "__init__")) = some (.type "function"))
def fa_58 (K : PySem.W.Frag) : Bool := decide ((PySem.W.clsIn K (He.ga K "BadShape")).isSome = true)
def fa_59 (K : PySem.W.Frag) : Bool := decide (PySem.W.findIn K (.ref (He.ga K "BadShape")) "__getattribute__" = some (some (.builtin "BaseException.__getattribute__")))
def fa_60 (K : PySem.W.Frag) : Bool := decide (PySem.W.findIn K (.ref (He.ga K "BadShape")) "__getattr__" = some none)
def fa_61 (K : PySem.W.Frag) : Bool := decide (PySem.W.hasDictIn K (He.ga K "BadShape") = true)
def fa_62 (K : PySem.W.Frag) : Bool := decide (PySem.W.findIn K (.ref (He.ga K "BadShape")) "__class__" = some (some (.builtin "object.__class__")))
def fa_63 (K : PySem.W.Frag) : Bool := decide (PySem.W.mroIn K (He.ga K "BadShape") (.type "object") = some true)
def fa_64 (K : PySem.W.Frag) : Bool := decide (PySem.W.kitOne K (.ref (He.ga K "BadShape")) (.ref (He.ga K "BadNumber")) = some false)
def fa_65 (K : PySem.W.Frag) : Bool := decide (PySem.W.kitOne K (.ref (He.ga K "BadShape")) (.ref (He.ga K "BadShape")) = some true)
def fa_66 (K : PySem.W.Frag) : Bool := decide (PySem.W.kitOne K (.ref (He.ga K "BadShape")) (.ref (He.ga K "BadElement")) = some false)
def fa_67 (K : PySem.W.Frag) : Bool := decide (PySem.W.kitOne K (.ref (He.ga K "BadShape")) (.ref (He.ga K "BadText")) = some false)
def fa_68 (K : PySem.W.Frag) : Bool := decide (PySem.W.kitOne K (.ref (He.ga K "BadShape")) (.ref (He.ga K "TooLarge")) = some false)
def fa_69 (K : PySem.W.Frag) : Bool := decide (PySem.W.kitOne K (.ref (He.ga K "BadShape")) (.ref (He.ga K "Clash")) = some false)
def fa_70 (K : PySem.W.Frag) : Bool := decide (PySem.W.kitOne K (.ref (He.ga K "BadShape")) (.ref (He.ga K "NoInverse")) = some false)
def fa_71 (K : PySem.W.Frag) : Bool := decide (PySem.W.kitOne K (.ref (He.ga K "BadShape")) (.ref (He.ga K "NotMade")) = some false)
def fa_72 (K : PySem.W.Frag) : Bool := decide (PySem.W.kitOne K (.ref (He.ga K "BadShape")) (.ref (He.ga K "Ended")) = some false)
def fa_73 (K : PySem.W.Frag) : Bool := decide (PySem.W.kitOne K (.ref (He.ga K "BadShape")) (.ref (He.ga K "MendError")) = some true)
def fa_74 (K : PySem.W.Frag) : Bool := decide (PySem.W.kitOne K (.ref (He.ga K "BadShape")) (.type "ValueError") = some true)
def fa_75 (K : PySem.W.Frag) : Bool := excB K (He.ga K "BadElement")
def fa_76 (K : PySem.W.Frag) : Bool := decide (PySem.W.findIn K (.ref (He.ga K "BadElement")) "__setattr__" = some (some (.builtin "object.__setattr__")))
def fa_77 (K : PySem.W.Frag) : Bool := decide (PySem.W.subIn K (.ref (He.ga K "BadElement")) (.type "BaseException") = some true)
def fa_78 (K : PySem.W.Frag) : Bool := decide (PySem.W.typeIn K (.ref (He.ga K "BadElement")) = some (.type "type"))
def fa_79 (K : PySem.W.Frag) : Bool := decide (PySem.W.keepIn K (.ref (He.ga K "BadElement")) = true)
def fa_80 (K : PySem.W.Frag) : Bool := decide (PySem.W.findIn K (.ref (He.ga K "BadElement")) "argument" = some none)
def fa_81 (K : PySem.W.Frag) : Bool := decide (PySem.W.findIn K (.ref (He.ga K "BadElement")) "__init__" = some (some (.ref (He.ma K (He.ga K "BadElement") "__init__"))))
def fa_82 (K : PySem.W.Frag) : Bool := decide (PySem.W.typeIn K (.ref (He.ma K (He.ga K "BadElement") "__init__")) = some (.type "function"))
def fa_83 (K : PySem.W.Frag) : Bool := decide ((PySem.W.clsIn K (He.ga K "BadElement")).isSome = true)
def fa_84 (K : PySem.W.Frag) : Bool := decide (PySem.W.findIn K (.ref (He.ga K "BadElement")) "__getattribute__" = some (some (.builtin "BaseException.__getattribute__")))
def fa_85 (K : PySem.W.Frag) : Bool := decide (PySem.W.findIn K (.ref (He.ga K "BadElement")) "__getattr__" = some none)
def fa_86 (K : PySem.W.Frag) : Bool := decide (PySem.W.hasDictIn K (He.ga K "BadElement") = true)
def fa_87 (K : PySem.W.Frag) : Bool := decide (PySem.W.findIn K (.ref (He.ga K "BadElement")) "__class__" = some (some (.builtin "object.__class__")))
def fa_88 (K : PySem.W.Frag) : Bool := decide (PySem.W.mroIn K (He.ga K "BadElement") (.type "object") = some true)
def fa_89 (K : PySem.W.Frag) : Bool := decide (PySem.W.kitOne K (.ref (He.ga K "BadElement")) (.ref (He.ga K "BadNumber")) = some false)
def fa_90 (K : PySem.W.Frag) : Bool := decide (PySem.W.kitOne K (.ref (He.ga K "BadElement")) (.ref (He.ga K "BadShape")) = some false)
def fa_91 (K : PySem.W.Frag) : Bool := decide (PySem.W.kitOne K (.ref (He.ga K "BadElement")) (.ref (He.ga K "BadElement")) = some true)
def fa_92 (K : PySem.W.Frag) : Bool := decide (PySem.W.kitOne K (.ref (He.ga K "BadElement")) (.ref (He.ga K "BadText")) = some false)
def fa_93 (K : PySem.W.Frag) : Bool := decide (PySem.W.kitOne K (.ref (He.ga K "BadElement")) (.ref (He.ga K "TooLarge")) = some false)
def fa_94 (K : PySem.W.Frag) : Bool := decide (PySem.W.kitOne K (.ref (He.ga K "BadElement")) (.ref (He.ga K "Clash")) = some false)
def fa_95 (K : PySem.W.Frag) : Bool := decide (PySem.W.kitOne K (.ref (He.ga K "BadElement")) (.ref (He.ga K "NoInverse")) = some false)
def fa_96 (K : PySem.W.Frag) : Bool := decide (PySem.W.kitOne K (.ref (He.ga K "BadElement")) (.ref (He.ga K "NotMade")) = some false)
def fa_97 (K : PySem.W.Frag) : Bool := decide (PySem.W.kitOne K (.ref (He.ga K "BadElement")) (.ref (He.ga K "Ended")) = some false)
def fa_98 (K : PySem.W.Frag) : Bool := decide (PySem.W.kitOne K (.ref (He.ga K "BadElement")) (.ref (He.ga K "MendError")) = some true)
def fa_99 (K : PySem.W.Frag) : Bool := decide (PySem.W.kitOne K (.ref (He.ga K "BadElement")) (.type "ValueError") = some true)
def fa_100 (K : PySem.W.Frag) : Bool := excB K (He.ga K "BadText")
def fa_101 (K : PySem.W.Frag) : Bool := decide (PySem.W.findIn K (.ref (He.ga K "BadText")) "__setattr__" = some (some (.builtin "object.__setattr__")))
def fa_102 (K : PySem.W.Frag) : Bool := decide (PySem.W.subIn K (.ref (He.ga K "BadText")) (.type "BaseException") = some true)
def fa_103 (K : PySem.W.Frag) : Bool := decide (PySem.W.typeIn K (.ref (He.ga K "BadText")) = some (.type "type"))
def fa_104 (K : PySem.W.Frag) : Bool := decide (PySem.W.keepIn K (.ref (He.ga K "BadText")) = true)
def fa_105 (K : PySem.W.Frag) : Bool := decide (PySem.W.findIn K (.ref (He.ga K "BadText")) "line" = some none)
def fa_106 (K : PySem.W.Frag) : Bool := decide (PySem.W.findIn K (.ref (He.ga K "BadText")) "__init__" = some (some (.ref (He.ma K (He.ga K "BadText") "__init__"))))
def fa_107 (K : PySem.W.Frag) : Bool := decide (PySem.W.typeIn K (.ref (He.ma K (He.ga K "BadText") "__init__")) = some (.type "function"))
def fa_108 (K : PySem.W.Frag) : Bool := decide ((PySem.W.clsIn K (He.ga K "BadText")).isSome = true)
def fa_109 (K : PySem.W.Frag) : Bool := decide (PySem.W.findIn K (.ref (He.ga K "BadText")) "__getattribute__" = some (some (.builtin "BaseException.__getattribute__")))
def fa_110 (K : PySem.W.Frag) : Bool := decide (PySem.W.findIn K (.ref (He.ga K "BadText")) "__getattr__" = some none)
def fa_111 (K : PySem.W.Frag) : Bool := decide (PySem.W.hasDictIn K (He.ga K "BadText") = true)
def fa_112 (K : PySem.W.Frag) : Bool := decide (PySem.W.findIn K (.ref (He.ga K "BadText")) "__class__" = some (some (.builtin "object.__class__")))
def fa_113 (K : PySem.W.Frag) : Bool := decide (PySem.W.mroIn K (He.ga K "BadText") (.type "object") = some true)
def fa_114 (K : PySem.W.Frag) : Bool := decide (PySem.W.kitOne K (.ref (He.ga K "BadText")) (.ref (He.ga K "BadNumber")) = some false)
def fa_115 (K : PySem.W.Frag) : Bool := decide (PySem.W.kitOne K (.ref (He.ga K "BadText")) (.ref (He.ga K "BadShape")) = some false)
def fa_116 (K : PySem.W.Frag) : Bool := decide (PySem.W.kitOne K (.ref (He.ga K "BadText")) (.ref (He.ga K "BadElement")) = some false)
def fa_117 (K : PySem.W.Frag) : Bool := decide (PySem.W.kitOne K (.ref (He.ga K "BadText")) (.ref (He.ga K "BadText")) = some true)
def fa_118 (K : PySem.W.Frag) : Bool := decide (PySem.W.kitOne K (.ref (He.ga K "BadText")) (.ref (He.ga K "TooLarge")) = some false)
def fa_119 (K : PySem.W.Frag) : Bool := decide (PySem.W.kitOne K (.ref (He.ga K "BadText")) (.ref (He.ga K "Clash")) = some false)
def fa_120 (K : PySem.W.Frag) : Bool := decide (PySem.W.kitOne K (.ref (He.ga K "BadText")) (.ref (He.ga K "NoInverse")) = some false)
def fa_121 (K : PySem.W.Frag) : Bool := decide (PySem.W.kitOne K (.ref (He.ga K "BadText")) (.ref (He.ga K "NotMade")) = some false)
def fa_122 (K : PySem.W.Frag) : Bool := decide (PySem.W.kitOne K (.ref (He.ga K "BadText")) (.ref (He.ga K "Ended")) = some false)
def fa_123 (K : PySem.W.Frag) : Bool := decide (PySem.W.kitOne K (.ref (He.ga K "BadText")) (.ref (He.ga K "MendError")) = some true)
def fa_124 (K : PySem.W.Frag) : Bool := decide (PySem.W.kitOne K (.ref (He.ga K "BadText")) (.type "ValueError") = some true)
def fa_125 (K : PySem.W.Frag) : Bool := decide (PySem.W.specialIn K (.builtin "object.__class__") "__get__" = some (some (.builtin "getset_descriptor.__get__")))
def fa_126 (K : PySem.W.Frag) : Bool := decide (PySem.W.takesIn K (.builtin "object.__class__") = some true)
def fa_127 (K : PySem.W.Frag) : Bool := decide (PySem.W.subIn K (.ref (He.ga K "MendError")) (.type "BaseException") = some true)
def fa_128 (K : PySem.W.Frag) : Bool := decide (PySem.W.isClsIn K (He.ga K "MendError") = true)
def fa_129 (K : PySem.W.Frag) : Bool := decide (PySem.W.typeIn K (.ref (He.ga K "MendError")) = some (.type "type"))
def fa_130 (K : PySem.W.Frag) : Bool := decide (PySem.W.subIn K (.ref (He.ga K "BadNumber")) (.ref (He.ga K "MendError")) = some true)
def fa_131 (K : PySem.W.Frag) : Bool := decide (PySem.W.subIn K (.ref (He.ga K "BadShape")) (.ref (He.ga K "MendError")) = some true)
def fa_132 (K : PySem.W.Frag) : Bool := decide (PySem.W.subIn K (.ref (He.ga K "BadElement")) (.ref (He.ga K "MendError")) = some true)
def fa_133 (K : PySem.W.Frag) : Bool := decide (PySem.W.subIn K (.ref (He.ga K "BadText")) (.ref (He.ga K "MendError")) = some true)
def fa_134 (K : PySem.W.Frag) : Bool := decide (PySem.W.subIn K (.ref (He.ga K "TooLarge")) (.ref (He.ga K "MendError")) = some true)
def fa_135 (K : PySem.W.Frag) : Bool := decide (PySem.W.subIn K (.ref (He.ga K "Clash")) (.ref (He.ga K "MendError")) = some true)
def fa_136 (K : PySem.W.Frag) : Bool := decide (PySem.W.subIn K (.ref (He.ga K "NoInverse")) (.ref (He.ga K "MendError")) = some true)
def fa_137 (K : PySem.W.Frag) : Bool := decide (PySem.W.subIn K (.ref (He.ga K "NotMade")) (.ref (He.ga K "MendError")) = some true)
def fa_138 (K : PySem.W.Frag) : Bool := decide (PySem.W.subIn K (.ref (He.ga K "Ended")) (.ref (He.ga K "MendError")) = some true)
def fa_139 (K : PySem.W.Frag) : Bool := decide (PySem.W.subIn K (.ref (He.ga K "MendError")) (.ref (He.ga K "MendError")) = some true)
def fa_140 (K : PySem.W.Frag) : Bool := decide (PySem.W.nsIn K mainGlobals "is_whole" = some (some (.ref (He.ga K "is_whole"))))
def fa_141 (K : PySem.W.Frag) : Bool := decide (PySem.W.nsIn K mainGlobals "check_number" = some (some (.ref (He.ga K "check_number"))))
def fa_142 (K : PySem.W.Frag) : Bool := decide (PySem.W.nsIn K mainGlobals "check_element" = some (some (.ref (He.ga K "check_element"))))
def fa_143 (K : PySem.W.Frag) : Bool := decide (PySem.W.nsIn K mainGlobals "check_list" = some (some (.ref (He.ga K "check_list"))))
def fa_144 (K : PySem.W.Frag) : Bool := decide (PySem.W.nsIn K mainGlobals "check_entries" = some (some (.ref (He.ga K "check_entries"))))
def fa_145 (K : PySem.W.Frag) : Bool := kwB K (He.ga K "check_pattern") [("exact", .bl false)]
def fa_146 (K : PySem.W.Frag) : Bool := decide (PySem.W.nsIn K mainGlobals "check_pattern" = some (some (.ref (He.ga K "check_pattern"))))
def fa_147 (K : PySem.W.Frag) : Bool := decide (PySem.W.nsIn K mainGlobals "round_pattern" = some (some (.ref (He.ga K "round_pattern"))))
def fa_148 (K : PySem.W.Frag) : Bool := decide (PySem.W.nsIn K mainGlobals "pattern_text" = some (some (.ref (He.ga K "pattern_text"))))
def fa_149 (K : PySem.W.Frag) : Bool := decide (PySem.W.nsIn K mainGlobals "read_pattern" = some (some (.ref (He.ga K "read_pattern"))))
def fa_150 (K : PySem.W.Frag) : Bool := decide (PySem.W.nsIn K mainGlobals "_law_mixed" = some (some (.ref (He.ga K "_law_mixed"))))
def fa_151 (K : PySem.W.Frag) : Bool := decide (PySem.W.nsIn K mainGlobals "_law_store" = some (some (.ref (He.ga K "_law_store"))))
def fa_152 (K : PySem.W.Frag) : Bool := decide (PySem.W.nsIn K mainGlobals "_law_take" = some (some (.ref (He.ga K "_law_take"))))
def fa_153 (K : PySem.W.Frag) : Bool := decide (PySem.W.nsIn K mainGlobals "_law_edge" = some (some (.ref (He.ga K "_law_edge"))))
def fa_154 (K : PySem.W.Frag) : Bool := decide (PySem.W.nsIn K mainGlobals "_law_small" = some (some (.ref (He.ga K "_law_small"))))
def fa_155 (K : PySem.W.Frag) : Bool := decide (PySem.W.nsIn K mainGlobals "_law_is_int" = some (some (.ref (He.ga K "_law_is_int"))))
def fa_156 (K : PySem.W.Frag) : Bool := decide (PySem.W.nsIn K mainGlobals "_law_same" = some (some (.ref (He.ga K "_law_same"))))
def fa_157 (K : PySem.W.Frag) : Bool := decide (PySem.W.nsIn K mainGlobals "_law_copy" = some (some (.ref (He.ga K "_law_copy"))))
def fa_158 (K : PySem.W.Frag) : Bool := decide (PySem.W.nsIn K mainGlobals "_law_lists" = some (some (.ref (He.ga K "_law_lists"))))
def fa_159 (K : PySem.W.Frag) : Bool := decide (PySem.W.nsIn K mainGlobals "_law_apart" = some (some (.ref (He.ga K "_law_apart"))))
def fa_160 (K : PySem.W.Frag) : Bool := decide (PySem.W.nsIn K mainGlobals "_law_char" = some (some (.ref (He.ga K "_law_char"))))
def fa_161 (K : PySem.W.Frag) : Bool := decide (PySem.W.nsIn K mainGlobals "_law_text" = some (some (.ref (He.ga K "_law_text"))))
def fa_162 (K : PySem.W.Frag) : Bool := decide (PySem.W.nsIn K mainGlobals "_law_strange" = some (some (.ref (He.ga K "_law_strange"))))
def fa_163 (K : PySem.W.Frag) : Bool := decide (PySem.W.nsIn K mainGlobals "_law_not_number" = some (some (.ref (He.ga K "_law_not_number"))))
def fa_164 (K : PySem.W.Frag) : Bool := decide (PySem.W.nsIn K mainGlobals "_law_not_list" = some (some (.ref (He.ga K "_law_not_list"))))
def fa_165 (K : PySem.W.Frag) : Bool := decide (PySem.W.nsIn K mainGlobals "_law_not_upto" = some (some (.ref (He.ga K "_law_not_upto"))))
def fa_166 (K : PySem.W.Frag) : Bool := decide (PySem.W.nsIn K mainGlobals "_law_kind" = some (some (.ref (He.ga K "_law_kind"))))
def fa_167 (K : PySem.W.Frag) : Bool := decide (PySem.W.nsIn K mainGlobals "_law_flags" = some (some (.ref (He.ga K "_law_flags"))))
def fa_168 (K : PySem.W.Frag) : Bool := decide (PySem.W.nsIn K mainGlobals "_law_pattern" = some (some (.ref (He.ga K "_law_pattern"))))
def fa_169 (K : PySem.W.Frag) : Bool := decide (PySem.W.nsIn K mainGlobals "_law_dots" = some (some (.ref (He.ga K "_law_dots"))))
def fa_170 (K : PySem.W.Frag) : Bool := decide (PySem.W.nsIn K mainGlobals "_law_not_dots" = some (some (.ref (He.ga K "_law_not_dots"))))
def fa_171 (K : PySem.W.Frag) : Bool := decide (PySem.W.nsIn K mainGlobals "_law_asked_read" = some (some (.ref (He.ga K "_law_asked_read"))))
def fa_172 (K : PySem.W.Frag) : Bool := decide (PySem.W.nsIn K mainGlobals "_law_asked_text" = some (some (.ref (He.ga K "_law_asked_text"))))
def fa_173 (K : PySem.W.Frag) : Bool := decide (PySem.W.nsIn K mainGlobals "_law_asked_round" = some (some (.ref (He.ga K "_law_asked_round"))))
def fa_174 (K : PySem.W.Frag) : Bool := decide (PySem.W.nsIn K mainGlobals "_law_round_trip" = some (some (.ref (He.ga K "_law_round_trip"))))
def fa_175 (K : PySem.W.Frag) : Bool := decide (PySem.W.nsIn K mainGlobals "_law_bad_texts" = some (some (.ref (He.ga K "_law_bad_texts"))))
def fa_176 (K : PySem.W.Frag) : Bool := decide (PySem.W.nsIn K mainGlobals "_law_repeats" = some (some (.ref (He.ga K "_law_repeats"))))
def fa_177 (K : PySem.W.Frag) : Bool := decide (PySem.W.nsIn K mainGlobals "_law_round_right" = some (some (.ref (He.ga K "_law_round_right"))))
def fa_178 (K : PySem.W.Frag) : Bool := decide (PySem.W.nsIn K mainGlobals "_law_bad_rounds" = some (some (.ref (He.ga K "_law_bad_rounds"))))
def fa_179 (K : PySem.W.Frag) : Bool := decide (PySem.W.nsIn K mainGlobals "law" = some (some (.ref (He.ga K "law"))))
def fd_0 : FnG := ⟨fun K => (He.ma K (He.ga K "BadNumber") "__init__"), "__init__", "BadNumber.__init__", s_BadNumber___init__⟩
def fd_1 : FnG := ⟨fun K => (He.ma K (He.ga K "BadShape") "__init__"), "__init__", "BadShape.__init__", s_BadShape___init__⟩
def fd_2 : FnG := ⟨fun K => (He.ma K (He.ga K "BadElement") "__init__"), "__init__", "BadElement.__init__", s_BadElement___init__⟩
def fd_3 : FnG := ⟨fun K => (He.ma K (He.ga K "BadText") "__init__"), "__init__", "BadText.__init__", s_BadText___init__⟩
def fd_4 : FnG := ⟨fun K => (He.ga K "is_whole"), "is_whole", "is_whole", s_is_whole⟩
def fd_5 : FnG := ⟨fun K => (He.ga K "check_number"), "check_number", "check_number", s_check_number⟩
def fd_6 : FnG := ⟨fun K => (He.ga K "check_element"), "check_element", "check_element", s_check_element⟩
def fd_7 : FnG := ⟨fun K => (He.ga K "check_list"), "check_list", "check_list", s_check_list⟩
def fd_8 : FnG := ⟨fun K => (He.ga K "check_entries"), "check_entries", "check_entries", s_check_entries⟩
def fd_9 : FnG := ⟨fun K => (He.ga K "check_pattern"), "check_pattern", "check_pattern", s_check_pattern⟩
def fd_10 : FnG := ⟨fun K => (He.ga K "round_pattern"), "round_pattern", "round_pattern", s_round_pattern⟩
def fd_11 : FnG := ⟨fun K => (He.ga K "pattern_text"), "pattern_text", "pattern_text", s_pattern_text⟩
def fd_12 : FnG := ⟨fun K => (He.ga K "read_pattern"), "read_pattern", "read_pattern", s_read_pattern⟩
def fd_13 : FnG := ⟨fun K => (He.ga K "_law_mixed"), "_law_mixed", "_law_mixed", s_law_mixed⟩
def fd_14 : FnG := ⟨fun K => (He.ga K "_law_store"), "_law_store", "_law_store", s_law_store⟩
def fd_15 : FnG := ⟨fun K => (He.ga K "_law_take"), "_law_take", "_law_take", s_law_take⟩
def fd_16 : FnG := ⟨fun K => (He.ga K "_law_edge"), "_law_edge", "_law_edge", s_law_edge⟩
def fd_17 : FnG := ⟨fun K => (He.ga K "_law_small"), "_law_small", "_law_small", s_law_small⟩
def fd_18 : FnG := ⟨fun K => (He.ga K "_law_is_int"), "_law_is_int", "_law_is_int", s_law_is_int⟩
def fd_19 : FnG := ⟨fun K => (He.ga K "_law_same"), "_law_same", "_law_same", s_law_same⟩
def fd_20 : FnG := ⟨fun K => (He.ga K "_law_copy"), "_law_copy", "_law_copy", s_law_copy⟩
def fd_21 : FnG := ⟨fun K => (He.ga K "_law_lists"), "_law_lists", "_law_lists", s_law_lists⟩
def fd_22 : FnG := ⟨fun K => (He.ga K "_law_apart"), "_law_apart", "_law_apart", s_law_apart⟩
def fd_23 : FnG := ⟨fun K => (He.ga K "_law_char"), "_law_char", "_law_char", s_law_char⟩
def fd_24 : FnG := ⟨fun K => (He.ga K "_law_text"), "_law_text", "_law_text", s_law_text⟩
def fd_25 : FnG := ⟨fun K => (He.ga K "_law_strange"), "_law_strange", "_law_strange", s_law_strange⟩
def fd_26 : FnG := ⟨fun K => (He.ga K "_law_not_number"), "_law_not_number", "_law_not_number", s_law_not_number⟩
def fd_27 : FnG := ⟨fun K => (He.ga K "_law_not_list"), "_law_not_list", "_law_not_list", s_law_not_list⟩
def fd_28 : FnG := ⟨fun K => (He.ga K "_law_not_upto"), "_law_not_upto", "_law_not_upto", s_law_not_upto⟩
def fd_29 : FnG := ⟨fun K => (He.ga K "_law_kind"), "_law_kind", "_law_kind", s_law_kind⟩
def fd_30 : FnG := ⟨fun K => (He.ga K "_law_flags"), "_law_flags", "_law_flags", s_law_flags⟩
def fd_31 : FnG := ⟨fun K => (He.ga K "_law_pattern"), "_law_pattern", "_law_pattern", s_law_pattern⟩
def fd_32 : FnG := ⟨fun K => (He.ga K "_law_dots"), "_law_dots", "_law_dots", s_law_dots⟩
def fd_33 : FnG := ⟨fun K => (He.ga K "_law_not_dots"), "_law_not_dots", "_law_not_dots", s_law_not_dots⟩
def fd_34 : FnG := ⟨fun K => (He.ga K "_law_asked_read"), "_law_asked_read", "_law_asked_read", s_law_asked_read⟩
def fd_35 : FnG := ⟨fun K => (He.ga K "_law_asked_text"), "_law_asked_text", "_law_asked_text", s_law_asked_text⟩
def fd_36 : FnG := ⟨fun K => (He.ga K "_law_asked_round"), "_law_asked_round", "_law_asked_round", s_law_asked_round⟩
def fd_37 : FnG := ⟨fun K => (He.ga K "_law_round_trip"), "_law_round_trip", "_law_round_trip", s_law_round_trip⟩
def fd_38 : FnG := ⟨fun K => (He.ga K "_law_bad_texts"), "_law_bad_texts", "_law_bad_texts", s_law_bad_texts⟩
def fd_39 : FnG := ⟨fun K => (He.ga K "_law_repeats"), "_law_repeats", "_law_repeats", s_law_repeats⟩
def fd_40 : FnG := ⟨fun K => (He.ga K "_law_round_right"), "_law_round_right", "_law_round_right", s_law_round_right⟩
def fd_41 : FnG := ⟨fun K => (He.ga K "_law_bad_rounds"), "_law_bad_rounds", "_law_bad_rounds", s_law_bad_rounds⟩
def fd_42 : FnG := ⟨fun K => (He.ga K "law"), "law", "law", s_law⟩
def fxs_0 : List (PySem.W.Frag → Bool) := [fa_0, fa_1, fa_2, fa_3, fa_4, fa_5, fa_6, fa_7, fa_8, fa_9, fa_10, fa_11, fa_12, fa_13, fa_14, fa_15, fa_16, fa_17, fa_18, fa_19, fa_20, fa_21, fa_22, fa_23, fa_24, fa_25, fa_26, fa_27, fa_28, fa_29]
def fxs_1 : List (PySem.W.Frag → Bool) := [fa_30, fa_31, fa_32, fa_33, fa_34, fa_35, fa_36, fa_37, fa_38, fa_39, fa_40, fa_41, fa_42, fa_43, fa_44, fa_45, fa_46, fa_47, fa_48, fa_49, fa_50, fa_51, fa_52, fa_53, fa_54, fa_55, fa_56, fa_57, fa_58, fa_59]
def fxs_2 : List (PySem.W.Frag → Bool) := [fa_60, fa_61, fa_62, fa_63, fa_64, fa_65, fa_66, fa_67, fa_68, fa_69, fa_70, fa_71, fa_72, fa_73, fa_74, fa_75, fa_76, fa_77, fa_78, fa_79, fa_80, fa_81, fa_82, fa_83, fa_84, fa_85, fa_86, fa_87, fa_88, fa_89]
def fxs_3 : List (PySem.W.Frag → Bool) := [fa_90, fa_91, fa_92, fa_93, fa_94, fa_95, fa_96, fa_97, fa_98, fa_99, fa_100, fa_101, fa_102, fa_103, fa_104, fa_105, fa_106, fa_107, fa_108, fa_109, fa_110, fa_111, fa_112, fa_113, fa_114, fa_115, fa_116, fa_117, fa_118, fa_119]
def fxs_4 : List (PySem.W.Frag → Bool) := [fa_120, fa_121, fa_122, fa_123, fa_124, fa_125, fa_126, fa_127, fa_128, fa_129, fa_130, fa_131, fa_132, fa_133, fa_134, fa_135, fa_136, fa_137, fa_138, fa_139, fa_140, fa_141, fa_142, fa_143, fa_144, fa_145, fa_146, fa_147, fa_148, fa_149]
def fxs_5 : List (PySem.W.Frag → Bool) := [fa_150, fa_151, fa_152, fa_153, fa_154, fa_155, fa_156, fa_157, fa_158, fa_159, fa_160, fa_161, fa_162, fa_163, fa_164, fa_165, fa_166, fa_167, fa_168, fa_169, fa_170, fa_171, fa_172, fa_173, fa_174, fa_175, fa_176, fa_177, fa_178, fa_179]
def fxs : List (PySem.W.Frag → Bool) := fxs_0 ++ (fxs_1 ++ (fxs_2 ++ (fxs_3 ++ (fxs_4 ++ (fxs_5)))))
def fnl_0 : List FnG := [fd_0, fd_1, fd_2, fd_3, fd_4, fd_5, fd_6, fd_7, fd_8, fd_9, fd_10, fd_11, fd_12, fd_13, fd_14, fd_15, fd_16, fd_17, fd_18, fd_19, fd_20, fd_21, fd_22, fd_23, fd_24, fd_25, fd_26, fd_27, fd_28, fd_29]
def fnl_1 : List FnG := [fd_30, fd_31, fd_32, fd_33, fd_34, fd_35, fd_36, fd_37, fd_38, fd_39, fd_40, fd_41, fd_42]
def fnl : List FnG := fnl_0 ++ (fnl_1)
def nmX_0 : List PySem.Str := ["__name__", "MendError", "BadNumber", "BadShape", "BadElement", "BadText", "TooLarge", "Clash", "NoInverse", "NotMade", "Ended", "is_whole", "check_number", "check_element", "check_list", "check_entries", "check_pattern", "MOST_BEATS", "MOST_ROUND", "round_pattern", "pattern_text", "read_pattern", "_law_mixed", "_law_store", "_law_take", "_law_edge", "_law_small", "_law_is_int", "_law_same", "_law_copy"]
def nmX_1 : List PySem.Str := ["_law_lists", "_law_apart", "_law_char", "_law_text", "_law_strange", "_law_not_number", "_law_not_list", "_law_not_upto", "_law_kind", "_law_flags", "_law_pattern", "_law_dots", "_law_not_dots", "_law_asked_read", "_law_asked_text", "_law_asked_round", "_law_round_trip", "_law_bad_texts", "_law_repeats", "_law_round_right", "_law_bad_rounds"]
def nmX : List PySem.Str := nmX_0 ++ (nmX_1)
def asX : List Addr := List.range 956
abbrev RR : PySem.W.OpenRow := PySem.W.OpenLaw.row PySem.Challenge.rw_mendsontime_k31_pattern_text_round_trip
abbrev hkX : PySem.W.Hook := hookX asX fxs fnl
def obX (s : PySem.W.SharedT) : AlX := obsXG asX fxs fnl (HandSHeadRun.getT s)
theorem obX_eq (s : PySem.W.SharedT) : obX s = hkX.obs s.abs := obsXG_eq (HandSHeadRun.getT_eq s)
theorem head_false (w : World) : HandSHeadRun.RunEq RR (PySem.W.view RR.prog [53]) hkX obX 30000 nmX (w.withFollow "special-get-raises" false) := by
  intro os
  kernel_rfl
theorem head_true (w : World) : HandSHeadRun.RunEq RR (PySem.W.view RR.prog [53]) hkX obX 30000 nmX (w.withFollow "special-get-raises" true) := by
  intro os
  kernel_rfl
theorem headX (w : World) : HandSHeadRun.RunEq RR (PySem.W.view RR.prog [53]) hkX obX 30000 nmX w :=
  PySem.W.byRow2 "special-get-raises" (P := fun w => HandSHeadRun.RunEq RR (PySem.W.view RR.prog [53]) hkX obX 30000 nmX w) head_false head_true w
end Mt
/-! ### lists within data, in the heap as it is (for _law_apart) -/
namespace Mt.Ap
open PySem PySem.Spec PyProof.Rows L2 L2H
inductive D where
  | non | bl (b : Bool) | int (i : Int) | str (x : Str) | lst (ds : List D) | tup (ds : List D)
mutual
def dep : D → Nat
  | .lst ds => deps ds + 1
  | .tup ds => deps ds + 1
  | _ => 0
def deps : List D → Nat
  | [] => 0
  | d :: ds => max (dep d) (deps ds)
end
mutual
def Rep (H : Hp) : D → V → List Addr → Prop
  | .non, v, as => v = .non ∧ as = []
  | .bl b, v, as => v = .bl b ∧ as = []
  | .int i, v, as => v = .int i ∧ as = []
  | .str x, v, as => v = .str x ∧ as = []
  | .lst ds, v, as => ∃ a vs bs, v = .ref a ∧ H a = some (.lst vs) ∧ Reps H ds vs bs ∧ as = a :: bs ∧ ds.length < 1000000
  | .tup ds, v, as => ∃ a vs bs, v = .ref a ∧ H a = some (.tup vs) ∧ Reps H ds vs bs ∧ as = bs ∧ ds.length < 1000000
def Reps (H : Hp) : List D → List V → List Addr → Prop
  | [], vs, as => vs = [] ∧ as = []
  | d :: ds, vs, as => ∃ v r bs cs, vs = v :: r ∧ Rep H d v bs ∧ Reps H ds r cs ∧ as = bs ++ cs
end
mutual
theorem rep_mono {H H' : Hp} (ht : ∀ a xs, H a = some (.tup xs) → H' a = some (.tup xs)) : ∀ (d : D) (v : V) (as : List Addr), Rep H d v as → (∀ a ∈ as, ∀ xs, H a = some (.lst xs) → H' a = some (.lst xs)) → Rep H' d v as
  | .non, v, as, h, _ => by simpa only [Rep] using h
  | .bl b, v, as, h, _ => by simpa only [Rep] using h
  | .int i, v, as, h, _ => by simpa only [Rep] using h
  | .str x, v, as, h, _ => by simpa only [Rep] using h
  | .lst ds, v, as, h, hl => by
    simp only [Rep] at h ⊢
    obtain ⟨a, vs, bs, e1, e2, e3, e4, e5⟩ := h
    subst e4
    exact ⟨a, vs, bs, e1, hl a (List.mem_cons_self ..) _ e2, reps_mono ht ds vs bs e3 fun b hb => hl b (List.mem_cons_of_mem _ hb), rfl, e5⟩
  | .tup ds, v, as, h, hl => by
    simp only [Rep] at h ⊢
    obtain ⟨a, vs, bs, e1, e2, e3, e4, e5⟩ := h
    subst e4
    exact ⟨a, vs, as, e1, ht _ _ e2, reps_mono ht ds vs as e3 hl, rfl, e5⟩
theorem reps_mono {H H' : Hp} (ht : ∀ a xs, H a = some (.tup xs) → H' a = some (.tup xs)) : ∀ (ds : List D) (vs : List V) (as : List Addr), Reps H ds vs as → (∀ a ∈ as, ∀ xs, H a = some (.lst xs) → H' a = some (.lst xs)) → Reps H' ds vs as
  | [], vs, as, h, _ => by simpa only [Reps] using h
  | d :: ds, vs, as, h, hl => by
    simp only [Reps] at h ⊢
    obtain ⟨v, r, bs, cs, e1, e2, e3, e4⟩ := h
    subst e4
    exact ⟨v, r, bs, cs, e1, rep_mono ht d v bs e2 fun a ha => hl a (List.mem_append_left _ ha), reps_mono ht ds r cs e3 fun a ha => hl a (List.mem_append_right _ ha), rfl⟩
end
theorem rep_same {H H' : Hp} (s : Same H H') {d : D} {v : V} {as : List Addr} (h : Rep H d v as) : Rep H' d v as := rep_mono (fun _ _ e => s _ _ e) d v as h fun _ _ _ e => s _ _ e
theorem reps_same {H H' : Hp} (s : Same H H') {ds : List D} {vs : List V} {as : List Addr} (h : Reps H ds vs as) : Reps H' ds vs as := reps_mono (fun _ _ e => s _ _ e) ds vs as h fun _ _ _ e => s _ _ e
theorem reps_len {H : Hp} : ∀ {ds : List D} {vs : List V} {as : List Addr}, Reps H ds vs as → vs.length = ds.length
  | [], vs, as, h => by
    simp only [Reps] at h
    rw [h.1]
    rfl
  | d :: ds, vs, as, h => by
    simp only [Reps] at h
    obtain ⟨v, r, bs, cs, e1, e2, e3, e4⟩ := h
    rw [e1, List.length_cons, List.length_cons, reps_len e3]
theorem reps_at {H : Hp} : ∀ {ds : List D} {vs : List V} {as : List Addr} {i : Nat} {d : D}, Reps H ds vs as → ds[i]? = some d → ∃ v bs, vs[i]? = some v ∧ Rep H d v bs
  | [], vs, as, i, d, h, e => by simp at e
  | d0 :: ds, vs, as, 0, d, h, e => by
    simp only [Reps] at h
    obtain ⟨v, r, bs, cs, e1, e2, e3, e4⟩ := h
    have e' : d0 = d := Option.some.inj e
    subst e' e1
    exact ⟨v, bs, rfl, e2⟩
  | d0 :: ds, vs, as, i + 1, d, h, e => by
    simp only [Reps] at h
    obtain ⟨v, r, bs, cs, e1, e2, e3, e4⟩ := h
    subst e1
    exact reps_at (i := i) e3 e
theorem deps_at : ∀ {ds : List D} {i : Nat} {d : D}, ds[i]? = some d → dep d ≤ deps ds
  | [], i, d, e => by simp at e
  | d0 :: ds, 0, d, e => by
    have e' : d0 = d := Option.some.inj e
    subst e'
    simp only [deps]
    exact Nat.le_max_left _ _
  | d0 :: ds, i + 1, d, e => by
    have := deps_at (ds := ds) (i := i) (d := d) e
    simp only [deps]
    omega
mutual
theorem rep_some {H : Hp} : ∀ (d : D) (v : V) (as : List Addr), Rep H d v as → ∀ a ∈ as, ∃ xs, H a = some (.lst xs)
  | .non, v, as, h => by simp only [Rep] at h; rw [h.2]; intro a ha; cases ha
  | .bl b, v, as, h => by simp only [Rep] at h; rw [h.2]; intro a ha; cases ha
  | .int b, v, as, h => by simp only [Rep] at h; rw [h.2]; intro a ha; cases ha
  | .str b, v, as, h => by simp only [Rep] at h; rw [h.2]; intro a ha; cases ha
  | .lst ds, v, as, h => by
    simp only [Rep] at h
    obtain ⟨a, vs, bs, e1, e2, e3, e4, _⟩ := h
    subst e4
    intro b hb
    cases hb with
    | head => exact ⟨_, e2⟩
    | tail _ hb => exact reps_some ds vs bs e3 b hb
  | .tup ds, v, as, h => by
    simp only [Rep] at h
    obtain ⟨a, vs, bs, e1, e2, e3, e4, _⟩ := h
    subst e4
    exact reps_some ds vs as e3
theorem reps_some {H : Hp} : ∀ (ds : List D) (vs : List V) (as : List Addr), Reps H ds vs as → ∀ a ∈ as, ∃ xs, H a = some (.lst xs)
  | [], vs, as, h => by simp only [Reps] at h; rw [h.2]; intro a ha; cases ha
  | d :: ds, vs, as, h => by
    simp only [Reps] at h
    obtain ⟨v, r, bs, cs, e1, e2, e3, e4⟩ := h
    subst e4
    intro a ha
    rcases List.mem_append.mp ha with ha | ha
    · exact rep_some d v bs e2 a ha
    · exact reps_some ds r cs e3 a ha
end
theorem reps_snoc {H : Hp} : ∀ {ds : List D} {vs : List V} {as : List Addr} {d : D} {v : V} {bs : List Addr}, Reps H ds vs as → Rep H d v bs → Reps H (ds ++ [d]) (vs ++ [v]) (as ++ bs)
  | [], vs, as, d, v, bs, h, g => by
    simp only [Reps] at h
    obtain ⟨rfl, rfl⟩ := h
    show Reps H [d] [v] bs
    simp only [Reps]
    exact ⟨v, [], bs, [], rfl, g, ⟨rfl, rfl⟩, (List.append_nil bs).symm⟩
  | d0 :: ds, vs, as, d, v, bs, h, g => by
    simp only [Reps] at h
    obtain ⟨v0, r, cs, es, rfl, e2, e3, rfl⟩ := h
    show Reps H (d0 :: (ds ++ [d])) (v0 :: (r ++ [v])) _
    simp only [Reps]
    exact ⟨v0, r ++ [v], cs, es ++ bs, rfl, e2, reps_snoc e3 g, List.append_assoc ..⟩
/-- y is data d, laid anew between the two heaps -/
structure Fr (H H' : Hp) (d : D) (y : V) : Prop where
  same : Same H H'
  rep : ∃ as, Rep H' d y as ∧ as.Nodup ∧ ∀ a ∈ as, H a = none
def EvF (te : TE) (σ : L2.St) (H : Hp) (d : D) : Prop := ∀ H1, Same H H1 → ∀ Q : VK, (∀ y H2, Fr H1 H2 d y → Q y H2) → te σ H1 Q
theorem Fr.int {H H' : Hp} {i : Int} (s : Same H H') : Fr H H' (.int i) (.int i) := ⟨s, [], by simp [Rep], List.nodup_nil, fun a h => nomatch h⟩
/-- the new list under way: D, its items so far -/
def Grow (H : Hp) (D' : Addr) (ds : List D) (H' : Hp) : Prop := ∃ acc as, Same H H' ∧ H' D' = some (.lst acc) ∧ Reps H' ds acc as ∧ as.Nodup ∧ ∀ a ∈ as, H a = none ∧ a ≠ D'
theorem grow_0 {H : Hp} {D' : Addr} (h : H D' = none) : Grow H D' [] (upd H D' (.lst [])) := ⟨[], [], same_new h, upd_same, by simp [Reps], List.nodup_nil, fun a h => nomatch h⟩
theorem grow_s {H H1 H2 : Hp} {D' : Addr} {ds : List D} {d : D} {y : V} (hD : H D' = none) (g : Grow H D' ds H1) (f : Fr H1 H2 d y) (hz : ds.length < 1000000) : ∃ acc, H2 D' = some (.lst acc) ∧ acc.length < sizeLine ∧ Grow H D' (ds ++ [d]) (upd H2 D' (.lst (acc ++ [y]))) := by
  obtain ⟨acc, as, s1, e1, r1, n1, f1⟩ := g
  obtain ⟨s2, bs, r2, n2, f2⟩ := f
  have e2 := s2 _ _ e1
  have hz2 : acc.length < sizeLine := by
    rw [reps_len r1, sizeLine_eq]
    omega
  have fb : ∀ b ∈ bs, H b = none ∧ b ≠ D' := fun b hb => by
    have hb1 := f2 b hb
    refine ⟨s1.free hb1, fun e => ?_⟩
    rw [e, e1] at hb1
    cases hb1
  have ht : ∀ a xs, H2 a = some (.tup xs) → upd H2 D' (.lst (acc ++ [y])) a = some (.tup xs) := fun a xs e => by
    rw [upd_ne (fun z => by rw [z, e2] at e; cases e)]
    exact e
  have ra := reps_mono ht _ _ _ (reps_same s2 r1) fun a ha xs e => by
    rw [upd_ne (f1 a ha).2]
    exact e
  have rb := rep_mono ht _ _ _ r2 fun a ha xs e => by
    rw [upd_ne (fb a ha).2]
    exact e
  refine ⟨acc, e2, hz2, acc ++ [y], as ++ bs, same_mut (s1.trans s2) hD, upd_same, reps_snoc ra rb, ?_, fun a ha => ?_⟩
  · refine List.nodup_append.mpr ⟨n1, n2, fun a ha b hb e => ?_⟩
    subst e
    obtain ⟨xs, hx⟩ := reps_some _ _ _ r1 a ha
    rw [f2 a hb] at hx
    cases hx
  · rcases List.mem_append.mp ha with ha | ha
    · exact f1 a ha
    · exact fb a ha
theorem grow_end {H H1 : Hp} {D' : Addr} {ds : List D} (hD : H D' = none) (g : Grow H D' ds H1) (hz : ds.length < 1000000) : Fr H H1 (.lst ds) (.ref D') := by
  obtain ⟨acc, as, s1, e1, r1, n1, f1⟩ := g
  refine ⟨s1, D' :: as, ?_, List.nodup_cons.mpr ⟨fun h => (f1 D' h).2 rfl, n1⟩, fun a ha => ?_⟩
  · simp only [Rep]
    exact ⟨D', acc, as, rfl, e1, r1, rfl, hz⟩
  · cases ha with
    | head => exact hD
    | tail _ ha => exact (f1 a ha).1
theorem wipe1 {σ : L2.St} {i : Nat} {x : Option V} : wipe ((wipe σ [i]).set i x) [i] = wipe σ [i] := by
  show ((σ.set i none).set i x).set i none = σ.set i none
  rw [List.set_set, List.set_set]
section
variable {ta : TA} {te tl : TE} {σ : L2.St} {H : Hp} {i : Nat} {K : PySem.W.Frag}
theorem lcF_range {n : Nat} {f : Nat → D} (hta : ∀ H1, Same H H1 → ∀ R : List V → Hp → Prop, R [.int n] H1 → ta σ H1 R) (hn : n < 1000000) (he : ∀ k, k < n → EvF te ((wipe σ [i]).set i (some (.int k))) H (f k)) :
    EvF (tLc (iRng1 ta) (gName i) tYes te [i]) σ H (.lst ((List.range n).map f)) := by
  intro H1 s1 Q q
  refine hta H1 s1 _ ⟨n, rfl, by omega, by omega, fun D' hD => lc_range (lo := 0) (n := n) (fun k H' => k ≤ n ∧ Grow H1 D' ((List.range k).map f) H') ⟨Nat.zero_le _, grow_0 hD⟩ ?_ ?_⟩
  · rintro k H' hk ⟨_, g⟩
    rw [Int.zero_add]
    refine ⟨wipe1, ?_⟩
    show te ((wipe σ [i]).set i (some (V.int k))) H' _
    have sg : Same H1 H' := by
      obtain ⟨_, _, s, _⟩ := g
      exact s
    refine he k hk H' (s1.trans sg) _ fun y H2 fr => ?_
    obtain ⟨acc, e1, e2, g2⟩ := grow_s hD g fr (by rw [List.length_map, List.length_range]; omega)
    refine ⟨acc, e1, e2, hk, ?_⟩
    rw [List.range_succ, List.map_append]
    exact g2
  · rintro H' ⟨_, g⟩
    exact q _ _ (grow_end hD g (by rw [List.length_map, List.length_range]; omega))
theorem lcF_list {a : Addr} {xs : List V} {ds : List D} (htl : ∀ H1, Same H H1 → ∀ R : VK, R (.ref a) H1 → tl σ H1 R) (hx : SqL K H a xs) (hl : ds.length = xs.length) (hn : xs.length < 1000000)
    (he : ∀ (k : Nat) (x : V) (d : D), xs[k]? = some x → ds[k]? = some d → EvF te ((wipe σ [i]).set i (some x)) H d) : EvF (tLc (iList K tl) (gName i) tYes te [i]) σ H (.lst ds) := by
  intro H1 s1 Q q
  refine htl H1 s1 _ ⟨a, rfl, ⟨xs, s1.seq hx⟩, fun D' hD => lc_list (K := K) (a := a) (xs := xs) (fun k H' => k ≤ xs.length ∧ Grow H1 D' (ds.take k) H') ⟨Nat.zero_le _, grow_0 hD⟩ ?_ ?_ ?_⟩
  · rintro k H' _ ⟨_, _, _, s, _⟩
    exact s.seq (s1.seq hx)
  · rintro k x H' hk ⟨_, g⟩
    have hk' : k < xs.length := (List.getElem?_eq_some_iff.mp hk).1
    refine ⟨wipe1, ?_⟩
    show te ((wipe σ [i]).set i (some x)) H' _
    have sg : Same H1 H' := by
      obtain ⟨_, _, s, _⟩ := g
      exact s
    have hd : ds[k]? = some (ds[k]'(by omega)) := List.getElem?_eq_getElem (by omega)
    refine he k x _ hk hd H' (s1.trans sg) _ fun y H2 fr => ?_
    obtain ⟨acc, e1, e2, g2⟩ := grow_s hD g fr (by rw [List.length_take]; omega)
    refine ⟨acc, e1, e2, hk', ?_⟩
    rw [List.take_add_one, hd]
    exact g2
  · rintro H' ⟨_, g⟩
    rw [← hl, List.take_length] at g
    exact q _ _ (grow_end hD g (by omega))
end
def ForQ (J : It) (g : TG) (tb : TS) (D : Ends) (σ : L2H.St) (H : Hp) : Prop := ∃ W : Nat → Nat → L2H.St → Hp → Prop, (∃ m, W 0 m σ H) ∧ ∀ i m σ H, W i m σ H →
  (J.stop i H ∧ D.nx σ H) ∨ (J.go i H ∧ ∃ N : L2H.St → Hp → Prop, (∀ σ' H', N σ' H' → ∃ m', m' < m ∧ W (i + 1) m' σ' H') ∧ ∀ x H', J.yld i H x H' → g x σ H' fun σ2 H2 => tb { D with nx := N, ct := N, bk := D.nx } σ2 H2)
theorem for_rng {ta : TA} {g : TG} {tb : TS} {D : Ends} {σ : L2.St} {H : Hp} (h : ta σ H fun vs H1 => ∃ j : Int, vs = [.int j] ∧ -(2 ^ 62) ≤ j ∧ j < 2 ^ 62 ∧ ForQ (Itr 0 j.toNat) g tb D σ H1) : tFor (iRng1 ta) g tb D σ H := h
theorem forN {n : Nat} {g : TG} {tb : TS} {D : Ends} {σ : L2.St} {H : Hp} (hn : n < 1000000) (Pv : Nat → L2.St → Hp → Prop) (h0 : Pv 0 σ H)
    (hs : ∀ i σ H, i < n → Pv i σ H → g (.int i) σ H fun σ2 H2 => tb { D with nx := Pv (i + 1), ct := Pv (i + 1), bk := D.nx } σ2 H2) (hd : ∀ σ H, Pv n σ H → D.nx σ H) : ∃ j : Int, [V.int n] = [V.int j] ∧ -(2 ^ 62) ≤ j ∧ j < 2 ^ 62 ∧ ForQ (Itr 0 j.toNat) g tb D σ H :=
  ⟨n, rfl, by omega, by omega, for_range (lo := 0) (n := n) Pv h0 (fun i σ H hi p => by rw [Int.zero_add]; exact hs i σ H hi p) hd⟩
def iSeq (K : PySem.W.Frag) (tl : TE) : TI := fun σ H R => tl σ H fun x H1 => ∃ a, x = .ref a ∧ (((∃ xs, SqL K H1 a xs) ∧ R (Itl K a) H1) ∨ ((∃ xs, SqT K H1 a xs) ∧ R (Itt K a) H1))
theorem pi_seq {X : Cx} {tg l : Expr} {tl : TE} (hl : PE X l tl) : PI X tg l (iSeq X.K tl) := ⟨fun pins s σ H R I h => thn (hl.run pins s σ H _ I h) fun v s1 q => by
  obtain ⟨x, H1, I1, r1, a, rfl, q⟩ := q
  cases r1
  have fin : ∀ {ob : Obj} {J : It} {tn : Nat → Heap → Prop}, Turn X.prog X.w X.K tg J [s1.heap.objs.size] s1.heap.objs.size tn → tn 0 (s1.heap.push ob) → R J H1 → PIE X pins σ tg R (.ref s1.heap.objs.size) { s1 with heap := s1.heap.push ob } := fun tt h0 r =>
    ⟨_, _, _, _, H1, rfl, I1.kept (t' := s1.toks) fun _ _ e => Heap.get?_push_of_some _ e, tt, h0, fun b hb => by
      rw [List.mem_singleton.mp hb]
      exact I1.fpOk (Nat.le_refl _) (I1.hok.fresh (Nat.le_refl _)), r⟩
  rcases q with ⟨⟨xs, hx⟩, q⟩ | ⟨⟨xs, hx⟩, q⟩
  · obtain ⟨_, _, p, _⟩ := I1.list hx
    exact wpAny_pyIter_list p.isList (fin (turn_list a _) ⟨_, Heap.get?_push_size _ rfl, rfl, rfl⟩ q)
  · obtain ⟨its, _, p, _⟩ := I1.tuple hx
    exact wpAny_pyIter_tuple (show s1.heap.IsTuple a its.toArray from p) (fin (turn_tuple a _) ⟨_, Heap.get?_push_size _ rfl, rfl, rfl⟩ q)⟩
/-! trees of one's own as such data -/
mutual
def tD : T → D
  | .non => .non
  | .bl b => .bl b
  | .int i => .int i
  | .str x => .str x
  | .tup ds => .tup (tDs ds)
  | _ => .non
def tDs : List T → List D
  | [] => []
  | d :: ds => tD d :: tDs ds
end
mutual
def oD : OT → D
  | .d x => tD x
  | .lst ts => .lst (oDs ts)
  | .tup ts => .tup (oDs ts)
def oDs : List OT → List D
  | [] => []
  | t :: r => oD t :: oDs r
end
theorem tDs_len : ∀ ds : List T, (tDs ds).length = ds.length
  | [] => rfl
  | d :: ds => by rw [tDs, List.length_cons, List.length_cons, tDs_len ds]
theorem oDs_len : ∀ ts : List OT, (oDs ts).length = ts.length
  | [] => rfl
  | d :: ds => by rw [oDs, List.length_cons, List.length_cons, oDs_len ds]
mutual
theorem rep_t {s : Option Addr} {P H : Hp} (hp : Same P H) : ∀ {x : T} {v : V}, noLT x = true → Rp s P x v → Rep H (tD x) v []
  | .non, v, h, r => by simp only [Rp] at r; simp only [tD, Rep]; exact ⟨r, trivial⟩
  | .bl _, v, h, r => by simp only [Rp] at r; simp only [tD, Rep]; exact ⟨r, trivial⟩
  | .int _, v, h, r => by simp only [Rp] at r; simp only [tD, Rep]; exact ⟨r, trivial⟩
  | .str _, v, h, r => by simp only [Rp] at r; simp only [tD, Rep]; exact ⟨r, trivial⟩
  | .tup ds, v, h, r => by
    simp only [noLT] at h
    simp only [Rp] at r
    obtain ⟨a, vs, rfl, h1, h2, h3⟩ := r
    simp only [tD, Rep]
    exact ⟨a, vs, [], rfl, hp _ _ h1, reps_t hp h h2, rfl, by rw [tDs_len]; exact h3⟩
  | .ty _, v, h, r => by simp [noLT] at h
  | .lst _, v, h, r => by simp [noLT] at h
  | .obj _ _ _, v, h, r => by simp [noLT] at h
  | .sto, v, h, r => by simp [noLT] at h
  | .kc _, v, h, r => by simp [noLT] at h
  | .fi _, v, h, r => by simp [noLT] at h
theorem reps_t {s : Option Addr} {P H : Hp} (hp : Same P H) : ∀ {ds : List T} {vs : List V}, noLTs ds = true → Rps s P ds vs → Reps H (tDs ds) vs []
  | [], vs, h, r => by simp only [Rps] at r; simp only [tDs, Reps]; exact ⟨r, trivial⟩
  | d :: ds, vs, h, r => by
    simp only [noLTs, Bool.and_eq_true] at h
    simp only [Rps] at r
    obtain ⟨v, q, rfl, r1, r2⟩ := r
    simp only [tDs, Reps]
    exact ⟨v, q, [], [], rfl, rep_t hp h.1 r1, reps_t hp h.2 r2, rfl⟩
end
mutual
theorem ot_rep {s : Option Addr} {P H : Hp} (hp : Same P H) : ∀ {t : OT} {S : List Addr} {v : V}, t.noL = true → OtOk s P H t S v → S.Nodup → ∃ as, Rep H (oD t) v as ∧ as.Sublist S ∧
    ∀ H', (∀ a xs, a ∈ as → H a = some (.lst xs) → H' a = some (.lst (xs ++ [.int 99]))) → (∀ b o, b ∈ S → b ∉ as → H b = some o → H' b = some o) → OtOk s P H' t.bump S v
  | .d x, S, v, hn, h, nd => by
    simp only [OtOk] at h
    simp only [OT.noL] at hn
    refine ⟨[], by rw [oD]; exact rep_t hp hn h.2, List.nil_sublist _, fun H' _ _ => ?_⟩
    simp only [OT.bump, OtOk]
    exact h
  | .lst ts, S, v, hn, h, nd => by
    simp only [OtOk] at h
    simp only [OT.noL, Bool.and_eq_true, decide_eq_true_eq] at hn
    obtain ⟨hz, hn⟩ := hn
    obtain ⟨a, vs, S', rfl, rfl, h1, h2, h3⟩ := h
    obtain ⟨nd1, nd2⟩ := List.nodup_cons.mp nd
    obtain ⟨bs, g1, g2, g3⟩ := ots_rep hp hn h2 nd2
    refine ⟨a :: bs, ?_, g2.cons₂ a, fun H' k1 k2 => ?_⟩
    · simp only [oD, Rep]
      exact ⟨a, vs, bs, rfl, h1, g1, rfl, by rw [oDs_len]; exact h3⟩
    · have o2 := g3 H' (fun b xs hb => k1 b xs (List.mem_cons_of_mem _ hb)) fun b o hb hn ho => k2 b o (List.mem_cons_of_mem _ hb) (fun z => by
        rcases List.mem_cons.mp z with rfl | z
        · exact nd1 hb
        · exact hn z) ho
      simp only [OT.bump, OtOk]
      refine ⟨a, vs ++ [.int 99], S', rfl, rfl, k1 a vs (List.mem_cons_self ..) h1, ?_, ?_⟩
      · have := ots_snoc (t := .d (.int 99)) (S' := []) (v := .int 99) o2 (by simp only [OtOk, Rp]; exact ⟨trivial, trivial⟩)
        rw [List.append_nil] at this
        exact this
      · rw [List.length_append, List.length_singleton, ← ots_vlen o2, ots_vlen h2]
        omega
  | .tup ts, S, v, hn, h, nd => by
    simp only [OtOk] at h
    simp only [OT.noL] at hn
    obtain ⟨a, vs, S', rfl, rfl, h1, h2, h3⟩ := h
    obtain ⟨nd1, nd2⟩ := List.nodup_cons.mp nd
    obtain ⟨bs, g1, g2, g3⟩ := ots_rep hp hn h2 nd2
    refine ⟨bs, ?_, g2.cons a, fun H' k1 k2 => ?_⟩
    · simp only [oD, Rep]
      exact ⟨a, vs, bs, rfl, h1, g1, rfl, by rw [oDs_len]; exact h3⟩
    · have o2 := g3 H' k1 fun b o hb hn ho => k2 b o (List.mem_cons_of_mem _ hb) hn ho
      simp only [OT.bump, OtOk]
      exact ⟨a, vs, S', rfl, rfl, k2 a _ (List.mem_cons_self ..) (fun z => nd1 (g2.subset z)) h1, o2, by rw [← ots_vlen o2, ots_vlen h2]; exact h3⟩
theorem ots_rep {s : Option Addr} {P H : Hp} (hp : Same P H) : ∀ {ts : List OT} {S : List Addr} {vs : List V}, OT.noLs ts = true → OtsOk s P H ts S vs → S.Nodup → ∃ as, Reps H (oDs ts) vs as ∧ as.Sublist S ∧
    ∀ H', (∀ a xs, a ∈ as → H a = some (.lst xs) → H' a = some (.lst (xs ++ [.int 99]))) → (∀ b o, b ∈ S → b ∉ as → H b = some o → H' b = some o) → OtsOk s P H' (OT.bumps ts) S vs
  | [], S, vs, hn, h, nd => by
    simp only [OtsOk] at h
    obtain ⟨rfl, rfl⟩ := h
    refine ⟨[], by simp only [oDs, Reps]; exact ⟨trivial, trivial⟩, List.nil_sublist _, fun H' _ _ => ?_⟩
    simp only [OT.bumps, OtsOk]
    exact ⟨trivial, trivial⟩
  | t :: ts, S, vs, hn, h, nd => by
    simp only [OtsOk] at h
    simp only [OT.noLs, Bool.and_eq_true] at hn
    obtain ⟨S1, S2, v, r, rfl, rfl, h1, h2⟩ := h
    obtain ⟨nd1, nd2, nd3⟩ := List.nodup_append.mp nd
    obtain ⟨b1, g1, g2, g3⟩ := ot_rep hp hn.1 h1 nd1
    obtain ⟨b2, f1, f2, f3⟩ := ots_rep hp hn.2 h2 nd2
    refine ⟨b1 ++ b2, ?_, g2.append f2, fun H' k1 k2 => ?_⟩
    · simp only [oDs, Reps]
      exact ⟨v, r, b1, b2, rfl, g1, f1, rfl⟩
    · simp only [OT.bumps, OtsOk]
      refine ⟨S1, S2, v, r, rfl, rfl, g3 H' (fun a xs ha => k1 a xs (List.mem_append_left _ ha)) fun b o hb hn ho => k2 b o (List.mem_append_left _ hb) (fun z => ?_) ho, f3 H' (fun a xs ha => k1 a xs (List.mem_append_right _ ha)) fun b o hb hn ho => k2 b o (List.mem_append_right _ hb) (fun z => ?_) ho⟩
      · rcases List.mem_append.mp z with z | z
        · exact hn z
        · exact nd3 b hb b (f2.subset z) rfl
      · rcases List.mem_append.mp z with z | z
        · exact nd3 b (g2.subset z) b hb rfl
        · exact hn z
end
mutual
theorem dep_t : ∀ {n : Nat} {x : T}, depT n x = true → dep (tD x) ≤ n
  | 0, .tup ds, h => by simp [depT] at h
  | n + 1, .tup ds, h => by
    simp only [depT] at h
    simp only [tD, dep]
    exact Nat.succ_le_succ (deps_t h)
  | n, .non, h => by simp [tD, dep]
  | n, .bl _, h => by simp [tD, dep]
  | n, .int _, h => by simp [tD, dep]
  | n, .str _, h => by simp [tD, dep]
  | n, .ty _, h => by simp [tD, dep]
  | n, .lst _, h => by simp [tD, dep]
  | n, .obj _ _ _, h => by simp [tD, dep]
  | n, .sto, h => by simp [tD, dep]
  | n, .kc _, h => by simp [tD, dep]
  | n, .fi _, h => by simp [tD, dep]
theorem deps_t : ∀ {n : Nat} {ds : List T}, depTs n ds = true → deps (tDs ds) ≤ n
  | n, [], h => by simp [tDs, deps]
  | n, d :: ds, h => by
    simp only [depTs, Bool.and_eq_true] at h
    simp only [tDs, deps]
    exact Nat.max_le.mpr ⟨dep_t h.1, deps_t h.2⟩
end
mutual
theorem dep_o : ∀ {n : Nat} {t : OT}, t.dep n = true → dep (oD t) ≤ n
  | n, .d x, h => by
    simp only [OT.dep] at h
    rw [oD]
    exact dep_t h
  | 0, .lst ts, h => by simp [OT.dep] at h
  | 0, .tup ts, h => by simp [OT.dep] at h
  | n + 1, .lst ts, h => by
    simp only [OT.dep] at h
    simp only [oD, dep]
    exact Nat.succ_le_succ (deps_o h)
  | n + 1, .tup ts, h => by
    simp only [OT.dep] at h
    simp only [oD, dep]
    exact Nat.succ_le_succ (deps_o h)
theorem deps_o : ∀ {n : Nat} {ts : List OT}, OT.deps n ts = true → deps (oDs ts) ≤ n
  | n, [], h => by simp [oDs, deps]
  | n, t :: ts, h => by
    simp only [OT.deps, Bool.and_eq_true] at h
    simp only [oDs, deps]
    exact Nat.max_le.mpr ⟨dep_o h.1, deps_o h.2⟩
end
def sp_lists (n : Nat) : Sp := fun vs H Q _ => ∃ (d : D) (v : V) (as : List Addr) (k : Int), vs = [v, .int k] ∧ dep d ≤ n ∧ (n : Int) < k ∧ k < 1000 ∧ Rep H d v as ∧ as.length < 100000 ∧ ∀ p H', Same H H' → H p = none → H' p = some (.lst (as.map V.ref)) → Q (.ref p) H'
def sp_lists' (n : Nat) : Sp := fun vs H Q _ => ∃ (d : D) (v : V) (as : List Addr) (k : Int), vs = [v, .int k] ∧ dep d < n ∧ (n : Int) < k + 1 ∧ k < 1000 ∧ Rep H d v as ∧ as.length < 100000 ∧ ∀ p H', Same H H' → H p = none → H' p = some (.lst (as.map V.ref)) → Q (.ref p) H'
mutual
theorem rep_sz {H : Hp} : ∀ (d : D) (v : V) (as : List Addr), Rep H d v as → ∀ a ∈ as, ∃ xs, H a = some (.lst xs) ∧ xs.length < 1000000
  | .non, v, as, h => by simp only [Rep] at h; rw [h.2]; intro a ha; cases ha
  | .bl b, v, as, h => by simp only [Rep] at h; rw [h.2]; intro a ha; cases ha
  | .int b, v, as, h => by simp only [Rep] at h; rw [h.2]; intro a ha; cases ha
  | .str b, v, as, h => by simp only [Rep] at h; rw [h.2]; intro a ha; cases ha
  | .lst ds, v, as, h => by
    simp only [Rep] at h
    obtain ⟨a, vs, bs, e1, e2, e3, e4, e5⟩ := h
    subst e4
    intro b hb
    cases hb with
    | head => exact ⟨_, e2, by rw [reps_len e3]; exact e5⟩
    | tail _ hb => exact reps_sz ds vs bs e3 b hb
  | .tup ds, v, as, h => by
    simp only [Rep] at h
    obtain ⟨a, vs, bs, e1, e2, e3, e4, _⟩ := h
    subst e4
    exact reps_sz ds vs as e3
theorem reps_sz {H : Hp} : ∀ (ds : List D) (vs : List V) (as : List Addr), Reps H ds vs as → ∀ a ∈ as, ∃ xs, H a = some (.lst xs) ∧ xs.length < 1000000
  | [], vs, as, h => by simp only [Reps] at h; rw [h.2]; intro a ha; cases ha
  | d :: ds, vs, as, h => by
    simp only [Reps] at h
    obtain ⟨v, r, bs, cs, e1, e2, e3, e4⟩ := h
    subst e4
    intro a ha
    rcases List.mem_append.mp ha with ha | ha
    · exact rep_sz d v bs e2 a ha
    · exact reps_sz ds r cs e3 a ha
end
/-- the items of the list at a -/
def lsAt (H : Hp) (a : Addr) : List V := match H a with
  | some (.lst xs) => xs
  | _ => []
theorem paired_same {α : Type} {F : α → α → Prop} : ∀ {l : List α}, (∀ x ∈ l, F x x) → Paired F l l
  | [], _ => .nil
  | x :: l, h => .cons (h x (List.mem_cons_self ..)) (paired_same fun y hy => h y (List.mem_cons_of_mem _ hy))
def sp_apart : Sp := fun vs H Q _ => ∃ (d : D) (v : V) (as : List Addr), vs = [v] ∧ dep d ≤ 6 ∧ Rep H d v as ∧ as.Nodup ∧ as.length < 100000 ∧ ∀ H', (∀ a o, H a = some o → a ∉ as → H' a = some o) → (∀ a xs, a ∈ as → H a = some (.lst xs) → H' a = some (.lst (xs ++ [.int 99]))) → Q (.bl true) H'
theorem apart_of {vs : List V} {H : Hp} {Q : VK} {E : XK} (h : SpApart vs H Q E) : sp_apart vs H Q E := by
  obtain ⟨s, P, v, t, S, rfl, wf, o, nd, hS, hn, hd, hl, q⟩ := h
  obtain ⟨as, r1, r2, r3⟩ := ot_rep wf.sub hn o nd
  exact ⟨oD t, v, as, rfl, dep_o hd, r1, r2.nodup nd, Nat.lt_of_le_of_lt r2.length_le hl, fun H' k1 k2 => q H' (fun b o hb ho => k1 b o ho (fun z => hb (r2.subset z))) (r3 H' k2 fun b o _ hb ho => k1 b o ho hb)⟩
def dRow (r : List Int) : D := .lst (r.map D.int)
theorem reps_ints {H : Hp} : ∀ {r : List Int} {vs : List V} {as : List Addr}, Reps H (r.map D.int) vs as → vs = r.map V.int ∧ as = []
  | [], vs, as, h => by
    simp only [List.map_nil, Reps] at h
    exact h
  | x :: r, vs, as, h => by
    simp only [List.map_cons, Reps, Rep] at h
    obtain ⟨v, r', bs, cs, rfl, ⟨rfl, rfl⟩, e3, rfl⟩ := h
    obtain ⟨rfl, rfl⟩ := reps_ints e3
    exact ⟨rfl, rfl⟩
theorem rep_row {H : Hp} {r : List Int} {v : V} {as : List Addr} (h : Rep H (dRow r) v as) : ∃ a, v = .ref a ∧ H a = some (.lst (r.map V.int)) ∧ r.length < 1000000 ∧ as = [a] := by
  unfold dRow at h
  simp only [Rep, List.length_map] at h
  obtain ⟨a, vs, bs, rfl, e2, e3, rfl, e5⟩ := h
  obtain ⟨rfl, rfl⟩ := reps_ints e3
  exact ⟨a, rfl, e2, e5, rfl⟩
/-! rows of data in the heap -/
theorem rps_ofots {s : Option Addr} {P H : Hp} : ∀ {r : List T} {S : List Addr} {ws : List V}, OtsOk s P H (r.map OT.d) S ws → S = [] ∧ Rps s P r ws
  | [], S, ws, h => by
    simp only [List.map_nil, OtsOk] at h
    refine ⟨h.1, ?_⟩
    rw [h.2]
    exact rps_nil
  | x :: r, S, ws, h => by
    simp only [List.map_cons, OtsOk, OtOk] at h
    obtain ⟨S1, S2, v, q, rfl, rfl, ⟨rfl, h1⟩, h2⟩ := h
    obtain ⟨rfl, h3⟩ := rps_ofots h2
    exact ⟨rfl, rps_cons h1 h3⟩
theorem ots_rows {s : Option Addr} {P H : Hp} : ∀ {m : List (List T)} {S : List Addr} {vs : List V}, OtsOk s P H (m.map rowOT) S vs → vs = S.map V.ref ∧ (∀ a ∈ S, ∃ xs, H a = some (.lst xs) ∧ xs.length < 1000000) ∧
    ∀ H', (∀ a xs, a ∈ S → H a = some (.lst xs) → H' a = some (.lst (xs ++ [.int 99]))) → (∀ r ∈ m, r.length < 999999) → OtsOk s P H' (m.map fun r => rowOT (r ++ [.int 99])) S vs
  | [], S, vs, h => by
    simp only [List.map_nil, OtsOk] at h
    obtain ⟨rfl, rfl⟩ := h
    refine ⟨rfl, fun a ha => (nomatch ha), fun H2 _ _ => ?_⟩
    simp only [List.map_nil, OtsOk]
    exact ⟨trivial, trivial⟩
  | r :: m, S, vs, h => by
    simp only [List.map_cons, OtsOk] at h
    obtain ⟨S1, S2, v, q, rfl, rfl, h1, h2⟩ := h
    obtain ⟨rfl, h3, h4⟩ := ots_rows h2
    simp only [rowOT, OtOk] at h1
    obtain ⟨a, ws, S', rfl, rfl, g1, g2, g3⟩ := h1
    obtain ⟨rfl, g4⟩ := rps_ofots g2
    rw [List.length_map] at g3
    refine ⟨rfl, fun b hb => ?_, fun H' k1 k2 => ?_⟩
    · rcases List.mem_append.mp hb with hb | hb
      · cases List.mem_singleton.mp hb
        exact ⟨ws, g1, by rw [rps_len g4]; exact g3⟩
      · exact h3 b hb
    · simp only [List.map_cons, OtsOk]
      refine ⟨[a], S2, .ref a, _, rfl, rfl, ?_, h4 H' (fun b xs hb => k1 b xs (List.mem_append_right _ hb)) fun x hx => k2 x (List.mem_cons_of_mem _ hx)⟩
      simp only [rowOT, OtOk]
      have lr := k2 r (List.mem_cons_self ..)
      refine ⟨a, ws ++ [.int 99], [], rfl, rfl, k1 a ws (List.mem_append_left _ (List.mem_singleton.mpr rfl)) g1, ots_d (rps_snoc g4 (by simp [Rp])), by rw [List.length_map, List.length_append, List.length_singleton]; omega⟩
def sp_rows : Sp := fun vs H Q _ => ∃ (p : Addr) (as : List Addr), vs = [.ref p] ∧ H p = some (.lst (as.map V.ref)) ∧ (∀ a ∈ as, ∃ xs, H a = some (.lst xs) ∧ xs.length < 1000000) ∧ as.Nodup ∧ p ∉ as ∧ as.length < 100000 ∧
  ∀ H', (∀ a o, H a = some o → a ∉ as → a ≠ p → H' a = some o) → (∀ a xs, a ∈ as → H a = some (.lst xs) → H' a = some (.lst (xs ++ [.int 99]))) → H' p = some (.lst (as.map V.ref ++ [.int 99])) → Q (.bl true) H'
theorem rows_of {vs : List V} {H : Hp} {Q : VK} {E : XK} (h : SpRows vs H Q E) : sp_rows vs H Q E := by
  obtain ⟨s, P, v, m, S, rfl, wf, o, nd, hS, hl, hr, q⟩ := h
  simp only [matOT, OtOk] at o
  obtain ⟨p, vs, S', rfl, rfl, h1, h2, h3⟩ := o
  obtain ⟨nd1, nd2⟩ := List.nodup_cons.mp nd
  have lv := ots_vlen h2
  obtain ⟨rfl, g1, g2⟩ := ots_rows h2
  rw [List.length_map, List.length_map] at lv
  refine ⟨p, S', rfl, h1, g1, nd2, nd1, by omega, fun H' k1 k2 k3 => q H' (fun b o hb ho => k1 b o ho (fun z => hb (List.mem_cons_of_mem _ z)) (fun z => hb (by rw [z]; exact List.mem_cons_self ..))) ?_⟩
  simp only [bumpR, OtOk]
  refine ⟨p, _, S', rfl, rfl, k3, ?_, by rw [List.length_append, List.length_map, List.length_singleton]; omega⟩
  have := ots_snoc (t := .d (.int 99)) (S' := []) (v := .int 99) (g2 H' k2 hr) (by simp only [OtOk, Rp]; exact ⟨trivial, trivial⟩)
  rw [List.append_nil] at this
  exact this
end Mt.Ap
/-! ### _law_apart of what a call gives -/
namespace Mt
open PySem PySem.Spec PyProof.Rows L2 L2H
section
variable {A : Ad} {E : EK} {te : TE} {mo : MOt}
def mApartE (mo : MOt) : ME := fun XA env k => mo XA env fun t => t.noL = true ∧ t.dep 6 = true ∧ t.cnt < 100000 ∧ k (.bl true)
theorem re_apart (ho : ROt A E te mo) : RE A E (tCall SpApart [] E0 (tCons te tNil)) (mApartE mo) := fun s H0 P σ H env XA k Q re x h q =>
  ho s H0 P σ H env XA _ _ re x h fun P1 H1 v t S e1 o n f ⟨h1, h2, h3, h4⟩ => by
    have hs : ∀ a, a ∈ S → s ≠ some a := fun a ha => ne_sto (b := a) re.wf (f a ha).2
    refine ⟨s, P1, v, t, S, rfl, e1.wf, o, n, fun a ha => ⟨(f a ha).1, hs a ha⟩, h1, h2, by rw [ot_cnt o]; exact h3, fun H' k1 k2 => ?_⟩
    exact q P1 H' _ (.bl true) (ext_mod (A := S) e1 (fun a ha => ⟨(f a ha).1, (f a ha).2, hs a ha⟩) k1) (by simp [Rp]) h4
end
end Mt
/-! ### the errors that bear another thing than an argument: TooLarge(bound), Clash(moment), BadText(line) -/
namespace Mt
open PySem PySem.Spec PyProof.Rows L2 L2H
def sp_initB (K : PySem.W.Frag) (C : Addr) (n : Str) : Sp := fun vs H Q _ => ∃ (a : Addr) (y : V), vs = [.ref a, y] ∧ H a = some (exo a C none) ∧ ∀ dx, H dx = none → dx ≠ a → Q .non (upd (upd H dx (exd dx [(n, y)])) a (exo a C (some dx)))
structure ErrKB (P : Program) (w : World) (K : PySem.W.Frag) (mg : Str → Option Value) (base : Heap) (x : Str) (C : Addr) (n : Str) : Prop where
  gC : mg x = some (.ref C)
  oex : OexC K C
  noA : PySem.W.findIn K (.ref C) n = some none
  ini : ∃ fI fd, PySem.W.findIn K (.ref C) "__init__" = some (some (.ref fI)) ∧ PySem.W.typeIn K (.ref fI) = some (.type "function") ∧ FnOk P w K mg base CX0 1 fI fd ["self", n] (sp_initB K C n) ∧ Binds K fd ["self", n] []
theorem p_errB {X : Cx} {x : Str} {C : Addr} {n : Str} {k : Nat} {e : Expr} {es : List Expr} {ta : TA} {p pos : Pos} (E : ErrKB X.prog X.w X.K X.mg X.base x C n) (hr : Room k X.A) (ha : PA X (e :: es) ta) (hj : 2 ≤ k := by decide) (hg : Gl X x := by rfl)
    (hdb : (x == ("__debug__" : Str)) = false := by decide) (he : starEach (e :: es) X.env = (false, eval e X.env) :: starEach es X.env := by rfl) (hpl : (backTo pos (starEach es X.env)).any (·.1) = false := by rfl) :
    L2N.PMk X (.Call (.Name x p) (e :: es) [] pos) (tMkO C (sp_initB X.K C n) [] ta) := by
  obtain ⟨fI, fd, i1, i2, F, b⟩ := E.ini
  exact pmkN E.oex i1 i2 F (hr.mono hj) b E.gC ha hg hdb he hpl
theorem u_mkOB {K : PySem.W.Frag} {C : Addr} {n : Str} {y : V} {H : Hp} {Q : XK} (q : ∀ d, H d = none → Q (.ref C) (some d) (upd H d (.xd [(n, y)]))) (a : Addr) (ha : H a = none) : sp_initB K C n [.ref a, y] (upd H a (exo a C none))
  (fun v H2 => v = .non ∧ ∃ (d : Addr) (fs : List (Str × V)), H2 a = some (exo a C (some d)) ∧ H2 d = some (exd d fs) ∧ H d = none ∧ Q (.ref C) (some d) (upd (L2.del H2 a) d (.xd fs))) (fun _ _ _ => False) := by
  refine ⟨a, y, rfl, upd_same, fun dx hdx hne => ⟨rfl, dx, [(n, y)], upd_same, ?_, ?_, ?_⟩⟩
  · rw [upd_ne hne, upd_same]
  · rw [upd_ne hne] at hdx
    exact hdx
  · rw [upd_ne hne] at hdx
    have e : upd (L2.del (upd (upd (upd H a (exo a C none)) dx (exd dx [(n, y)])) a (exo a C (some dx))) a) dx (.xd [(n, y)]) = upd H dx (.xd [(n, y)]) := by
      funext b
      by_cases h1 : b = dx
      · rw [h1, upd_same, upd_same]
      · rw [upd_ne h1, upd_ne h1]
        by_cases h2 : b = a
        · rw [h2, del_same, ha]
        · rw [del_ne h2, upd_ne h2, upd_ne h1, upd_ne h2]
    rw [e]
    exact q dx hdx
/-- such an error class, as a def of it makes it -/
theorem initB_of {P : Program} {w : World} {K : PySem.W.Frag} {mg : Str → Option Value} {base : Heap} {f : Addr} {fd : FuncData} {C : Addr} {n : Str} {q : Str} {st : Stmt} (F : Fun K "__init__" q st f fd) (S : FnScope ["self", n] ["self", n] (defScope st))
    (hb : ∀ (cdv : Value) (A : Around) (outer : List PySem.Env) (s : Shared) (H : Hp) (E : XK), PSs (cxOf CX0 P w K mg base ["self", n] q (defScope st) f cdv A outer s H E).nox (defBody st) (tOst K n (tVar 0) (tVar 1))) (oex : OexC K C) (no : PySem.W.findIn K (.ref C) n = some none) : FnOk P w K mg base CX0 1 f fd ["self", n] (sp_initB K C n) := by
  refine F.ok S (fun vs H Q E h => ?_) (fun cdv A outer s H vs Q E hr h => ?_)
  · obtain ⟨a, y, rfl, _⟩ := h
    rfl
  · obtain ⟨a, y, rfl, ea, q⟩ := h
    exact ⟨_, hb cdv A outer s H E, y, rfl, .ref a, rfl, a, C, rfl, oex, no, Or.inl ⟨ea, q⟩⟩
section
variable {A : Ad} {te : TE} {me : ME}
theorem rs_raiseB {K : PySem.W.Frag} {W : WX} {c : Ec} {C : Addr} (hC : C = c.adr A) (ha : RE A (WE W) te me) : RS A (WE W) (fun _ σ H => tMkO C (sp_initB K C c.attr) [] (tCons te tNil) σ H fun cls d H' => W cls d σ H') (mRaise c me) := fun s P0 H0 P σ H env D M e re l h => by
  have xc := l.xr P σ H env e (Same.refl _) re
  show tMkO C (sp_initB K C c.attr) [] (tCons te tNil) σ H _
  rw [w_mkO]
  refine ha s H0 P σ H env _ _ _ re xc h fun P1 H1 v d e1 r1 h1 => ?_
  refine ⟨by show 1 ≤ 1000; decide, fun a hna => ?_⟩
  show sp_initB K C c.attr [V.ref a, v] _ _ _
  refine u_mkOB (Q := fun cls d H' => W cls d σ H') (fun dd hd => ?_) a hna
  have e2 := ext_own (o := .xd [(c.attr, v)]) e1.wf hd
  exact xc P1 _ (.arg c d) _ _ (e1.trans e2) h1 ⟨by rw [hC], dd, v, rfl, upd_same, r1⟩
end
/-- what isinstance says of such an error -/
structure KB (K : PySem.W.Frag) (A : Ad) (c : Ec) : Prop where
  xc : XcC K (c.adr A)
  no : PySem.W.findIn K (.ref (c.adr A)) c.attr = some none
  bn : PySem.W.kitOne K (.ref (c.adr A)) (.ref A.bn) = some false
  bs : PySem.W.kitOne K (.ref (c.adr A)) (.ref A.bs) = some false
  be : PySem.W.kitOne K (.ref (c.adr A)) (.ref A.be) = some false
  bt : PySem.W.kitOne K (.ref (c.adr A)) (.ref A.bt) = some (match c with | .bt => true | _ => false)
  tl : PySem.W.kitOne K (.ref (c.adr A)) (.ref A.tl) = some (match c with | .tl => true | _ => false)
  cl : PySem.W.kitOne K (.ref (c.adr A)) (.ref A.cl) = some (match c with | .cl => true | _ => false)
  ni : PySem.W.kitOne K (.ref (c.adr A)) (.ref A.ni) = some false
  nm : PySem.W.kitOne K (.ref (c.adr A)) (.ref A.nm) = some false
  en : PySem.W.kitOne K (.ref (c.adr A)) (.ref A.en) = some false
  me : PySem.W.kitOne K (.ref (c.adr A)) (.ref A.me) = some true
  ve : PySem.W.kitOne K (.ref (c.adr A)) (.type "ValueError") = some true
/-- _law_kind's promise with these too -/
def SpB1 (A : Ad) (c : Ec) (p : Addr × Obj) : Sp := fun vs H Q _ => ∃ (d : Addr) (y : V), vs = [.ref p.1] ∧ ErrAt p (c.adr A) d ∧ H d = some (.xd [(c.attr, y)]) ∧ ∀ t H', Same H H' → H t = none → H' t = some (.tup [.str (exName (.arg c .non)), y]) → Q (.ref t) H'
def SpB (A : Ad) (al : Ec → Bool) (zl : Ez → Bool) (bl : Ec → Bool) (p : Addr × Obj) : Sp := fun vs H Q E => SpH A al zl p vs H Q E ∨ ∃ c, bl c = true ∧ SpB1 A c p vs H Q E
def mKindB (al : Ec → Bool) (zl : Ez → Bool) (bl : Ec → Bool) (x : Ex) : MS := fun env M => mKindH al zl x env M ∨ ∃ c pl, x = .arg c pl ∧ bl c = true ∧ M.rt (.tup [.str (exName x), pl])
theorem rh_kindB {A : Ad} {E : EK} {al : Ec → Bool} {zl : Ez → Bool} {bl : Ec → Bool} {i : Nat} : RH A E i (fun a cls d => tRet (tCallG a cls d (SpB A al zl bl) (tCons (tVar i) tNil))) (mKindB al zl bl) := fun a cls d x s P0 H0 P σ H env D M hi ha hx e re l h => by
  have w := re.wf
  rcases h with h | ⟨c, pl, hx2, hbl, h⟩
  · obtain ⟨C, e1, v, hv, q⟩ := rh_kindH a cls d x s P0 H0 P σ H env D M hi ha hx e re l h
    exact ⟨C, e1, v, hv, fun oe he => Or.inl (q oe he)⟩
  · subst hx2
    obtain ⟨rfl, dd, v, rfl, hd, hr⟩ := hx
    refine ⟨_, rfl, .ref a, hi, fun oe he => Or.inr ?_⟩
    rcases he with ⟨d', e1, he⟩ | ⟨e1, _⟩
    · cases e1
      refine ⟨c, hbl, dd, v, rfl, he, hd, fun t H' sm ht et => ?_⟩
      have e2 := ext_pair w sm ht et
      refine l.rt _ H' (.ref t) _ (e.trans e2) e2.sub ?_ h
      simp only [Rp]
      exact ⟨t, _, rfl, upd_same, rps_cons (by simp only [Rp]; rw [exName_pl]) (rps_cons (rp_same e2.sub _ _ hr) rps_nil), by show 2 < 1000000; decide⟩
    · cases e1
end Mt
namespace Mt
open PySem PySem.Spec PyProof.Rows L2 L2H
/-- list.count of ints within a comprehension: its reading names no place of the comprehension -/
theorem pe_lcntK {X : Cx} {K : PySem.W.Frag} {o e : Expr} {es : List Expr} {to : TE} {t : TA} {apos cpos : Pos} (hK : X.K = K) (ho : PE X o to) (ha : PA X (e :: es) t)
    (hbase : attributeBase o "count" X.env (eval o X.env) = eval o X.env := by rfl)
    (hfew : ((backTo cpos (starEach (e :: es) X.env)).all (fun x => !x.1) && (backToKw cpos (keywordEach [] X.env)).all (fun x => x.1.isSome)
      && decide ((e :: es).length + ([] : List Keyword).length + (if ([] : List Keyword).isEmpty then 0 else 1) < 30)) = true := by rfl)
    (hline : (apos.endLine == cpos.line) = true := by rfl) (hs : starEach (e :: es) X.env = (false, eval e X.env) :: starEach es X.env := by rfl) (hplain : (backTo cpos (starEach es X.env)).any (·.1) = false := by rfl) :
    PE X (.Call (.Attribute o "count" apos) (e :: es) [] cpos) (tBM K "list" (rCntI K) to t) := by
  subst hK
  exact pe_bm PySem.F.plainAttrs_list PySem.F.slot_list_count PySem.F.type_list_count mt_lcount ho ha hbase hfew hline hs hplain
end Mt
/-! texts: slices, walks sign by sign, a sign many times -/
namespace Mt
open PySem PySem.Spec PyProof.Rows L2 L2H
/-- text * number -/
def rMulS : R2 := fun x y H Q => ∃ i n, x = .str i ∧ y = .int n ∧ MulOk i n ∧ Q (.str (Txt.mul i n)) H
theorem op_mulS {X : Cx} : OpR X (binaryOp .Mult) rMulS := by
  intro pins s σ H x y v u Q I rx ry h
  obtain ⟨i, n, rfl, rfl, hok, q⟩ := h
  obtain ⟨t, rfl⟩ := rx
  obtain ⟨t', rfl⟩ := ry
  exact SB.mul hok fun t' k => ⟨.str (Txt.mul i n), H, I.tok _, ⟨_, rfl⟩, q⟩
theorem str_ext {a b : Str} (h : a.cps.toList = b.cps.toList) : a = b := by
  cases a
  cases b
  congr 1
  exact Array.toList_inj.mp h
theorem mul_sign (c : Nat) (n : Int) : Txt.mul ⟨#[c]⟩ n = ⟨(List.replicate n.toNat c).toArray⟩ := str_ext (by rw [mul_one_list])
def oMulS : T → T → (T → Prop) → Prop := fun d e k => ∃ (c : Nat) (n : Int), d = .str ⟨#[c]⟩ ∧ e = .int n ∧ -1000000 < n ∧ n < 1000000 ∧ k (.str ⟨(List.replicate n.toNat c).toArray⟩)
theorem ro_mulS : ROp rMulS oMulS := fun s P H x y d e k Q w h1 h2 ⟨c, n, e1, e2, n0, n1, h⟩ q => by
  subst e1 e2
  refine ⟨_, n, rp_str h1, rp_int h2, mulOk_of 1 1000000 (Nat.le_refl 1) (by omega) (by omega) (by decide) (by decide), ?_⟩
  rw [mul_sign]
  exact q P H _ _ (Ext.refl w) (by simp [Rp]) h
section
variable {A : Ad} {E : EK} {te : TE} {me : ME} {K : PySem.W.Frag}
/-- text[a:b] -/
def mSlS (me : ME) (ml mh : MO) : ME := fun XA env k => me XA env fun d => ml XA env fun lo => mh XA env fun hi => ∃ z : Str, d = .str z ∧ z.length < 1000000 ∧ k (.str (cutS z lo hi))
theorem re_slS {tl th : TO} {ml mh : MO} (ha : RE A E te me) (hl : RO A E tl ml) (hh : RO A E th mh) : RE A E (tSl rSlS te tl th) (mSlS me ml mh) := fun s H0 P σ H env XA k Q re x h q =>
  ha s H0 P σ H env XA _ _ re x h fun P1 H1 v d e1 r1 h1 => hl s H0 P1 σ H1 env XA _ _ (re.ext e1) (x.ext e1) h1 fun P2 H2 lo e2 h2 => hh s H0 P2 σ H2 env XA _ _ ((re.ext e1).ext e2) ((x.ext e1).ext e2) h2 fun P3 H3 hi e3 ⟨z, h3, hz, h4⟩ => by
    subst h3
    exact ⟨z, rp_str r1, size_line hz, q P3 H3 _ _ (e1.trans (e2.trans e3)) (by simp [Rp]) h4⟩
/-- the signs of a text -/
def signsT (z : Str) : List T := z.cps.toList.map fun c => T.str ⟨#[c]⟩
theorem signsT_len (z : Str) : (signsT z).length = z.length := by
  rw [signsT, List.length_map, Array.length_toList]
  rfl
def mStr (me : ME) : MA := fun XA env k => me XA env fun d => ∃ z : Str, d = .str z ∧ z.length < 1000000 ∧ k (signsT z)
theorem ri_str (ha : RE A E te me) : RI A E (iStr te) (mStr me) := fun s H0 P σ H env XA k R re x h q =>
  ha s H0 P σ H env XA _ _ re x h fun P1 H1 v d e1 r1 ⟨z, h1, hz, h2⟩ => by
    subst h1
    refine ⟨z, rp_str r1, q P1 H1 _ _ e1 (fun P' H' sp w => ?_) (by rw [signsT_len]; exact hz) h2⟩
    have hs : ∀ i : Nat, z.cps.toList[i]? = z.cps[i]? := fun i => Array.getElem?_toList
    refine ⟨fun i d hd => ?_, fun i hi => ?_⟩
    · rw [signsT, List.getElem?_map, hs] at hd
      obtain ⟨c, hc, rfl⟩ := Option.map_eq_some_iff.mp hd
      refine ⟨(Array.getElem?_eq_some_iff.mp hc).1, fun x H'' hy => ?_⟩
      obtain ⟨rfl, c', hc', rfl⟩ := hy
      rw [hc] at hc'
      cases hc'
      exact ⟨P', Ext.refl w, by simp [Rp]⟩
    · rw [signsT_len] at hi
      exact hi
end
theorem join_signs : ∀ cs : List Nat, Str.join ⟨#[]⟩ (cs.map fun c => (⟨#[c]⟩ : Str)) = ⟨cs.toArray⟩
  | [] => rfl
  | [c] => rfl
  | c :: d :: cs => by
    have ih := join_signs (d :: cs)
    show (⟨#[c]⟩ : Str) ++ (⟨#[]⟩ : Str) ++ Str.join ⟨#[]⟩ ((d :: cs).map fun c => (⟨#[c]⟩ : Str)) = _
    rw [ih]
    refine str_ext ?_
    show ((#[c] ++ #[] : Array Nat) ++ (d :: cs).toArray).toList = _
    simp
theorem lc_of {α : Type} {f : T → (Option T → Prop) → Prop} {as : List α} {g G : α → T} {k : List T → Prop} (h : ∀ a ∈ as, ∀ r : Option T → Prop, r (some (G a)) → f (g a) r) (hk : k (as.map G)) : lcInv f (as.map g) k := by
  refine ⟨fun i acc => acc = (as.take i).map G, rfl, fun i x acc hx ha => ?_, fun acc ha => ?_⟩
  · rw [List.getElem?_map] at hx
    obtain ⟨a, e, rfl⟩ := Option.map_eq_some_iff.mp hx
    refine h a (List.mem_of_getElem? e) _ ?_
    show acc ++ [G a] = (as.take (i + 1)).map G
    rw [ha, List.take_add_one, e, List.map_append]
    rfl
  · rw [List.length_map, List.take_length] at ha
    rw [ha]
    exact hk
end Mt
namespace Mt
open PySem PySem.Spec PyProof.Rows L2 L2H
/-- a list's entries are of the kinds that data has -/
def itemsTy (v : T) : Prop := ∀ es, v = .lst es → ∀ e ∈ es, ∃ n, tyT e = some n
mutual
/-- data so deep, its lists and texts of at most 2000 -/
def bdT : Nat → T → Bool
  | _, .non => true
  | _, .bl _ => true
  | _, .int _ => true
  | _, .str x => decide (x.length ≤ 2000)
  | 0, _ => false
  | n + 1, .lst a => decide (a.length ≤ 2000) && bdTs n a
  | n + 1, .tup a => decide (a.length ≤ 2000) && bdTs n a
  | _, _ => false
def bdTs : Nat → List T → Bool
  | _, [] => true
  | n, a :: as => bdT n a && bdTs n as
end
mutual
theorem bd_ok : ∀ {n : Nat} {v : T}, bdT n v = true → okT n v = true
  | n, .non, h => by simp [okT]
  | n, .bl b, h => by simp [okT]
  | n, .int b, h => by simp [okT]
  | n, .str b, h => by simp [okT]
  | 0, .lst ds, h => by simp [bdT] at h
  | 0, .tup ds, h => by simp [bdT] at h
  | n + 1, .lst ds, h => by
    simp only [bdT, Bool.and_eq_true] at h
    simp only [okT]
    exact bds_ok h.2
  | n + 1, .tup ds, h => by
    simp only [bdT, Bool.and_eq_true] at h
    simp only [okT]
    exact bds_ok h.2
  | 0, .ty _, h => by simp [bdT] at h
  | n + 1, .ty _, h => by simp [bdT] at h
  | 0, .sto, h => by simp [bdT] at h
  | 0, .kc _, h => by simp [bdT] at h
  | 0, .fi _, h => by simp [bdT] at h
  | n + 1, .sto, h => by simp [bdT] at h
  | n + 1, .kc _, h => by simp [bdT] at h
  | n + 1, .fi _, h => by simp [bdT] at h
  | 0, .obj _ _ _, h => by simp [bdT] at h
  | n + 1, .obj _ _ _, h => by simp [bdT] at h
theorem bds_ok : ∀ {n : Nat} {a : List T}, bdTs n a = true → okTs n a = true
  | n, [], h => by simp [okTs]
  | n, a :: as, h => by
    simp only [bdTs, Bool.and_eq_true] at h
    simp only [okTs, Bool.and_eq_true]
    exact ⟨bd_ok h.1, bds_ok h.2⟩
end
theorem bds_at : ∀ {n : Nat} {ds : List T} {i : Nat} {d : T}, bdTs n ds = true → ds[i]? = some d → bdT n d = true
  | n, [], i, d, h, e => by simp at e
  | n, a :: as, 0, d, h, e => by
    simp only [bdTs, Bool.and_eq_true] at h
    cases e
    exact h.1
  | n, a :: as, i + 1, d, h, e => by
    simp only [bdTs, Bool.and_eq_true] at h
    exact bds_at h.2 e
theorem okTs_of : ∀ {n : Nat} {ds : List T}, (∀ d, d ∈ ds → okT n d = true) → okTs n ds = true
  | n, [], h => by simp [okTs]
  | n, a :: as, h => by
    simp only [okTs, Bool.and_eq_true]
    exact ⟨h a (List.mem_cons_self ..), okTs_of fun d hd => h d (List.mem_cons_of_mem _ hd)⟩
theorem bdTs_of : ∀ {n : Nat} {ds : List T}, (∀ d, d ∈ ds → bdT n d = true) → bdTs n ds = true
  | n, [], h => by simp [bdTs]
  | n, a :: as, h => by
    simp only [bdTs, Bool.and_eq_true]
    exact ⟨h a (List.mem_cons_self ..), bdTs_of fun d hd => h d (List.mem_cons_of_mem _ hd)⟩
theorem okTs_mem : ∀ {n : Nat} {ds : List T} {d : T}, okTs n ds = true → d ∈ ds → okT n d = true
  | n, a :: as, d, h, hd => by
    simp only [okTs, Bool.and_eq_true] at h
    rcases List.mem_cons.mp hd with rfl | hd
    · exact h.1
    · exact okTs_mem h.2 hd
theorem pick_mem {l : List T} {r : Int} (h0 : 0 ≤ r) (h1 : r < l.length) : ∃ t, atI l r = some t ∧ t ∈ l := by
  obtain ⟨j, rfl⟩ := Int.eq_ofNat_of_zero_le h0
  have hj : j < l.length := by omega
  exact ⟨l[j], atI_nat (List.getElem?_eq_getElem hj), List.getElem_mem hj⟩
theorem okTs_le {n m : Nat} {ds : List T} (h : okTs n ds = true) (l : n ≤ m) : okTs m ds = true := okTs_of fun d hd => okT_le (okTs_mem h hd) l
theorem bds_mem : ∀ {n : Nat} {ds : List T} {d : T}, bdTs n ds = true → d ∈ ds → bdT n d = true
  | n, a :: as, d, h, hd => by
    simp only [bdTs, Bool.and_eq_true] at h
    rcases List.mem_cons.mp hd with rfl | hd
    · exact h.1
    · exact bds_mem h.2 hd
theorem ixN_nat {m j : Nat} (h : j < m) : ixN m (j : Int) = some j := by
  unfold ixN
  rw [if_pos (by omega), if_pos (by omega), Int.toNat_natCast]
def optI : Option Int → T
  | none => .non
  | some i => .int i
def flagT (b : Bool) : T := .int (if b = true then 1 else 0)
theorem flag_of {v : T} (h : wholeT v 0 1 = true) : ∃ f, v = flagT f := by
  cases v with
  | int i =>
    simp only [wholeT, Bool.and_eq_true, decide_eq_true_eq] at h
    rcases (by omega : i = 0 ∨ i = 1) with rfl | rfl
    · exact ⟨false, rfl⟩
    · exact ⟨true, rfl⟩
  | _ => simp [wholeT] at h
def optN : Option Nat → T
  | none => .non
  | some i => .int (i : Int)
theorem enumT_at {ds : List T} {i : Nat} {x : T} (h : (enumT ds)[i]? = some x) : ∃ d, ds[i]? = some d ∧ x = .tup [.int (i : Nat), d] := by
  unfold enumT at h
  rw [List.getElem?_mapIdx] at h
  cases e : ds[i]? with
  | none => rw [e] at h; cases h
  | some d => rw [e] at h; cases h; exact ⟨d, rfl, rfl⟩
theorem flags_of : ∀ {es : List T}, es.all (fun e => wholeT e 0 1) = true → ∃ fs : List Bool, es = fs.map flagT
  | [], _ => ⟨[], rfl⟩
  | e :: es, h => by
    rw [List.all_cons, Bool.and_eq_true] at h
    obtain ⟨f, rfl⟩ := flag_of h.1
    obtain ⟨fs, rfl⟩ := flags_of h.2
    exact ⟨f :: fs, rfl⟩
theorem flags_all : ∀ {fs : List Bool}, (fs.map flagT).all (fun e => wholeT e 0 1) = true
  | [] => rfl
  | f :: fs => by
    rw [List.map_cons, List.all_cons, flags_all]
    cases f <;> rfl
theorem flag_ty {f : Bool} : tyT (flagT f) = some "int" := rfl
/-- the places of the lost beats -/
def plc : Int → List Bool → List Int
  | _, [] => []
  | i, x :: xs => if x = true then i :: plc (i + 1) xs else plc (i + 1) xs
def wFair (b f : Int) (fl : List Bool) : Bool := if ((plc 0 fl).length : Int) ≤ f then true else decide (((plc 0 fl).length : Int) ≤ b) && decide ((plc 0 fl).getLastD 0 - (plc 0 fl).headD 0 = ((plc 0 fl).length : Int) - 1)
def wAfter (b f : Int) (st : List Bool) (x : Bool) : Option (List Bool) := if wFair b f (st ++ [x]) = true then some ((st ++ [x]).drop 1) else none
theorem atI_last {l : List T} {x : T} (h : l.getLast? = some x) : atI l (-1) = some x := by
  have hn : l ≠ [] := fun e => by rw [e] at h; cases h
  have hp : 0 < l.length := List.length_pos_iff.mpr hn
  refine atI_neg1 (i := l.length - 1) (by omega) ?_
  rw [← List.getLast?_eq_getElem?, h]
theorem plc_range : ∀ {fl : List Bool} {i : Int}, (∀ x ∈ plc i fl, i ≤ x ∧ x < i + fl.length)
  | [], i, x, h => nomatch h
  | f :: fl, i, x, h => by
    have ih := plc_range (fl := fl) (i := i + 1)
    unfold plc at h
    rw [List.length_cons]
    split at h
    · rcases List.mem_cons.mp h with rfl | h
      · omega
      · have := ih x h
        omega
    · have := ih x h
      omega
theorem plc_len : ∀ {fl : List Bool} {i : Int}, (plc i fl).length ≤ fl.length
  | [], i => Nat.le_refl _
  | f :: fl, i => by
    have ih := plc_len (fl := fl) (i := i + 1)
    unfold plc
    split
    · simp only [List.length_cons]
      omega
    · simp only [List.length_cons]
      omega
theorem plc_step {fl : List Bool} {i : Nat} {x : Bool} (h : fl[i]? = some x) : plc i (fl.drop i) = (if x = true then [(i : Int)] else []) ++ plc ((i + 1 : Nat) : Int) (fl.drop (i + 1)) := by
  have hdr : fl.drop i = x :: fl.drop (i + 1) := List.drop_eq_getElem?_toList_append.trans (by rw [h]; rfl)
  rw [hdr]
  show (if x = true then (i : Int) :: plc ((i : Int) + 1) (fl.drop (i + 1)) else plc ((i : Int) + 1) (fl.drop (i + 1))) = _
  rw [show ((i + 1 : Nat) : Int) = (i : Int) + 1 by omega]
  cases x
  · rfl
  · rfl
theorem cut_tail {l : List T} (h : 1 ≤ l.length) : cutT l (some 1) none = l.drop 1 := by
  unfold cutT HT.sIx
  simp only []
  rw [List.take_of_length_le]
  · congr 1
    split <;> omega
  · rw [List.length_drop]
    split <;> omega
theorem headD_at {l : List Int} (h : l ≠ []) : atI (l.map T.int) 0 = some (.int (l.headD 0)) := by
  cases l with
  | nil => exact absurd rfl h
  | cons a l => exact atI_nat (xs := (a :: l).map T.int) (v := .int a) rfl
theorem lastD_at {l : List Int} (h : l ≠ []) : atI (l.map T.int) (-1) = some (.int (l.getLastD 0)) := by
  refine atI_last ?_
  rw [List.getLast?_map, List.getLast?_eq_some_getLast h, Option.map_some]
  cases l with
  | nil => exact absurd rfl h
  | cons a l => rfl
def bstR (b g : Int) : T := .tup [.str "burst", .int b, .int g]
def winR (W b f : Int) : T := .tup [.str "window", .int W, .int b, .int f]
theorem plc_shift : ∀ {fl : List Bool} {i : Int}, plc (i + 1) fl = (plc i fl).map (· + 1)
  | [], i => rfl
  | f :: fl, i => by
    have ih := plc_shift (fl := fl) (i := i + 1)
    show (if f = true then (i + 1) :: plc (i + 1 + 1) fl else plc (i + 1 + 1) fl) = (if f = true then i :: plc (i + 1) fl else plc (i + 1) fl).map (· + 1)
    rw [ih]
    cases f <;> rfl
theorem plc_false : ∀ {fl : List Bool} {i : Int}, plc i (fl ++ [false]) = plc i fl
  | [], i => rfl
  | f :: fl, i => by
    have ih := plc_false (fl := fl) (i := i + 1)
    show (if f = true then i :: plc (i + 1) (fl ++ [false]) else plc (i + 1) (fl ++ [false])) = (if f = true then i :: plc (i + 1) fl else plc (i + 1) fl)
    rw [ih]
theorem plc_zero : ∀ {n : Nat} {i : Int}, plc i (List.replicate n false) = []
  | 0, i => rfl
  | n + 1, i => plc_zero (n := n) (i := i + 1)
theorem plc_gap : ∀ {fl : List Bool} {i : Int}, plc i fl ≠ [] → i ≤ (plc i fl).headD 0 ∧ ((plc i fl).length : Int) - 1 ≤ (plc i fl).getLastD 0 - (plc i fl).headD 0
  | [], i, h => absurd rfl h
  | f :: fl, i, h => by
    have ih := plc_gap (fl := fl) (i := i + 1)
    have e : plc i (f :: fl) = if f = true then i :: plc (i + 1) fl else plc (i + 1) fl := rfl
    rw [e] at h ⊢
    cases f with
    | false =>
      rw [if_neg (by decide)] at h ⊢
      have := ih h
      exact ⟨by omega, this.2⟩
    | true =>
      rw [if_pos rfl]
      cases hq : plc (i + 1) fl with
      | nil => exact ⟨Int.le_refl _, by simp⟩
      | cons a l =>
        rw [hq] at ih
        have := ih (by simp)
        have e1 : (i :: a :: l).getLastD 0 = (a :: l).getLastD 0 := rfl
        rw [e1]
        simp only [List.headD_cons, List.length_cons] at this ⊢
        exact ⟨Int.le_refl _, by omega⟩
theorem getLastD_map {l : List Int} (h : l ≠ []) : (l.map (· + 1)).getLastD 0 = l.getLastD 0 + 1 := by
  cases l with
  | nil => exact absurd rfl h
  | cons a l =>
    induction l generalizing a with
    | nil => rfl
    | cons b l ih => exact ih (a := b) (by simp)
/-- what is fair stays so when the first beat goes and a heard one comes -/
theorem fair_next {b f : Int} {y : Bool} {t : List Bool} (f0 : 0 ≤ f) (h : wFair b f (y :: t) = true) : wFair b f (t ++ [false]) = true := by
  unfold wFair at h ⊢
  rw [plc_false]
  by_cases hp : plc 0 t = []
  · rw [hp]
    rw [if_pos (by simpa using f0)]
  have gp := plc_gap hp
  have gl := getLastD_map hp
  have hh : ((plc 0 t).map (· + 1)).headD 0 = (plc 0 t).headD 0 + 1 := by
    cases hq : plc 0 t with
    | nil => exact absurd hq hp
    | cons a l => rfl
  cases y with
  | false =>
    have e : plc 0 (false :: t) = (plc 0 t).map (· + 1) := by
      show plc (0 + 1) t = _
      rw [plc_shift]
    rw [e, List.length_map, gl, hh] at h
    rw [show (plc 0 t).getLastD 0 + 1 - ((plc 0 t).headD 0 + 1) = (plc 0 t).getLastD 0 - (plc 0 t).headD 0 by omega] at h
    exact h
  | true =>
    have e : plc 0 (true :: t) = 0 :: (plc 0 t).map (· + 1) := by
      show (0 : Int) :: plc (0 + 1) t = _
      rw [plc_shift]
    rw [e, List.length_cons, List.length_map] at h
    split at h
    · rw [if_pos (by omega)]
    · rw [Bool.and_eq_true, decide_eq_true_eq, decide_eq_true_eq] at h
      have el : (0 :: (plc 0 t).map (· + 1)).getLastD 0 = (plc 0 t).getLastD 0 + 1 := by
        rw [← gl]
        cases hq : plc 0 t with
        | nil => exact absurd hq hp
        | cons a l => rfl
      rw [el, List.headD_cons] at h
      by_cases hf : ((plc 0 t).length : Int) ≤ f
      · rw [if_pos hf]
      · rw [if_neg hf, Bool.and_eq_true, decide_eq_true_eq, decide_eq_true_eq]
        omega
/-- the numbers of a window rule -/
structure WinOk (W b f : Int) : Prop where
  W0 : 2 ≤ W
  W1 : W ≤ 7
  b0 : 0 ≤ b
  b1 : b ≤ W - 1
  f0 : min 1 b ≤ f
  f1 : f ≤ b
/-- the state after a beat -/
def brAfter (b g s : Int) (lost : Bool) : Option Int := if lost = true then (if s < b then some (s + 1) else none) else if s = 0 then some 0 else if max (s - b) 0 + 1 < g then some (b + (max (s - b) 0 + 1)) else some 0
/-! rules of either kind -/
inductive RU where
  | bst (b g : Int) | win (W b f : Int)
inductive SV where
  | i (s : Int) | w (st : List Bool)
def RU.t : RU → T
  | .bst b g => bstR b g
  | .win W b f => winR W b f
def SV.t : SV → T
  | .i s => .int s
  | .w st => .tup (st.map flagT)
def optV : Option SV → T
  | none => .non
  | some s => s.t
def RU.Ok : RU → Prop
  | .bst b g => 0 ≤ b ∧ b ≤ 8 ∧ 1 ≤ g ∧ g ≤ 8
  | .win W b f => WinOk W b f
def RU.first : RU → SV
  | .bst _ _ => .i 0
  | .win W _ _ => .w (List.replicate (W - 1).toNat false)
def RU.after : RU → SV → Bool → Option SV
  | .bst b g, .i s, x => (brAfter b g s x).map .i
  | .win _ b f, .w st, x => (wAfter b f st x).map .w
  | _, _, _ => none
/-- a state of this rule -/
def RU.fit : RU → SV → Prop
  | .bst _ _, .i s => 0 ≤ s
  | .win W b f, .w st => st.length = (W - 1).toNat ∧ wFair b f (st ++ [false]) = true
  | _, _ => False
theorem WinOk.few {W b f : Int} (ok : WinOk W b f) : 0 ≤ f := by have := ok.f0; have := ok.b0; omega
theorem RU.first_fit {r : RU} (ok : r.Ok) : r.fit r.first := by
  cases r with
  | bst b g => exact Int.le_refl 0
  | win W b f =>
    refine ⟨List.length_replicate, ?_⟩
    unfold wFair
    rw [plc_false, plc_zero, if_pos (by simpa using WinOk.few ok)]
theorem RU.after_fit {r : RU} {s s' : SV} {x : Bool} (ok : r.Ok) (h : r.fit s) (e : r.after s x = some s') : r.fit s' := by
  cases r with
  | bst b g =>
    cases s with
    | w st => exact h.elim
    | i s =>
      obtain ⟨b0, b1, g0, g1⟩ := ok
      have h : 0 ≤ s := h
      obtain ⟨z, e1, rfl⟩ := Option.map_eq_some_iff.mp e
      show 0 ≤ z
      unfold brAfter at e1
      split at e1
      · split at e1
        · cases e1; omega
        · cases e1
      · split at e1
        · cases e1; omega
        · split at e1
          · cases e1; omega
          · cases e1; omega
  | win W b f =>
    cases s with
    | i s => exact h.elim
    | w st =>
      obtain ⟨z, e1, rfl⟩ := Option.map_eq_some_iff.mp e
      unfold wAfter at e1
      split at e1
      · rename_i hw
        cases e1
        cases st with
        | nil => exact ⟨h.1, fair_next (y := x) (WinOk.few ok) hw⟩
        | cons a l =>
          refine ⟨?_, fair_next (y := a) (WinOk.few ok) hw⟩
          rw [← h.1]
          simp
      · cases e1
/-- a heard beat breaks no rule -/
theorem RU.heard {r : RU} {s : SV} (h : r.fit s) : ∃ s', r.after s false = some s' := by
  cases r with
  | bst b g =>
    cases s with
    | w st => exact h.elim
    | i s =>
      show ∃ s', (brAfter b g s false).map SV.i = some s'
      unfold brAfter
      rw [if_neg (by decide)]
      split
      · exact ⟨_, rfl⟩
      · split <;> exact ⟨_, rfl⟩
  | win W b f =>
    cases s with
    | i s => exact h.elim
    | w st =>
      show ∃ s', (wAfter b f st false).map SV.w = some s'
      unfold wAfter
      rw [if_pos h.2]
      exact ⟨_, rfl⟩
/-- the state behind a pattern -/
def RU.run (r : RU) : SV → List Bool → Option SV
  | s, [] => some s
  | s, x :: xs => (r.after s x).bind fun s' => r.run s' xs
theorem RU.run_app {r : RU} : ∀ {xs ys : List Bool} {s : SV}, r.run s (xs ++ ys) = (r.run s xs).bind fun s' => r.run s' ys
  | [], ys, s => rfl
  | x :: xs, ys, s => by
    show (r.after s x).bind (fun s' => r.run s' (xs ++ ys)) = ((r.after s x).bind fun s' => r.run s' xs).bind fun s' => r.run s' ys
    cases r.after s x with
    | none => rfl
    | some s' => exact RU.run_app
theorem RU.run_snoc {r : RU} {xs : List Bool} {x : Bool} {s : SV} : r.run s (xs ++ [x]) = (r.run s xs).bind fun s' => r.after s' x := by
  rw [RU.run_app]
  cases r.run s xs with
  | none => rfl
  | some s' =>
    show (r.after s' x).bind (fun s' => some s') = r.after s' x
    cases r.after s' x <;> rfl
theorem RU.run_fit {r : RU} (ok : r.Ok) : ∀ {xs : List Bool} {s s' : SV}, r.fit s → r.run s xs = some s' → r.fit s'
  | [], s, s', h, e => by
    cases e
    exact h
  | x :: xs, s, s', h, e => by
    have e : ((r.after s x).bind fun s' => r.run s' xs) = some s' := e
    cases q : r.after s x with
    | none => rw [q] at e; cases e
    | some s1 =>
      rw [q] at e
      exact RU.run_fit ok (RU.after_fit ok h q) e
theorem SV.t_inj {s s' : SV} (h : s.t = s'.t) : s = s' := by
  have fl : ∀ {xs ys : List Bool}, xs.map flagT = ys.map flagT → xs = ys := by
    intro xs
    induction xs with
    | nil => intro ys h; cases ys with
      | nil => rfl
      | cons _ _ => exact nomatch h
    | cons x xs ih =>
      intro ys h
      cases ys with
      | nil => exact nomatch h
      | cons y ys =>
        rw [List.map_cons, List.map_cons, List.cons.injEq] at h
        have hx : x = y := by
          have := h.1
          cases x <;> cases y <;> first | rfl | (exfalso; revert this; unfold flagT; simp)
        rw [hx, ih h.2]
  cases s <;> cases s' <;> simp only [SV.t, T.int.injEq, T.tup.injEq, reduceCtorEq] at h
  · rw [h]
  · rw [fl h]
theorem flags_eqT {n : Nat} : ∀ {fs : List Bool}, eqTs n (fs.map flagT) = true
  | [] => by simp [eqTs]
  | f :: fs => by
    simp only [List.map_cons, eqTs, Bool.and_eq_true]
    exact ⟨by cases n <;> cases f <;> simp [eqT, flagT], flags_eqT⟩
theorem SV.eqT {s : SV} : eqT 1 s.t = true := by
  cases s with
  | i s => simp [SV.t, Mt.eqT]
  | w st =>
    simp only [SV.t, Mt.eqT]
    exact flags_eqT
theorem SV.same {s s' : SV} : sameT s.t s'.t = true ↔ s = s' := (sameT_iff (eqT_ok SV.eqT)).trans ⟨SV.t_inj, fun h => by rw [h]⟩
theorem SV.nn {s : SV} : isNon s.t = false := by cases s <;> rfl
theorem SV.nt {s : SV} : ¬ isNon s.t = true := by cases s <;> (intro h; cases h)
def c_is_whole : Ct := fun ds k _ => ∃ v lo hi n, ds = [v, .int lo, .int hi] ∧ tyT v = some n ∧ k (.bl (wholeT v lo hi))
theorem wholeT_true {v : T} {lo hi : Int} (h : wholeT v lo hi = true) : ∃ i, v = .int i ∧ lo ≤ i ∧ i ≤ hi := by
  cases v with
  | int i =>
    simp only [wholeT, Bool.and_eq_true, decide_eq_true_eq] at h
    exact ⟨i, rfl, h.1, h.2⟩
  | _ => simp [wholeT] at h
def c_check_number : Ct := fun ds k XA => ∃ v lo hi n z, ds = [v, .int lo, .int hi, z] ∧ tyT v = some n ∧ (wholeT v lo hi = true → k v) ∧ (wholeT v lo hi = false → XA (.arg .bn z))
theorem num_ok {i lo hi : Int} {z : T} {k : T → Prop} {XA : Ex → Prop} (h1 : lo ≤ i) (h2 : i ≤ hi) (h : k (.int i)) : c_check_number [.int i, .int lo, .int hi, z] k XA :=
  ⟨.int i, lo, hi, "int", z, rfl, rfl, fun _ => h, tf (by simp only [wholeT, decide_eq_true h1, decide_eq_true h2, Bool.and_self])⟩
theorem num_bad {v z : T} {lo hi : Int} {n : String} {k : T → Prop} {XA : Ex → Prop} (h : tyT v = some n) (h1 : wholeT v lo hi = false) (hx : XA (.arg .bn z)) : c_check_number [v, .int lo, .int hi, z] k XA :=
  ⟨v, lo, hi, n, z, rfl, h, fun e => tf e h1, fun _ => hx⟩
theorem wholeT_int {i lo hi : Int} (h1 : lo ≤ i) (h2 : i ≤ hi) : wholeT (.int i) lo hi = true := by
  simp only [wholeT, decide_eq_true h1, decide_eq_true h2, Bool.and_self]
def c_check_element : Ct := fun ds k XA => ∃ v s n z, ds = [v, .int s, z] ∧ tyT v = some n ∧ (wholeT v 0 (s - 1) = true → k v) ∧ (wholeT v 0 (s - 1) = false → XA (.arg .be z))
/-- a list of the due length -/
def shapeB : T → Int → Bool → Bool
  | .lst es, m, e => !decide (m < (es.length : Int)) && !(e && !decide ((es.length : Int) = m))
  | _, _, _ => false
def c_check_list : Ct := fun ds k XA => ∃ v n m z e, ds = [v, .int m, z, .bl e] ∧ tyT v = some n ∧ (shapeB v m e = true → k .non) ∧ (shapeB v m e = false → XA (.arg .bs z))
def c_check_entries : Ct := fun ds k XA => ∃ es s z, ds = [.lst es, .int s, z] ∧ (∀ e ∈ es, ∃ n, tyT e = some n) ∧ (es.all (fun e => wholeT e 0 (s - 1)) = true → k (.lst es)) ∧ (es.all (fun e => wholeT e 0 (s - 1)) = false → XA (.arg .be z))
theorem all_false_of {α : Type} {p : α → Bool} {l : List α} {x : α} (h : x ∈ l) (e : p x = false) : l.all p = false := by
  cases q : l.all p with
  | false => rfl
  | true => rw [List.all_eq_true.mp q x h] at e; cases e
def c_check_pattern : Ct := fun ds k XA => ∃ v n m z e, ds = [v, .int m, z, .bl e] ∧ tyT v = some n ∧ itemsTy v ∧ (shapeB v m e = false → XA (.arg .bs z)) ∧ (shapeB v m e = true → ∀ es, v = .lst es → (es.all (fun e => wholeT e 0 1) = false → XA (.arg .be z)) ∧ (es.all (fun e => wholeT e 0 1) = true → k (.lst es)))
theorem shape_lst {v : T} {m : Int} {e : Bool} (h : shapeB v m e = true) : ∃ es, v = .lst es := by
  cases v with
  | lst es => exact ⟨es, rfl⟩
  | _ => cases h
/-- the text of flags -/
def textF (fs : List Bool) : Str := ⟨(fs.map fun b => if b = true then 120 else 46).toArray⟩
theorem textF_len (fs : List Bool) : (textF fs).length = fs.length := by
  show ((fs.map fun b => if b = true then 120 else 46).toArray).size = _
  rw [List.size_toArray, List.length_map]
theorem textF_signs (fs : List Bool) : signsT (textF fs) = fs.map fun b => T.str ⟨#[if b = true then 120 else 46]⟩ := by
  rw [signsT, textF]
  simp only [List.map_map]
  rfl
theorem textF_inj : ∀ {a b : List Bool}, textF a = textF b → a = b := fun {a b} h => by
  have h1 : (a.map fun b => if b = true then 120 else 46) = (b.map fun b => if b = true then 120 else 46) := by
    have := congrArg (fun z : Str => z.cps.toList) h
    simpa [textF] using this
  clear h
  induction a generalizing b with
  | nil =>
    cases b with
    | nil => rfl
    | cons _ _ => cases h1
  | cons x a ih =>
    cases b with
    | nil => cases h1
    | cons y b =>
      rw [List.map_cons, List.map_cons, List.cons.injEq] at h1
      have e : x = y := by
        cases x <;> cases y <;> simp at h1 <;> rfl
      rw [e, ih h1.2]
theorem ones_sum {ys : List Str} (h : ∀ y ∈ ys, y.length = 1) : (ys.map (·.length)).sum = ys.length := by
  induction ys with
  | nil => rfl
  | cons y ys ih =>
    rw [List.map_cons, List.sum_cons, ih fun z hz => h z (List.mem_cons_of_mem _ hz), h y List.mem_cons_self, List.length_cons]
    omega
theorem join_flags (fs : List Bool) : Txt.join (Str.ofString "") (fs.map fun b => if b = true then Str.ofString "x" else Str.ofString ".") = textF fs := by
  have e : (fs.map fun b => if b = true then Str.ofString "x" else Str.ofString ".") = (fs.map fun b => if b = true then 120 else 46).map fun c => (⟨#[c]⟩ : Str) := by
    rw [List.map_map]
    refine List.map_congr_left fun b _ => ?_
    cases b <;> rfl
  rw [e]
  have h := beq_iff_eq.mp (join_plain_closes (Str.ofString "") ((fs.map fun b => if b = true then 120 else 46).map fun c => (⟨#[c]⟩ : Str)))
  rw [h]
  exact join_signs _
def flagsO (fs : List Bool) : OT := .lst ((fs.map flagT).map OT.d)
/-- a sign put into a text -/
theorem putS {z : Str} {n : Nat} (hn : n ≤ z.length) : (cutS z none (some (n : Int))).cps.toList = z.cps.toList.take n ∧ (cutS z (some (n : Int)) none).cps.toList = z.cps.toList.drop n := by
  unfold cutS
  rw [HT.sIx_none, HT.sIx_nat, HT.sIx_none]
  have e : z.cps.toList.length = z.length := Array.length_toList
  constructor
  · simp only [List.drop_zero, Nat.sub_zero, Nat.min_eq_left hn]
  · rw [HT.sIx_nat, Nat.min_eq_left hn]
    simp only []
    rw [List.take_of_length_le (by rw [List.length_drop]; omega)]
/-- no text of flags, and not long -/
def OddT (z : Str) : Prop := z.length < 900000 ∧ ∀ fs : List Bool, fs.length ≤ 800 → z ≠ textF fs
theorem odd_sign {z : Str} {c : Nat} (h : z.length < 900000) (hm : c ∈ z.cps.toList) (h1 : c ≠ 46) (h2 : c ≠ 120) : OddT z := by
  refine ⟨h, fun fs _ e => ?_⟩
  subst e
  simp only [textF, List.mem_map] at hm
  obtain ⟨b, _, rfl⟩ := hm
  cases b
  · exact h1 rfl
  · exact h2 rfl
theorem cat_list (a b : Str) : (a ++ b).cps.toList = a.cps.toList ++ b.cps.toList := by
  show (a.cps ++ b.cps).toList = _
  rw [Array.toList_append]
theorem str_len (a : Str) : a.length = a.cps.toList.length := (Array.length_toList).symm
theorem ins_sign {z : Str} {n c : Nat} {k : T → Prop} (hn : n ≤ z.length) (hz : z.length < 800000) (h1 : c ≠ 46) (h2 : c ≠ 120) (hk : ∀ y, OddT y → k (.str y)) :
    oCatS (T.str (cutS z none (some (n : Int)))) (T.str ⟨#[c]⟩) fun d => ∃ i, T.int (n : Int) = T.int i ∧ ∃ z', T.str z = T.str z' ∧ z'.length < 1000000 ∧ oCatS d (T.str (cutS z' (some i) none)) k := by
  obtain ⟨p1, p2⟩ := putS hn
  have e : z.cps.toList.length = z.length := Array.length_toList
  have c1 : (cutS z none (some (n : Int))).length = n := by rw [str_len, p1, List.length_take]; omega
  have c2 : (cutS z (some (n : Int)) none).length = z.length - n := by rw [str_len, p2, List.length_drop]; omega
  have c3 : (⟨#[c]⟩ : Str).length = 1 := rfl
  refine ⟨_, _, rfl, rfl, by omega, n, rfl, z, rfl, by omega, _, _, rfl, rfl, by rw [cat_len]; omega, hk _ ?_⟩
  refine odd_sign (c := c) (by rw [cat_len, cat_len]; omega) ?_ h1 h2
  rw [cat_list, cat_list]
  exact List.mem_append_left _ (List.mem_append_right _ (List.mem_singleton.mpr rfl))
theorem ins_sign2 {z : Str} {n c : Nat} {k : T → Prop} (hn : n ≤ z.length) (hz : z.length < 800000) (h1 : c ≠ 46) (h2 : c ≠ 120) (hk : ∀ y, OddT y → k (.str y)) :
    oCatS (T.str (cutS z none (some (n : Int)))) (T.str ⟨#[c]⟩) fun d => ∃ z', T.str z = T.str z' ∧ z'.length < 1000000 ∧ oCatS d (T.str (cutS z' (some (n : Int)) none)) k := by
  obtain ⟨a, b, e1, e2, e3, i, e4, h⟩ := ins_sign (k := k) hn hz h1 h2 hk
  cases e4
  exact ⟨a, b, e1, e2, e3, h⟩
theorem flagsT_inj : ∀ {a b : List Bool}, a.map flagT = b.map flagT → a = b
  | [], [], _ => rfl
  | [], _ :: _, h => by cases h
  | _ :: _, [], h => by cases h
  | x :: a, y :: b, h => by
    rw [List.map_cons, List.map_cons, List.cons.injEq] at h
    have e : x = y := by
      have := h.1
      cases x <;> cases y <;> first | rfl | (simp [flagT] at this)
    rw [e, flagsT_inj h.2]
theorem flagsO_row (fs : List Bool) : flagsO fs = rowO (fs.map fun b => if b = true then 1 else 0) := by
  rw [flagsO, rowO, List.map_map (f := fun b : Bool => if b = true then (1 : Int) else 0)]
  rfl
theorem flags_items (fs : List Bool) : itemsTy (.lst (fs.map flagT)) := fun es e x hx => by
  cases e
  obtain ⟨b, _, rfl⟩ := List.mem_map.mp hx
  exact ⟨_, rfl⟩
theorem flags_ok (fs : List Bool) (n : Nat) : okT (n + 1) (T.lst (fs.map flagT)) = true := by
  rw [okT]
  refine okTs_of fun e he => ?_
  obtain ⟨b, _, rfl⟩ := List.mem_map.mp he
  cases n <;> rfl
theorem flagsO_t (fs : List Bool) : (flagsO fs).t = T.lst (fs.map flagT) := by rw [flagsO, t_lst, ots_mapd]
theorem flags_told (fs : List Bool) : okT 7 (T.tup [T.str (Str.ofString "told"), T.lst (fs.map flagT)]) = true := by
  rw [okT, okTs, okTs, flags_ok fs 5]
  rfl
/-- lost beats, heard beats, and so on -/
def roundB (l h : Int) (n : Nat) : List Bool := (List.range n).map fun i => decide (((i : Nat) : Int).fmod (l + h) < l)
def roundC (x y z : T) (k : Int → Int → Nat → Prop) (XA : Ex → Prop) : Prop := ((∃ n, tyT x = some n) ∧ (∃ n, tyT y = some n) ∧ ∃ n, tyT z = some n) ∧ (wholeT x 0 8 = false → XA (.arg .bn (.str "lost"))) ∧
  ∀ l : Int, x = .int l → 0 ≤ l → l ≤ 8 → (wholeT y (if l = 0 then 1 else 0) 8 = false → XA (.arg .bn (.str "heard"))) ∧ ∀ h : Int, y = .int h → 0 ≤ h → h ≤ 8 → (l = 0 → 1 ≤ h) → (wholeT z 0 800 = false → XA (.arg .bn (.str "beats"))) ∧ ∀ n : Nat, z = .int n → n ≤ 800 → k l h n
theorem roundC_mono {x y z : T} {k k' : Int → Int → Nat → Prop} {XA XA' : Ex → Prop} (hk : ∀ l h n, k l h n → k' l h n) (hx : ∀ e, XA e → XA' e) (h : roundC x y z k XA) : roundC x y z k' XA' := by
  obtain ⟨h1, h2, h3⟩ := h
  refine ⟨h1, fun w => hx _ (h2 w), fun l e a b => ?_⟩
  obtain ⟨h4, h5⟩ := h3 l e a b
  refine ⟨fun w => hx _ (h4 w), fun h e c d g => ?_⟩
  obtain ⟨h6, h7⟩ := h5 h e c d g
  exact ⟨fun w => hx _ (h6 w), fun n e m => hk _ _ _ (h7 n e m)⟩
theorem roundC_ok {l h : Int} {n : Nat} {k : Int → Int → Nat → Prop} {XA : Ex → Prop} (l0 : 0 ≤ l) (l1 : l ≤ 8) (h0 : 0 ≤ h) (h1 : h ≤ 8) (lh : l = 0 → 1 ≤ h) (hn : n ≤ 800) (hk : k l h n) : roundC (.int l) (.int h) (.int n) k XA := by
  refine ⟨⟨⟨_, rfl⟩, ⟨_, rfl⟩, ⟨_, rfl⟩⟩, fun w => ?_, fun l' e _ _ => ?_⟩
  · simp [wholeT] at w
    omega
  · cases e
    refine ⟨fun w => ?_, fun h' e _ _ _ => ?_⟩
    · by_cases z : l = 0
      · have := lh z
        rw [if_pos z] at w
        simp [wholeT] at w
        omega
      · rw [if_neg z] at w
        simp [wholeT] at w
        omega
    · cases e
      refine ⟨fun w => ?_, fun n' e _ => ?_⟩
      · simp [wholeT] at w
        omega
      · have : n' = n := by
          have := T.int.inj e
          omega
        rw [this]
        exact hk
theorem roundB_len (l h : Int) (n : Nat) : (roundB l h n).length = n := by rw [roundB, List.length_map, List.length_range]
def c_round_pattern : CtF := fun ds k XA => ∃ x y z, ds = [x, y, z] ∧ roundC x y z (fun l h n => k (flagsO (roundB l h n))) XA
/-- a list of flags, checked -/
def patC (v : T) (k : List Bool → Prop) (XA : Ex → Prop) : Prop := (∃ n, tyT v = some n) ∧ itemsTy v ∧ (shapeB v 800 false = false → XA (.arg .bs (.str "pattern"))) ∧ (shapeB v 800 false = true → ∀ es, v = .lst es → es.all (fun e => wholeT e 0 1) = false → XA (.arg .be (.str "pattern"))) ∧ ∀ fs : List Bool, v = .lst (fs.map flagT) → fs.length ≤ 800 → k fs
theorem patC_mono {v : T} {k k' : List Bool → Prop} {XA XA' : Ex → Prop} (hk : ∀ fs : List Bool, fs.length ≤ 800 → k fs → k' fs) (hx : ∀ e, XA e → XA' e) (h : patC v k XA) : patC v k' XA' := by
  obtain ⟨h1, h2, h3, h4, h5⟩ := h
  exact ⟨h1, h2, fun z => hx _ (h3 z), fun z es e w => hx _ (h4 z es e w), fun fs e l => hk fs l (h5 fs e l)⟩
def c_pattern_text : Ct := fun ds k XA => ∃ v, ds = [v] ∧ patC v (fun fs => k (.str (textF fs))) XA
/-- a text of flags, read -/
def readC (v : T) (k : List Bool → Prop) (XA : Ex → Prop) : Prop := (∃ n, tyT v = some n) ∧ (∀ z : Str, v = .str z → z.length < 900000) ∧ (∀ fs : List Bool, fs.length ≤ 800 → v = .str (textF fs) → k fs) ∧ ((∀ fs : List Bool, fs.length ≤ 800 → v ≠ .str (textF fs)) → XA (.arg .bt (.int 1)))
theorem text_of : ∀ {cs : List Nat}, (∀ c ∈ cs, c = 46 ∨ c = 120) → cs = (cs.map fun c => decide (c = 120)).map fun b => if b = true then 120 else 46
  | [], _ => rfl
  | c :: cs, h => by
    rw [List.map_cons, List.map_cons, ← text_of fun x hx => h x (List.mem_cons_of_mem _ hx)]
    congr 1
    rcases h c List.mem_cons_self with rfl | rfl <;> rfl
theorem readC_mono {v : T} {k k' : List Bool → Prop} {XA XA' : Ex → Prop} (hk : ∀ fs : List Bool, fs.length ≤ 800 → k fs → k' fs) (hx : ∀ e, XA e → XA' e) (h : readC v k XA) : readC v k' XA' := by
  obtain ⟨h1, h2, h3, h4⟩ := h
  exact ⟨h1, h2, fun fs l e => hk fs l (h3 fs l e), fun z => hx _ (h4 z)⟩
def c_read_pattern : CtF := fun ds k XA => ∃ v, ds = [v] ∧ readC v (fun fs => k (flagsO fs)) XA
-- missing: _law_mixed
-- missing: _law_store
-- missing: _law_take
def c_law_edge : Ct := fun ds k _ => ∃ lo hi : Int, ds = [.sto, .int lo, .int hi] ∧ lo ≤ hi ∧ (hi - lo).natAbs < 2 ^ 190 ∧ ∀ r : Int, lo ≤ r → r ≤ hi → k (.int r)
def c_law_small : Ct := fun ds k _ => ∃ lo us hi : Int, ds = [.sto, .int lo, .int us, .int hi] ∧ lo ≤ us ∧ us ≤ hi ∧ lo > -1000000 ∧ hi < 1000000 ∧ ∀ r : Int, lo ≤ r → r ≤ hi → k (.int r)
def isIntT : T → Bool
  | .int _ => true
  | _ => false
def c_law_is_int : Ct := fun ds k _ => ∃ v n, ds = [v] ∧ tyT v = some n ∧ k (.bl (isIntT v))
-- missing: _law_same
def c_law_copy (n : Nat) : CtF := fun ds k _ => ∃ v, ds = [v] ∧ okT n v = true ∧ k v.toO
-- missing: _law_lists
-- missing: _law_apart
def c_law_char : Ct := fun ds k _ => ds = [.sto] ∧ ∀ x : Str, x.length = 1 → k (.str x)
theorem join_lenT (ys : List Str) : (Txt.join (Str.ofString "") ys).length = (ys.map (·.length)).sum := by
  have h := beq_iff_eq.mp (join_plain_closes (Str.ofString "") ys)
  rw [h]
  exact join_len ys
def c_law_text : Ct := fun ds k _ => ∃ m : Int, ds = [.sto, .int m] ∧ 0 ≤ m ∧ m ≤ 1000 ∧ ∀ x : Str, x.length ≤ 1000 → k (.str x)
def c_law_strange : Ct := fun ds k _ => ∃ m : Int, ds = [.sto, .int m] ∧ 0 ≤ m ∧ m ≤ 1000 ∧ ∀ z, OddT z → k (.str z)
def c_law_not_number : Ct := fun ds k _ => ∃ lo hi : Int, ds = [.sto, .int lo, .int hi] ∧ lo ≤ hi ∧ -1000000 < lo ∧ hi < 1000000 ∧ ∀ v n, tyT v = some n → okT 2 v = true → wholeT v lo hi = false → k v
def c_law_not_list : Ct := fun ds k _ => ∃ (es : List T) (q : Bool), ds = [.sto, .lst es, .bl q] ∧ okTs 2 es = true ∧ ∀ v n, tyT v = some n → okT 3 v = true → (∀ xs, v ≠ .lst xs) → k v
/-- what check_entries or check_list is to refuse, of a list of at most so many elements -/
def BadRow (size most : Int) (v : T) (name : Str) : Prop := okT 4 v = true ∧ (∃ n, tyT v = some n) ∧ ((name = "BadShape" ∧ shapeB v most false = false) ∨ (name = "BadElement" ∧ shapeB v most false = true ∧ ∃ es, v = .lst es ∧ es.all (fun e => wholeT e 0 (size - 1)) = false))
def c_law_not_upto : Ct := fun ds k _ => ∃ (size : Int) (es : List T) (most : Nat), ds = [.sto, .int size, .lst es, .int most] ∧ 1 ≤ size ∧ size ≤ 1000 ∧ okTs 2 es = true ∧ es.length ≤ most ∧ most ≤ 2000 ∧ ∀ v name, BadRow size most v name → k (.tup [v, .str name])
theorem all_set {p : T → Bool} {bad : T} (hb : p bad = false) : ∀ {es : List T} {j : Nat}, j < es.length → (es.set j bad).all p = false
  | [], j, h => by simp at h
  | e :: es, 0, h => by rw [List.set_cons_zero, List.all_cons, hb, Bool.false_and]
  | e :: es, j + 1, h => by
    rw [List.set_cons_succ, List.all_cons, all_set hb (by simpa using h), Bool.and_false]
theorem okTs_set {n : Nat} {bad : T} (hb : okT n bad = true) : ∀ {es : List T} {j : Nat}, okTs n es = true → okTs n (es.set j bad) = true
  | [], j, h => by simpa using h
  | e :: es, 0, h => by
    simp only [okTs, Bool.and_eq_true] at h
    simp only [List.set_cons_zero, okTs, Bool.and_eq_true]
    exact ⟨hb, h.2⟩
  | e :: es, j + 1, h => by
    simp only [okTs, Bool.and_eq_true] at h
    simp only [List.set_cons_succ, okTs, Bool.and_eq_true]
    exact ⟨h.1, okTs_set hb h.2⟩
theorem okTs_appd {n : Nat} : ∀ {a b : List T}, okTs n a = true → okTs n b = true → okTs n (a ++ b) = true
  | [], b, h, g => g
  | a :: as, b, h, g => by
    simp only [okTs, Bool.and_eq_true] at h
    simp only [List.cons_append, okTs, Bool.and_eq_true]
    exact ⟨h.1, okTs_appd h.2 g⟩
theorem okTs_tk {n : Nat} {a : List T} (i : Nat) (h : okTs n a = true) : okTs n (a.take i) = true := okTs_of fun d hd => okTs_mem h (List.mem_of_mem_take hd)
theorem okTs_dr {n : Nat} {a : List T} (i : Nat) (h : okTs n a = true) : okTs n (a.drop i) = true := okTs_of fun d hd => okTs_mem h (List.mem_of_mem_drop hd)
theorem okTs_zero {n m : Nat} : okTs n (List.replicate m (T.int 0)) = true := okTs_of fun d hd => by
  rw [List.eq_of_mem_replicate hd]
  simp [okT]
theorem shape_big {es : List T} {m : Int} (h : m < es.length) : shapeB (.lst es) m false = false := by
  simp only [shapeB]
  rw [decide_eq_true h]
  rfl
theorem shape_le {es : List T} {m : Int} (h : (es.length : Int) ≤ m) : shapeB (.lst es) m false = true := by
  simp only [shapeB]
  rw [decide_eq_false (by omega)]
  rfl
-- missing: _law_kind
def c_law_flags : Ct := fun ds k _ => ∃ n : Nat, ds = [.sto, .int n] ∧ n ≤ 900 ∧ ∀ fs : List Bool, fs.length = n → k (.lst (fs.map flagT))
def c_law_pattern : Ct := fun ds k _ => ∃ us mo : Nat, ds = [.sto, .int us, .int mo] ∧ us ≤ mo ∧ mo ≤ 900 ∧ ∀ fs : List Bool, fs.length ≤ mo → k (.lst (fs.map flagT))
def c_law_dots : Ct := fun ds k _ => ∃ fs : List Bool, ds = [.lst (fs.map flagT)] ∧ fs.length ≤ 900 ∧ k (.str (textF fs))
def c_law_not_dots : Ct := fun ds k _ => ∃ fs : List Bool, ds = [.sto, .lst (fs.map flagT)] ∧ fs.length ≤ 800 ∧ ∀ v, okT 3 v = true → (∀ z, v = .str z → OddT z) → k v
def kindX (k : OT → Prop) : Ex → Prop
  | .arg .bn pl => k (.d (.tup [.str "BadNumber", pl]))
  | .arg .bs pl => k (.d (.tup [.str "BadShape", pl]))
  | .arg .be pl => k (.d (.tup [.str "BadElement", pl]))
  | .arg .bt pl => k (.d (.tup [.str "BadText", pl]))
  | _ => False
def c_law_asked_read : CtF := fun ds k _ => ∃ v, ds = [v] ∧ readC v (fun fs => k (.tup [.d (.str "told"), flagsO fs])) (kindX k)
def kindY (k : T → Prop) : Ex → Prop
  | .arg .bn pl => k (.tup [.str "BadNumber", pl])
  | .arg .bs pl => k (.tup [.str "BadShape", pl])
  | .arg .be pl => k (.tup [.str "BadElement", pl])
  | .arg .bt pl => k (.tup [.str "BadText", pl])
  | _ => False
def c_law_asked_text : Ct := fun ds k _ => ∃ v, ds = [v] ∧ okT 6 v = true ∧ patC v (fun fs => k (.tup [.str "told", .str (textF fs)])) (kindY k)
def c_law_asked_round : CtF := fun ds k _ => ∃ x y z, ds = [x, y, z] ∧ roundC x y z (fun l h n => k (.tup [.d (.str "told"), flagsO (roundB l h n)])) (kindX k)
def c_law_round_trip : Ct := fun ds k _ => ∃ fs : List Bool, ds = [.lst (fs.map flagT)] ∧ fs.length ≤ 800 ∧ k (.bl true)
def c_law_bad_texts : Ct := fun ds k _ => ∃ fs : List Bool, ds = [.sto, .lst (fs.map flagT)] ∧ fs.length ≤ 800 ∧ k (.bl true)
def c_law_repeats : Ct := fun ds k _ => ∃ (l h : Int) (n : Nat), ds = [.int l, .int h, .lst ((roundB l h n).map flagT)] ∧ 0 ≤ l ∧ l ≤ 8 ∧ 0 ≤ h ∧ h ≤ 8 ∧ (l = 0 → 1 ≤ h) ∧ n ≤ 800 ∧ k (.bl true)
def c_law_round_right : Ct := fun ds k _ => ∃ (l h : Int) (n : Nat), ds = [.int l, .int h, .int n] ∧ 0 ≤ l ∧ l ≤ 8 ∧ 0 ≤ h ∧ h ≤ 8 ∧ (l = 0 → 1 ≤ h) ∧ n ≤ 800 ∧ k (.bl true)
def c_law_bad_rounds : Ct := fun ds k _ => ∃ (l h : Int), ds = [.sto, .int l, .int h] ∧ 0 ≤ l ∧ l ≤ 8 ∧ 0 ≤ h ∧ h ≤ 8 ∧ (l = 0 → 1 ≤ h) ∧ k (.bl true)
end Mt
local macro_rules | `(tactic| simp! only [$ls,*]) => `(tactic| try simp only [_root_.Mt.mVar, _root_.Mt.mC, _root_.Mt.mOp, _root_.Mt.mUn, _root_.Mt.mNil, _root_.Mt.mCons, _root_.Mt.mTup, _root_.Mt.mLst, _root_.Mt.mCall, _root_.Mt.mCallX, _root_.Mt.mCallKX, _root_.Mt.mCB, _root_.Mt.mTest, _root_.Mt.mAnd, _root_.Mt.mOr, _root_.Mt.mNot, _root_.Mt.mYes, _root_.Mt.mAndV, _root_.Mt.mOrV, _root_.Mt.mNotV, _root_.Mt.mIf, _root_.Mt.mIsN, _root_.Mt.mNotN, _root_.Mt.mChain, _root_.Mt.mSeq, _root_.Mt.mNext, _root_.Mt.mBrk, _root_.Mt.mCnt, _root_.Mt.mRet, _root_.Mt.mRetN, _root_.Mt.mIfS, _root_.Mt.mDrop, _root_.Mt.mAsg, _root_.Mt.mOwn, _root_.Mt.mLstO, _root_.Mt.mListC, _root_.Mt.mLcO, _root_.Mt.oCatO, _root_.Mt.mShr, _root_.Mt.mApp, _root_.Mt.mPutI, _root_.Mt.mFrz, _root_.Mt.frz_w, _root_.Mt.mFor, _root_.Mt.mPar, _root_.Mt.mAug, _root_.Mt.mRaise, _root_.Mt.mTry, _root_.Mt.tryM, _root_.Mt.mKind, _root_.Mt.mLc, _root_.Mt.mList, _root_.Mt.mTupl, _root_.Mt.mListOwn, _root_.Mt.mRng1, _root_.Mt.mRng2, _root_.Mt.mEnum, _root_.Mt.mEnumT, _root_.Mt.mNever, _root_.Mt.mKindA, _root_.Mt.mgTupA_w, _root_.Mt.mgTupL_w, _root_.Mt.mZip, _root_.Mt.mRev, _root_.Mt.mgName, _root_.Mt.mLenV, _root_.Mt.mIxV, _root_.Mt.mNoPart, _root_.Mt.mPart, _root_.Mt.mSl, _root_.Mt.wipeE, _root_.Mt.lcTurn, _root_.Mt.startE, _root_.Mt.oI_w, _root_.Mt.oB_w, _root_.Mt.oIC_w, _root_.Mt.oU_w, _root_.Mt.isB_w, _root_.Mt.oEq_w, _root_.Mt.oNe_w, _root_.Mt.exS_w, _root_.Mt.oIx_w, _root_.Mt.items_l, _root_.Mt.items_t, _root_.Mt.oLen_w, _root_.Mt.oAbs_w, _root_.Mt.oInt_i, _root_.Mt.oInt_b, _root_.Mt.oGcd_w, _root_.Mt.oMax_w, _root_.Mt.oMax3_w, _root_.Mt.oMin_w, _root_.Mt.oDivmod_w, _root_.Mt.oStr_w, _root_.Mt.oType_w, _root_.Mt.oIs1_w, _root_.Mt.oIs2_w, _root_.Mt.oIsTy_w, _root_.Mt.oCat_w, _root_.Mt.oIsN_w, _root_.Mt.oNotN_w, _root_.Mt.exD_w, _root_.Mt.exO_w, _root_.Mt.exD2_w, _root_.Mt.exO2_w, _root_.Mt.exL_w, _root_.Mt.exT_w, _root_.Mt.exI_w, _root_.Mt.ex1_w, _root_.Mt.ex1i_w, _root_.Mt.mSeqV_w, _root_.Mt.exX_w, _root_.Mt.seqOf_o, _root_.Mt.seqOf_d, _root_.Mt.mgCons_w, _root_.Mt.mgNil_w, _root_.Mt.mgTup_w, _root_.Mt.exPar_w, _root_.Mt.listC_w, _root_.Mt.putI_w, _root_.Mt.ixV_w, _root_.Mt.rng1_w, _root_.Mt.rng2_w, _root_.Mt.lcGo_n, _root_.Mt.lcGo_c, _root_.Mt.forGo_n, _root_.Mt.forGo_c, _root_.Mt.scEq_i, _root_.Mt.scEq_b, _root_.Mt.scEq_s, _root_.Mt.scEq_n, _root_.Mt.tyT, _root_.Mt.isNon, _root_.Mt.k_ii, _root_.Mt.k_ib, _root_.Mt.k_is, _root_.Mt.k_il, _root_.Mt.k_it, _root_.Mt.k_bi, _root_.Mt.k_bb, _root_.Mt.k_bs, _root_.Mt.k_bl, _root_.Mt.k_bt, _root_.Mt.k_ni, _root_.Mt.k_nb, _root_.Mt.k_ns, _root_.Mt.k_nl, _root_.Mt.k_nt, _root_.Mt.k_si, _root_.Mt.k_sb, _root_.Mt.k_ss, _root_.Mt.k_sl, _root_.Mt.k_st, _root_.Mt.k_li, _root_.Mt.k_lb, _root_.Mt.k_ls, _root_.Mt.k_ll, _root_.Mt.k_lt, _root_.Mt.k_ti, _root_.Mt.k_tb, _root_.Mt.k_ts, _root_.Mt.k_tl, _root_.Mt.k_tt, _root_.List.map_cons, _root_.List.map_nil, _root_.List.length_cons, _root_.List.length_nil, _root_.List.replicate, _root_.List.cons_append, _root_.List.nil_append, _root_.List.append_nil, _root_.List.getElem?_cons_zero, _root_.List.getElem?_cons_succ, _root_.List.set_cons_zero, _root_.List.set_cons_succ, _root_.Nat.sub_self, _root_.Nat.reduceAdd, _root_.Nat.reduceSub, _root_.List.replicate_zero, _root_.decide_eq_true_eq, _root_.Bool.true_eq_false, _root_.Bool.false_eq_true, _root_.if_true, _root_.if_false, _root_.reduceIte, _root_.Bool.not_eq_true', _root_.decide_eq_false_iff_not, _root_.Bool.not_true, _root_.Bool.not_false, _root_.exists_eq_left', _root_.true_and, _root_.and_true, _root_.Option.some.injEq, _root_.reduceCtorEq, _root_.decide_true, _root_.decide_false, _root_.not_true_eq_false, _root_.not_false_eq_true, _root_.Nat.reduceLT, _root_.Bool.or_false, _root_.Bool.or_true, _root_.Bool.false_or, _root_.Bool.true_or, _root_.Bool.and_true, _root_.Bool.true_and, _root_.Bool.and_false, _root_.Bool.false_and, _root_.true_implies, _root_.Mt.mFld, _root_.Mt.mFldS, _root_.Mt.mFldO, _root_.Mt.mProp, _root_.Mt.mMeth, _root_.Mt.mMethX, _root_.Mt.mInW, _root_.Mt.mCallXD, _root_.Mt.exOb_w, _root_.Mt.exOb2_w, _root_.Mt.exObD_w, _root_.Mt.exObD2_w, _root_.Mt.exObj_w, _root_.Mt.exObj0_w, _root_.Mt.exObjC_w, _root_.Mt.oIsNTy_w, _root_.Mt.mLcnt, _root_.Mt.eqD_ii, _root_.Mt.mJoin, _root_.Mt.mStrip, _root_.Mt.mIsO, _root_.Mt.mEqO, _root_.Mt.oTupOf_w, _root_.Mt.oIsBl_w, _root_.Mt.cCalm, _root_.Mt.mOtD, _root_.Mt.mOtO, _root_.Mt.mOaN, _root_.Mt.mOaC, _root_.Mt.mOtL, _root_.Mt.mOtT, _root_.Mt.mOtIf, _root_.Mt.cData, _root_.Mt.mCallF, _root_.Mt.mCallFX, _root_.Mt.mTr, _root_.Mt.mRetT, _root_.Mt.mRetV, _root_.Mt.mLendT, _root_.Mt.mLendS, _root_.Mt.mForget, _root_.Mt.mPV, _root_.Mt.mPI, _root_.Mt.mPApp, _root_.Mt.mPSet, _root_.Mt.mOtLc, _root_.Mt.lcTurnT, _root_.Mt.mAltE, _root_.Mt.exTr_w, _root_.Mt.exTr2_w, _root_.Mt.treeV_w, _root_.Mt.treeV2_w, _root_.Mt.treeO_w, _root_.Mt.treeT_w, _root_.Mt.exLT_w, _root_.Mt.t_lst, _root_.Mt.t_tup, _root_.Mt.t_d, _root_.Mt.ts_nil, _root_.Mt.ts_cons, _root_.Mt.ots_mapd, _root_.Mt.scalT, _root_.Mt.mIns, _root_.Mt.mPopS, _root_.Mt.mAltI, _root_.Mt.oCatT_w, _root_.Mt.mSlT, _root_.Mt.oRepT_w, _root_.Mt.mLidx, _root_.Mt.mRaise0, _root_.Mt.mMethKX, _root_.Mt.mKindG, _root_.Mt.mRgO1, _root_.Mt.mRgO2, _root_.Mt.mIfX, _root_.Mt.mxOr, _root_.Mt.mxAnd, _root_.Mt.mxNot, _root_.Mt.mxOf, _root_.Mt.mxApart, _root_.Mt.mMove, _root_.Mt.mMethFX, _root_.Mt.mMethF, _root_.Mt.mMethFKX, _root_.Mt.mLendO, _root_.Mt.mMakeKX, _root_.Mt.mRaiseZ, _root_.Mt.mKindH, _root_.Mt.mCallFKX, _root_.Mt.mLendOt, _root_.Mt.mOtTup, _root_.Mt.mRetP, _root_.Mt.oMin3_w, _root_.Mt.mxRows, _root_.Mt.mAlias, _root_.Mt.mFlat, $ls,*])
local macro_rules | `(tactic| simp! only [$ls,*] at $h:ident) => `(tactic| try simp only [_root_.Mt.mVar, _root_.Mt.mC, _root_.Mt.mOp, _root_.Mt.mUn, _root_.Mt.mNil, _root_.Mt.mCons, _root_.Mt.mTup, _root_.Mt.mLst, _root_.Mt.mCall, _root_.Mt.mCallX, _root_.Mt.mCallKX, _root_.Mt.mCB, _root_.Mt.mTest, _root_.Mt.mAnd, _root_.Mt.mOr, _root_.Mt.mNot, _root_.Mt.mYes, _root_.Mt.mAndV, _root_.Mt.mOrV, _root_.Mt.mNotV, _root_.Mt.mIf, _root_.Mt.mIsN, _root_.Mt.mNotN, _root_.Mt.mChain, _root_.Mt.mSeq, _root_.Mt.mNext, _root_.Mt.mBrk, _root_.Mt.mCnt, _root_.Mt.mRet, _root_.Mt.mRetN, _root_.Mt.mIfS, _root_.Mt.mDrop, _root_.Mt.mAsg, _root_.Mt.mOwn, _root_.Mt.mLstO, _root_.Mt.mListC, _root_.Mt.mLcO, _root_.Mt.oCatO, _root_.Mt.mShr, _root_.Mt.mApp, _root_.Mt.mPutI, _root_.Mt.mFrz, _root_.Mt.frz_w, _root_.Mt.mFor, _root_.Mt.mPar, _root_.Mt.mAug, _root_.Mt.mRaise, _root_.Mt.mTry, _root_.Mt.tryM, _root_.Mt.mKind, _root_.Mt.mLc, _root_.Mt.mList, _root_.Mt.mTupl, _root_.Mt.mListOwn, _root_.Mt.mRng1, _root_.Mt.mRng2, _root_.Mt.mEnum, _root_.Mt.mEnumT, _root_.Mt.mNever, _root_.Mt.mKindA, _root_.Mt.mgTupA_w, _root_.Mt.mgTupL_w, _root_.Mt.mZip, _root_.Mt.mRev, _root_.Mt.mgName, _root_.Mt.mLenV, _root_.Mt.mIxV, _root_.Mt.mNoPart, _root_.Mt.mPart, _root_.Mt.mSl, _root_.Mt.wipeE, _root_.Mt.lcTurn, _root_.Mt.startE, _root_.Mt.oI_w, _root_.Mt.oB_w, _root_.Mt.oIC_w, _root_.Mt.oU_w, _root_.Mt.isB_w, _root_.Mt.oEq_w, _root_.Mt.oNe_w, _root_.Mt.exS_w, _root_.Mt.oIx_w, _root_.Mt.items_l, _root_.Mt.items_t, _root_.Mt.oLen_w, _root_.Mt.oAbs_w, _root_.Mt.oInt_i, _root_.Mt.oInt_b, _root_.Mt.oGcd_w, _root_.Mt.oMax_w, _root_.Mt.oMax3_w, _root_.Mt.oMin_w, _root_.Mt.oDivmod_w, _root_.Mt.oStr_w, _root_.Mt.oType_w, _root_.Mt.oIs1_w, _root_.Mt.oIs2_w, _root_.Mt.oIsTy_w, _root_.Mt.oCat_w, _root_.Mt.oIsN_w, _root_.Mt.oNotN_w, _root_.Mt.exD_w, _root_.Mt.exO_w, _root_.Mt.exD2_w, _root_.Mt.exO2_w, _root_.Mt.exL_w, _root_.Mt.exT_w, _root_.Mt.exI_w, _root_.Mt.ex1_w, _root_.Mt.ex1i_w, _root_.Mt.mSeqV_w, _root_.Mt.exX_w, _root_.Mt.seqOf_o, _root_.Mt.seqOf_d, _root_.Mt.mgCons_w, _root_.Mt.mgNil_w, _root_.Mt.mgTup_w, _root_.Mt.exPar_w, _root_.Mt.listC_w, _root_.Mt.putI_w, _root_.Mt.ixV_w, _root_.Mt.rng1_w, _root_.Mt.rng2_w, _root_.Mt.lcGo_n, _root_.Mt.lcGo_c, _root_.Mt.forGo_n, _root_.Mt.forGo_c, _root_.Mt.scEq_i, _root_.Mt.scEq_b, _root_.Mt.scEq_s, _root_.Mt.scEq_n, _root_.Mt.tyT, _root_.Mt.isNon, _root_.Mt.k_ii, _root_.Mt.k_ib, _root_.Mt.k_is, _root_.Mt.k_il, _root_.Mt.k_it, _root_.Mt.k_bi, _root_.Mt.k_bb, _root_.Mt.k_bs, _root_.Mt.k_bl, _root_.Mt.k_bt, _root_.Mt.k_ni, _root_.Mt.k_nb, _root_.Mt.k_ns, _root_.Mt.k_nl, _root_.Mt.k_nt, _root_.Mt.k_si, _root_.Mt.k_sb, _root_.Mt.k_ss, _root_.Mt.k_sl, _root_.Mt.k_st, _root_.Mt.k_li, _root_.Mt.k_lb, _root_.Mt.k_ls, _root_.Mt.k_ll, _root_.Mt.k_lt, _root_.Mt.k_ti, _root_.Mt.k_tb, _root_.Mt.k_ts, _root_.Mt.k_tl, _root_.Mt.k_tt, _root_.List.map_cons, _root_.List.map_nil, _root_.List.length_cons, _root_.List.length_nil, _root_.List.replicate, _root_.List.cons_append, _root_.List.nil_append, _root_.List.append_nil, _root_.List.getElem?_cons_zero, _root_.List.getElem?_cons_succ, _root_.List.set_cons_zero, _root_.List.set_cons_succ, _root_.Nat.sub_self, _root_.Nat.reduceAdd, _root_.Nat.reduceSub, _root_.List.replicate_zero, _root_.decide_eq_true_eq, _root_.Bool.true_eq_false, _root_.Bool.false_eq_true, _root_.if_true, _root_.if_false, _root_.reduceIte, _root_.Bool.not_eq_true', _root_.decide_eq_false_iff_not, _root_.Bool.not_true, _root_.Bool.not_false, _root_.exists_eq_left', _root_.true_and, _root_.and_true, _root_.Option.some.injEq, _root_.reduceCtorEq, _root_.decide_true, _root_.decide_false, _root_.not_true_eq_false, _root_.not_false_eq_true, _root_.Nat.reduceLT, _root_.Bool.or_false, _root_.Bool.or_true, _root_.Bool.false_or, _root_.Bool.true_or, _root_.Bool.and_true, _root_.Bool.true_and, _root_.Bool.and_false, _root_.Bool.false_and, _root_.true_implies, _root_.Mt.mFld, _root_.Mt.mFldS, _root_.Mt.mFldO, _root_.Mt.mProp, _root_.Mt.mMeth, _root_.Mt.mMethX, _root_.Mt.mInW, _root_.Mt.mCallXD, _root_.Mt.exOb_w, _root_.Mt.exOb2_w, _root_.Mt.exObD_w, _root_.Mt.exObD2_w, _root_.Mt.exObj_w, _root_.Mt.exObj0_w, _root_.Mt.exObjC_w, _root_.Mt.oIsNTy_w, _root_.Mt.mLcnt, _root_.Mt.eqD_ii, _root_.Mt.mJoin, _root_.Mt.mStrip, _root_.Mt.mIsO, _root_.Mt.mEqO, _root_.Mt.oTupOf_w, _root_.Mt.oIsBl_w, _root_.Mt.cCalm, _root_.Mt.mOtD, _root_.Mt.mOtO, _root_.Mt.mOaN, _root_.Mt.mOaC, _root_.Mt.mOtL, _root_.Mt.mOtT, _root_.Mt.mOtIf, _root_.Mt.cData, _root_.Mt.mCallF, _root_.Mt.mCallFX, _root_.Mt.mTr, _root_.Mt.mRetT, _root_.Mt.mRetV, _root_.Mt.mLendT, _root_.Mt.mLendS, _root_.Mt.mForget, _root_.Mt.mPV, _root_.Mt.mPI, _root_.Mt.mPApp, _root_.Mt.mPSet, _root_.Mt.mOtLc, _root_.Mt.lcTurnT, _root_.Mt.mAltE, _root_.Mt.exTr_w, _root_.Mt.exTr2_w, _root_.Mt.treeV_w, _root_.Mt.treeV2_w, _root_.Mt.treeO_w, _root_.Mt.treeT_w, _root_.Mt.exLT_w, _root_.Mt.t_lst, _root_.Mt.t_tup, _root_.Mt.t_d, _root_.Mt.ts_nil, _root_.Mt.ts_cons, _root_.Mt.ots_mapd, _root_.Mt.scalT, _root_.Mt.mIns, _root_.Mt.mPopS, _root_.Mt.mAltI, _root_.Mt.oCatT_w, _root_.Mt.mSlT, _root_.Mt.oRepT_w, _root_.Mt.mLidx, _root_.Mt.mRaise0, _root_.Mt.mMethKX, _root_.Mt.mKindG, _root_.Mt.mRgO1, _root_.Mt.mRgO2, _root_.Mt.mIfX, _root_.Mt.mxOr, _root_.Mt.mxAnd, _root_.Mt.mxNot, _root_.Mt.mxOf, _root_.Mt.mxApart, _root_.Mt.mMove, _root_.Mt.mMethFX, _root_.Mt.mMethF, _root_.Mt.mMethFKX, _root_.Mt.mLendO, _root_.Mt.mMakeKX, _root_.Mt.mRaiseZ, _root_.Mt.mKindH, _root_.Mt.mCallFKX, _root_.Mt.mLendOt, _root_.Mt.mOtTup, _root_.Mt.mRetP, _root_.Mt.oMin3_w, _root_.Mt.mxRows, _root_.Mt.mAlias, _root_.Mt.mFlat, $ls,*] at $h:ident)
namespace Mt
open PySem PySem.Spec PyProof.Rows L2 L2H
section
variable {P : Program} {w : World} {K : PySem.W.Frag} {mg : Str → Option Value} {base : Heap} {f : Addr} {fd : FuncData} {A : Ad} {tk : Nat → Tok}
theorem ok_is_whole (F : Fun K "is_whole" "is_whole" s_is_whole f fd) (Tx : Txt K mg A tk)  :
    FnOk P w K mg base CX0 1 f fd ["value", "low", "high"] (SpU A 3 c_is_whole) := by
  refine F.ok sc_is_whole (fun vs H Q E h => h.len) (fun cdv Ar outer s H vs Q E hr h => ?_)
  obtain ⟨st, P0, ds, k, XA, h1, h2, h3, hc, h5, h6⟩ := h
  refine ⟨_, (pss_one (ps_ret (pe_and (pe_cmpR op_isTyH (pe_typeOf (by rfl) Tx.m_type (pv 0)) (pe_bltn (v := .ty "int") (u := .type "int") (by rfl) Tx.m_int (by decide +kernel) rel_ty) (nomark _)) (pe_one (pe_chain op_le op_le (pv 1) (pv 0) (pv 2)))))), ?_⟩
  refine run0 (A := A) (ms := ?ms) (XA := XA) h1 h2 h5 ?r ?u
  case r => exact (rs_ret (re_andV (re_op ro_isTy (re_cb rcb_type (ra_cons re_var ra_nil)) re_ty) (re_chain ro_bool ro_bool re_var re_var re_var)))
  case u =>
    clear h1 h2 h5 h6 hr
    obtain ⟨v, lo, hi, n, rfl, hv, hk⟩ := hc
    (simp! only [hv])
    cases v with
    | int i =>
      cases hv
      (try (simp! only []))
      simp only [wholeT] at hk
      refine ite2 (fun h => ?_) (fun h => ?_)
      · rw [decide_eq_true h, Bool.true_and] at hk
        exact hk
      · rw [decide_eq_false h, Bool.false_and] at hk
        exact hk
    | ty _ => cases hv
    | obj _ _ _ => cases hv
    | sto => cases hv
    | kc _ => cases hv
    | fi _ => cases hv
    | _ =>
      cases hv
      (try (simp! only []))
      exact hk
end
end Mt
namespace Mt
open PySem PySem.Spec PyProof.Rows L2 L2H
section
variable {P : Program} {w : World} {K : PySem.W.Frag} {mg : Str → Option Value} {base : Heap} {f : Addr} {fd : FuncData} {A : Ad} {tk : Nat → Tok}
theorem ok_check_number (F : Fun K "check_number" "check_number" s_check_number f fd) (Tx : Txt K mg A tk) (C_is_whole : Cal P w K mg base "is_whole" 1 ["value", "low", "high"] (SpU A 3 c_is_whole)) (E_BadNumber : ErrK P w K mg base "BadNumber" A.bn) :
    FnOk P w K mg base (CN P w) 3 f fd ["value", "low", "high", "argument"] (SpU A 4 c_check_number) := by
  refine okN F sc_check_number (fun vs H Q E h => h.len) (fun cdv Ar outer s H vs Q E hr h => ?_)
  obtain ⟨st, P0, ds, k, XA, h1, h2, h3, hc, h5, h6⟩ := h
  refine ⟨_, (pss_cons (ps_if (pt_not (pt_val (p_call C_is_whole hr (pa_cons (pv 0) (pa_cons (pv 1) (pa_cons (pv 2) pa_nil))) (by omega)))) (pss_one (L2N.ps_raise rfl (L2N.takes_of rfl rfl rfl rfl) (p_err E_BadNumber hr (pa_cons (pv 3) pa_nil)))) pss_nil)
      (pss_one (ps_ret (pv 0)))), ?_⟩
  refine runX (ms := ?ms) h1 h2 h5 h6 (fun _ _ _ _ h => h) ?r ?u
  case r => exact (rs_seq (rs_if (rt_not (rt_B (re_call (ra_cons re_var (ra_cons re_var (ra_cons re_var ra_nil)))))) (rs_raise (c := .bn) rfl rfl re_var) rs_next)
      (rs_ret re_var))
  case u =>
    clear h1 h2 h5 h6 hr
    obtain ⟨v, lo, hi, n, z, rfl, hv, hk, hx⟩ := hc
    (simp! only [])
    refine ⟨v, lo, hi, n, rfl, hv, ?_⟩
    (simp! only [])
    cases hb : wholeT v lo hi with
    | true => exact hk hb
    | false => exact hx hb
end
end Mt
namespace Mt
open PySem PySem.Spec PyProof.Rows L2 L2H
section
variable {P : Program} {w : World} {K : PySem.W.Frag} {mg : Str → Option Value} {base : Heap} {f : Addr} {fd : FuncData} {A : Ad} {tk : Nat → Tok}
theorem ok_check_element (F : Fun K "check_element" "check_element" s_check_element f fd) (Tx : Txt K mg A tk) (C_is_whole : Cal P w K mg base "is_whole" 1 ["value", "low", "high"] (SpU A 3 c_is_whole)) (E_BadElement : ErrK P w K mg base "BadElement" A.be) :
    FnOk P w K mg base (CN P w) 3 f fd ["value", "size", "argument"] (SpU A 3 c_check_element) := by
  refine okN F sc_check_element (fun vs H Q E h => h.len) (fun cdv Ar outer s H vs Q E hr h => ?_)
  obtain ⟨st, P0, ds, k, XA, h1, h2, h3, hc, h5, h6⟩ := h
  refine ⟨_, (pss_cons (ps_if (pt_not (pt_val (p_call C_is_whole hr (pa_cons (pv 0) (pa_cons pe_int (pa_cons (pe_op op_sub (pv 1) pe_int) pa_nil))) (by omega)))) (pss_one (L2N.ps_raise rfl (L2N.takes_of rfl rfl rfl rfl) (p_err E_BadElement hr (pa_cons (pv 2) pa_nil)))) pss_nil)
      (pss_one (ps_ret (pv 0)))), ?_⟩
  refine runX (ms := ?ms) h1 h2 h5 h6 (fun _ _ _ _ h => h) ?r ?u
  case r => exact (rs_seq (rs_if (rt_not (rt_B (re_call (ra_cons re_var (ra_cons re_int (ra_cons (re_op ro_int re_var re_int) ra_nil)))))) (rs_raise (c := .be) rfl rfl re_var) rs_next)
      (rs_ret re_var))
  case u =>
    clear h1 h2 h5 h6 hr
    obtain ⟨v, s, n, z, rfl, hv, hk, hx⟩ := hc
    (simp! only [])
    refine ⟨v, 0, s - 1, n, rfl, hv, ?_⟩
    (simp! only [])
    cases hb : wholeT v 0 (s - 1) with
    | true => exact hk hb
    | false => exact hx hb
end
end Mt
namespace Mt
open PySem PySem.Spec PyProof.Rows L2 L2H
section
variable {P : Program} {w : World} {K : PySem.W.Frag} {mg : Str → Option Value} {base : Heap} {f : Addr} {fd : FuncData} {A : Ad} {tk : Nat → Tok}
theorem ok_check_list (F : Fun K "check_list" "check_list" s_check_list f fd) (Tx : Txt K mg A tk)  (E_BadShape : ErrK P w K mg base "BadShape" A.bs) :
    FnOk P w K mg base (CN P w) 3 f fd ["value", "most", "argument", "exact"] (SpU A 4 c_check_list) := by
  refine okN F sc_check_list (fun vs H Q E h => h.len) (fun cdv Ar outer s H vs Q E hr h => ?_)
  obtain ⟨st, P0, ds, k, XA, h1, h2, h3, hc, h5, h6⟩ := h
  refine ⟨_, (pss_cons (ps_if (PW.pt (pw_or (pt_cmpR op_isNTyH (pe_typeOf (by rfl) Tx.m_type (pv 0)) (pe_bltn (v := .ty "list") (u := .type "list") (by rfl) Tx.m_list (by decide +kernel) rel_ty) (nomark _)) (pw_or1 (pt_cmpR op_gt (pe_callB call_lenH (by rfl) Tx.m_len (by decide +kernel) (pa_cons (pv 0) pa_nil)) (pv 1) (nomark _))))) (pss_one (L2N.ps_raise rfl (L2N.takes_of rfl rfl rfl rfl) (p_err E_BadShape hr (pa_cons (pv 2) pa_nil)))) pss_nil)
      (pss_one (ps_if (PW.pt (pw_and (pt_val (pv 3)) (pw_and1 (pt_cmpR op_ne (pe_callB call_lenH (by rfl) Tx.m_len (by decide +kernel) (pa_cons (pv 0) pa_nil)) (pv 1) (nomark _))))) (pss_one (L2N.ps_raise rfl (L2N.takes_of rfl rfl rfl rfl) (p_err E_BadShape hr (pa_cons (pv 2) pa_nil)))) pss_nil))), ?_⟩
  refine runX (ms := ?ms) h1 h2 h5 h6 (fun _ _ _ _ h => h) ?r ?u
  case r => exact (rs_seq (rs_if (rt_or (rt_test (re_op ro_isNTy (re_cb rcb_type (ra_cons re_var ra_nil)) re_ty)) (rt_test (re_op ro_bool (re_cb rcb_len (ra_cons re_var ra_nil)) re_var))) (rs_raise (c := .bs) rfl rfl re_var) rs_next)
      (rs_if (rt_and (rt_B re_var) (rt_test (re_op ro_ne (re_cb rcb_len (ra_cons re_var ra_nil)) re_var))) (rs_raise (c := .bs) rfl rfl re_var) rs_next))
  case u =>
    clear h1 h2 h5 h6 hr
    obtain ⟨v, n, m, z, e, rfl, hv, hk, hx⟩ := hc
    (simp! only [hv])
    cases v with
    | lst es =>
      cases hv
      simp only [shapeB] at hk hx
      (simp! only [])
      intro _
      by_cases w0 : m < (es.length : Int)
      · rw [if_pos w0]
        rw [decide_eq_true w0] at hx
        exact hx rfl
      · rw [if_neg w0]
        rw [decide_eq_false w0] at hk hx
        cases e with
        | true =>
          rw [if_pos rfl]
          intro _
          by_cases x : (es.length : Int) = m
          · rw [if_neg (fun h => h x)]
            rw [decide_eq_true x] at hk
            exact hk rfl
          · rw [if_pos x]
            rw [decide_eq_false x] at hx
            exact hx rfl
        | false => exact hk rfl
    | ty _ => cases hv
    | obj _ _ _ => cases hv
    | sto => cases hv
    | kc _ => cases hv
    | fi _ => cases hv
    | _ =>
      cases hv
      (try (simp! only []))
      exact hx rfl
end
end Mt
namespace Mt
open PySem PySem.Spec PyProof.Rows L2 L2H
section
variable {P : Program} {w : World} {K : PySem.W.Frag} {mg : Str → Option Value} {base : Heap} {f : Addr} {fd : FuncData} {A : Ad} {tk : Nat → Tok}
theorem ok_check_entries (F : Fun K "check_entries" "check_entries" s_check_entries f fd) (Tx : Txt K mg A tk) (C_check_element : CalX P w K mg base "check_element" 3 ["value", "size", "argument"] (SpU A 3 c_check_element)) :
    FnOk P w K mg base (CN P w) 4 f fd ["row", "size", "argument"] (SpU A 3 c_check_entries) := by
  refine okN F sc_check_entries (fun vs H Q E h => h.len) (fun cdv Ar outer s H vs Q E hr h => ?_)
  obtain ⟨st, P0, ds, k, XA, h1, h2, h3, hc, h5, h6⟩ := h
  refine ⟨_, (pss_one (ps_ret (pe_lcX (own := [("entry", 3)]) (g := gName 3) rfl rfl (L2N.takes_of rfl rfl rfl rfl) rfl sc_check_entries.nd (pi_list (pv 0)) (blkOk_by (N := ["row", "size", "argument", "entry"]) (sc := defScope s_check_entries) (by decide +kernel)) (fun _ _ _ _ _ _ => pg_name (i := 3) sc_check_entries.nd rfl (.inl rfl)) (fun _ _ _ _ _ _ => pts_nil) (fun _ _ _ _ _ _ V tkb => (p_callB C_check_element hr tkb (pa_cons (pv 3) (pa_cons (pv 1) (pa_cons (pv 2) pa_nil))) (by omega)))))), ?_⟩
  refine runX (ms := ?ms) h1 h2 h5 h6 (fun _ _ _ _ h => h) ?r ?u
  case r => exact (rs_ret (re_lcX (vs := [3]) (is := [3]) ric_var rg_name (fun _ => rt_yes) (fun _ => (re_callX (ra_cons re_var (ra_cons re_var (ra_cons re_var ra_nil)))))))
  case u =>
    clear h1 h2 h5 h6 hr
    obtain ⟨es, s, z, rfl, ht, hk, hx⟩ := hc
    (simp! only [])
    refine ⟨es, Or.inr rfl, lc_idA (p := fun e => wholeT e 0 (s - 1)) (fun x r hm hr => ?_) hk⟩
    obtain ⟨n, hn⟩ := ht x hm
    (simp! only [])
    exact ⟨x, s, n, z, rfl, hn, hr, fun e => hx (all_false_of hm e)⟩
end
end Mt
namespace Mt
open PySem PySem.Spec PyProof.Rows L2 L2H
section
variable {P : Program} {w : World} {K : PySem.W.Frag} {mg : Str → Option Value} {base : Heap} {f : Addr} {fd : FuncData} {A : Ad} {tk : Nat → Tok}
theorem ok_check_pattern (F : Fun K "check_pattern" "check_pattern" s_check_pattern f fd) (Tx : Txt K mg A tk) (C_check_entries : CalX P w K mg base "check_entries" 4 ["row", "size", "argument"] (SpU A 3 c_check_entries)) (CK_check_list_3_exact : CalKX P w K mg base "check_list" 3 ["value", "most", "argument", "exact"] 3 ["exact"] [0] (SpU A 4 c_check_list)) :
    FnOk P w K mg base (CN P w) 5 f fd ["pattern", "most", "argument", "exact"] (SpU A 4 c_check_pattern) := by
  refine okN F sc_check_pattern (fun vs H Q E h => h.len) (fun cdv Ar outer s H vs Q E hr h => ?_)
  obtain ⟨st, P0, ds, k, XA, h1, h2, h3, hc, h5, h6⟩ := h
  refine ⟨_, (pss_cons (ps_expr (p_callKX CK_check_list_3_exact hr (L2N.takes_of rfl rfl rfl rfl) (pa_cons (pv 0) (pa_cons (pv 1) (pa_cons (pv 2) pa_nil))) (pk_cons (pv 3) pk_nil) (by omega)))
      (pss_one (ps_ret (p_callX C_check_entries hr (L2N.takes_of rfl rfl rfl rfl) (pa_cons (pv 0) (pa_cons pe_int (pa_cons (pv 2) pa_nil))) (by omega))))), ?_⟩
  refine runX (ms := ?ms) h1 h2 h5 h6 (fun _ _ _ _ h => h) ?r ?u
  case r => exact (rs_seq (rs_drop (re_callKX (ra_cons re_var (ra_cons re_var (ra_cons re_var ra_nil))) (ra_cons re_var ra_nil)))
      (rs_ret (re_callX (ra_cons re_var (ra_cons re_int (ra_cons re_var ra_nil))))))
  case u =>
    clear h1 h2 h5 h6 hr
    obtain ⟨v, n, m, z, e, rfl, hv, ht, h1, h2⟩ := hc
    (simp! only [])
    refine ⟨rfl, v, n, m, z, e, rfl, hv, fun hs => ?_, h1⟩
    obtain ⟨es, rfl⟩ := shape_lst hs
    exact ⟨es, 2, z, rfl, ht es rfl, (h2 hs es rfl).2, (h2 hs es rfl).1⟩
end
end Mt
namespace Mt
open PySem PySem.Spec PyProof.Rows L2 L2H
section
variable {P : Program} {w : World} {K : PySem.W.Frag} {mg : Str → Option Value} {base : Heap} {f : Addr} {fd : FuncData} {A : Ad} {tk : Nat → Tok}
theorem ok_round_pattern (F : Fun K "round_pattern" "round_pattern" s_round_pattern f fd) (Tx : Txt K mg A tk) (C_check_number : CalX P w K mg base "check_number" 3 ["value", "low", "high", "argument"] (SpU A 4 c_check_number)) :
    FnOk P w K mg base (CN P w) 4 f fd ["lost", "heard", "beats"] (SpF A 3 c_round_pattern) := by
  refine okN F sc_round_pattern (fun vs H Q E h => h.len) (fun cdv Ar outer s H vs Q E hr h => ?_)
  obtain ⟨st, P0, ds, k, XA, h1, h2, h3, hc, h5, h6⟩ := h
  refine ⟨_, (pss_cons (ps_expr (p_callX C_check_number hr (L2N.takes_of rfl rfl rfl rfl) (pa_cons (pv 0) (pa_cons pe_int (pa_cons (pe_glob (v := .int 8) rfl Tx.g_MOST_ROUND ⟨_, rfl⟩) (pa_cons pe_str pa_nil)))) (by omega)))
      (pss_cons (ps_expr (p_callX C_check_number hr (L2N.takes_of rfl rfl rfl rfl) (pa_cons (pv 1) (pa_cons (pe_ifExp (pt_cmpR op_eq (pv 0) pe_int (nomark _)) pe_int pe_int) (pa_cons (pe_glob (v := .int 8) rfl Tx.g_MOST_ROUND ⟨_, rfl⟩) (pa_cons pe_str pa_nil)))) (by omega)))
      (pss_cons (ps_expr (p_callX C_check_number hr (L2N.takes_of rfl rfl rfl rfl) (pa_cons (pv 2) (pa_cons pe_int (pa_cons (pe_glob (v := .int 800) rfl Tx.g_MOST_BEATS ⟨_, rfl⟩) (pa_cons pe_str pa_nil)))) (by omega)))
      (pss_one (ps_ret (pe_lc (own := [("beat", 3)]) (g := gName 3) rfl sc_round_pattern.nd (pi_range1 (by rfl) Tx.m_range (pa_cons (pv 2) pa_nil)) (blkOk_by (N := ["lost", "heard", "beats", "beat"]) (sc := defScope s_round_pattern) (by decide +kernel)) (fun _ _ _ _ _ => pg_name (i := 3) sc_round_pattern.nd rfl (.inl rfl)) (fun _ _ _ _ _ => pts_nil) (fun _ _ _ _ _ => (pe_ifExp (pt_cmpR op_lt (pe_op op_modN (pv 3) (pe_op op_add (pv 0) (pv 1))) (pv 0) (nomark _)) pe_int pe_int)))))))), ?_⟩
  refine runFX (ms := ?ms) h1 h2 h5 h6 (fun _ _ _ _ h => h) ?r ?u
  case r => exact (rs_seq (rs_drop (re_callX (ra_cons re_var (ra_cons re_int (ra_cons re_int (ra_cons re_str ra_nil))))))
      (rs_seq (rs_drop (re_callX (ra_cons re_var (ra_cons (re_if (rt_test (re_op ro_eq re_var re_int)) re_int re_int) (ra_cons re_int (ra_cons re_str ra_nil))))))
      (rs_seq (rs_drop (re_callX (ra_cons re_var (ra_cons re_int (ra_cons re_int (ra_cons re_str ra_nil))))))
      (rs_retT (rot_own (row_lc (vs := [3]) (is := [3]) (ric_of (ri_rng1 (ra_cons re_var ra_nil))) rg_name rt_yes (re_if (rt_test (re_op ro_bool (re_op ro_intC re_var (re_op ro_int re_var re_var)) re_var)) re_int re_int)))))))
  case u =>
    clear h1 h2 h5 h6 hr
    obtain ⟨x, y, z, rfl, ⟨⟨nx, tx⟩, ⟨ny, ty⟩, ⟨nz, tz⟩⟩, h1, h2⟩ := hc
    (simp! only [])
    refine ⟨x, 0, 8, nx, _, rfl, tx, fun hw => ?_, h1⟩
    obtain ⟨l, rfl, l0, l1⟩ := whole_true hw
    obtain ⟨h3, h4⟩ := h2 l rfl l0 l1
    (simp! only [])
    refine ite2 (fun e0 => ?_) (fun e0 => ?_)
    all_goals
      refine ⟨y, _, 8, ny, _, rfl, ty, fun hy => ?_, fun hy => h3 (by first | (rw [if_pos e0]; exact hy) | (rw [if_neg e0]; exact hy))⟩
      obtain ⟨h, rfl, g0, g1⟩ := whole_true hy
      obtain ⟨h5, h6⟩ := h4 h rfl (by omega) g1 (by omega)
      refine ⟨z, 0, 800, nz, _, rfl, tz, fun hz => ?_, h5⟩
      obtain ⟨n', rfl, n0, n1⟩ := whole_true hz
      obtain ⟨n, rfl⟩ := Int.eq_ofNat_of_zero_le n0
      have hk := h6 n rfl (by omega)
      refine ⟨n, rfl, by omega, by omega, ?_⟩
      rw [Int.toNat_natCast]
      refine lc_rng (fun i => flagT (decide (((i : Nat) : Int).fmod (l + h) < l))) (fun i r hi hr => ?_) ?_
      · (simp! only [])
        refine ⟨by omega, ite2 (fun g => ?_) (fun g => ?_)⟩
        · rw [decide_eq_true g] at hr
          exact hr
        · rw [decide_eq_false g] at hr
          exact hr
      · have e2 : ((List.range n).map fun i : Nat => flagT (decide (((i : Nat) : Int).fmod (l + h) < l))) = (roundB l h n).map flagT := by rw [roundB, List.map_map]; rfl
        rw [e2]
        exact hk
end
end Mt
namespace Mt
open PySem PySem.Spec PyProof.Rows L2 L2H
section
variable {P : Program} {w : World} {K : PySem.W.Frag} {mg : Str → Option Value} {base : Heap} {f : Addr} {fd : FuncData} {A : Ad} {tk : Nat → Tok}
theorem ok_pattern_text (F : Fun K "pattern_text" "pattern_text" s_pattern_text f fd) (Tx : Txt K mg A tk) (CD_check_pattern : CalXD P w K mg base "check_pattern" 5 ["pattern", "most", "argument", "exact"] (SpU A 4 c_check_pattern) [.bl false]) :
    FnOk P w K mg base (CN P w) 6 f fd ["pattern"] (SpU A 1 c_pattern_text) := by
  refine okN F sc_pattern_text (fun vs H Q E h => h.len) (fun cdv Ar outer s H vs Q E hr h => ?_)
  obtain ⟨st, P0, ds, k, XA, h1, h2, h3, hc, h5, h6⟩ := h
  refine ⟨_, (pss_one (ps_ret (pe_join pe_str (pe_lc (own := [("flag", 1)]) (g := gName 1) rfl sc_pattern_text.nd (pi_list (p_callXD CD_check_pattern hr (L2N.takes_of rfl rfl rfl rfl) (pa_cons (pv 0) (pa_cons (pe_glob (v := .int 800) rfl Tx.g_MOST_BEATS ⟨_, rfl⟩) (pa_cons pe_str pa_nil))) (by omega))) (blkOk_by (N := ["pattern", "flag"]) (sc := defScope s_pattern_text) (by decide +kernel)) (fun _ _ _ _ _ => pg_name (i := 1) sc_pattern_text.nd rfl (.inl rfl)) (fun _ _ _ _ _ => pts_nil) (fun _ _ _ _ _ => (pe_ifExp (pt_cmpR op_eq (pv 1) pe_int (nomark _)) pe_str pe_str)))))), ?_⟩
  refine runX (ms := ?ms) h1 h2 h5 h6 (fun _ _ _ _ h => h) ?r ?u
  case r => exact (rs_ret (re_join re_str (re_lc (vs := [1]) (is := [1]) (ric_of (ri_list (re_callXD rd_false (ra_cons re_var (ra_cons re_int (ra_cons re_str ra_nil)))))) rg_name rt_yes (re_if (rt_test (re_op ro_eq re_var re_int)) re_str re_str))))
  case u =>
    clear h1 h2 h5 h6 hr
    obtain ⟨v, rfl, ⟨nv, tv⟩, it, h1, h2, h3⟩ := hc
    (simp! only [])
    refine ⟨_, rfl, v, nv, 800, _, false, rfl, tv, it, h1, fun hs es e => ⟨h2 hs es e, fun ha => ?_⟩⟩
    subst e
    obtain ⟨fs, rfl⟩ := flags_of ha
    have hl : fs.length ≤ 800 := by
      simp [shapeB] at hs
      omega
    (simp! only [])
    refine lc_of (G := fun b : Bool => T.str (if b = true then Str.ofString "x" else Str.ofString ".")) (fun b hb r hr => ?_) ?_
    · cases b
      · (simp! only [flagT])
        exact hr
      · (simp! only [flagT])
        exact hr
    refine ⟨fs.map fun b => if b = true then Str.ofString "x" else Str.ofString ".", by rw [List.map_map]; rfl, ?_, ?_⟩
    · rw [ones_sum (fun y hy => by
        obtain ⟨b, _, rfl⟩ := List.mem_map.mp hy
        cases b <;> rfl), List.length_map, show (Str.ofString "").length = 0 from rfl]
      omega
    · rw [join_flags]
      exact h3 fs rfl hl
end
end Mt
namespace Mt
open PySem PySem.Spec PyProof.Rows L2 L2H
section
variable {P : Program} {w : World} {K : PySem.W.Frag} {mg : Str → Option Value} {base : Heap} {f : Addr} {fd : FuncData} {A : Ad} {tk : Nat → Tok}
theorem ok_read_pattern (F : Fun K "read_pattern" "read_pattern" s_read_pattern f fd) (Tx : Txt K mg A tk)  (E_BadText : ErrKB P w K mg base "BadText" A.bt "line") :
    FnOk P w K mg base (CN P w) 3 f fd ["text"] (SpF A 1 c_read_pattern) := by
  refine okN F sc_read_pattern (fun vs H Q E h => h.len) (fun cdv Ar outer s H vs Q E hr h => ?_)
  obtain ⟨st, P0, ds, k, XA, h1, h2, h3, hc, h5, h6⟩ := h
  refine ⟨_, (pss_cons (ps_if (PW.pt (pw_or (pt_cmpR op_isNTyH (pe_typeOf (by rfl) Tx.m_type (pv 0)) (pe_bltn (v := .ty "str") (u := .type "str") (by rfl) Tx.m_str (by decide +kernel) rel_ty) (nomark _)) (pw_or1 (pt_cmpR op_gt (pe_callB call_lenS (by rfl) Tx.m_len (by decide +kernel) (pa_cons (pv 0) pa_nil)) (pe_glob (v := .int 800) rfl Tx.g_MOST_BEATS ⟨_, rfl⟩) (nomark _))))) (pss_one (L2N.ps_raise rfl (L2N.takes_of rfl rfl rfl rfl) (p_errB E_BadText hr (pa_cons pe_int pa_nil)))) pss_nil)
      (pss_cons (ps_if (pt_not (pt_val (pe_callB (cr_all rfl) (by rfl) Tx.m_all (by decide +kernel) (pa_cons (pe_lc (own := [("sign", 1)]) (g := gName 1) rfl sc_read_pattern.nd (pi_str (pv 0)) (blkOk_by (N := ["text", "sign"]) (sc := defScope s_read_pattern) (by decide +kernel)) (fun _ _ _ _ _ => pg_name (i := 1) sc_read_pattern.nd rfl (.inl rfl)) (fun _ _ _ _ _ => pts_nil) (fun _ _ _ _ _ => (pe_cmpR (op_inK (K := K)) (pv 1) (pe_tup (pa_cons pe_str (pa_cons pe_str pa_nil))) (by rfl)))) pa_nil)))) (pss_one (L2N.ps_raise rfl (L2N.takes_of rfl rfl rfl rfl) (p_errB E_BadText hr (pa_cons pe_int pa_nil)))) pss_nil)
      (pss_one (ps_ret (pe_lc (own := [("sign", 1)]) (g := gName 1) rfl sc_read_pattern.nd (pi_str (pv 0)) (blkOk_by (N := ["text", "sign"]) (sc := defScope s_read_pattern) (by decide +kernel)) (fun _ _ _ _ _ => pg_name (i := 1) sc_read_pattern.nd rfl (.inl rfl)) (fun _ _ _ _ _ => pts_nil) (fun _ _ _ _ _ => (pe_ifExp (pt_cmpR op_eq (pv 1) pe_str (nomark _)) pe_int pe_int))))))), ?_⟩
  refine runFX (ms := ?ms) h1 h2 h5 h6 (fun _ _ _ _ h => h) ?r ?u
  case r => exact (rs_seq (rs_if (rt_or (rt_test (re_op ro_isNTy (re_cb rcb_type (ra_cons re_var ra_nil)) re_ty)) (rt_test (re_op ro_bool (re_cb rcb_lenS (ra_cons re_var ra_nil)) re_int))) (rs_raiseB (c := .bt) rfl re_int) rs_next)
      (rs_seq (rs_if (rt_not (rt_B (re_cb rcb_all (ra_cons (re_lc (vs := [1]) (is := [1]) (ric_of (ri_str re_var)) rg_name rt_yes (re_op ro_in re_var (re_tup (ra_cons re_str (ra_cons re_str ra_nil))))) ra_nil)))) (rs_raiseB (c := .bt) rfl re_int) rs_next)
      (rs_retT (rot_own (row_lc (vs := [1]) (is := [1]) (ric_of (ri_str re_var)) rg_name rt_yes (re_if (rt_test (re_op ro_eq re_var re_str)) re_int re_int))))))
  case u =>
    clear h1 h2 h5 h6 hr
    obtain ⟨v, rfl, ⟨nv, tv⟩, lz, h1, h2⟩ := hc
    (simp! only [mStr])
    refine ⟨nv, tv, ite2 (fun h => h2 fun fs _ e => ?_) (fun h => ?_)⟩
    · subst e
      cases tv
      exact h rfl
    obtain ⟨z, rfl⟩ : ∃ z, v = .str z := by
      cases v <;> first | exact ⟨_, rfl⟩ | (exfalso; cases tv; done) | (exfalso; cases tv; exact h (by decide))
    have lz' := lz z rfl
    refine ⟨z, rfl, by omega, ?_⟩
    (simp! only [])
    refine ite2 (fun hl => h2 fun fs hf e => ?_) (fun hl => ?_)
    · cases e
      rw [textF_len] at hl
      omega
    refine ⟨z, rfl, by omega, ?_⟩
    have din : ∀ c : Nat, ([Str.ofString ".", Str.ofString "x"].any fun y => eqV (.str y) (.str (⟨#[c]⟩ : Str))) = decide (c = 46 ∨ c = 120) := fun c => by
      have ne : ∀ d : Nat, c ≠ d → ((⟨#[d]⟩ : Str) == ⟨#[c]⟩) = false := fun d h => beq_eq_false_iff_ne.mpr fun e => by
        injection e with e
        have e := congrArg Array.toList e
        simp at e
        exact h e.symm
      show (((⟨#[46]⟩ : Str) == ⟨#[c]⟩) || (((⟨#[120]⟩ : Str) == ⟨#[c]⟩) || false)) = _
      by_cases h1 : c = 46
      · subst h1
        decide
      · by_cases h3 : c = 120
        · subst h3
          decide
        · rw [ne 46 h1, ne 120 h3, decide_eq_false (by omega)]
          rfl
    refine lc_of (as := z.cps.toList) (g := fun c => T.str ⟨#[c]⟩) (G := fun c : Nat => T.bl (decide (c = 46 ∨ c = 120))) (fun c hc r hr => ?_) ?_
    · (simp! only [])
      refine ⟨_, [Str.ofString ".", Str.ofString "x"], rfl, Or.inl rfl, ?_⟩
      rw [din]
      exact hr
    refine ⟨z.cps.toList.map fun c => decide (c = 46 ∨ c = 120), by rw [List.map_map]; rfl, ?_⟩
    (simp! only [])
    refine ite2 (fun ha => h2 fun fs hf e => ?_) (fun ha => ?_)
    · cases e
      rw [List.all_eq_false] at ha
      obtain ⟨x, hx, hn⟩ := ha
      obtain ⟨c, hc, rfl⟩ := List.mem_map.mp hx
      simp only [textF, List.mem_map] at hc
      obtain ⟨b, _, rfl⟩ := hc
      cases b <;> exact hn rfl
    rw [Bool.not_eq_false, List.all_eq_true] at ha
    have hc : ∀ c ∈ z.cps.toList, c = 46 ∨ c = 120 := fun c hc => by
      have := ha _ (List.mem_map_of_mem hc)
      simpa using this
    have ez : z = textF (z.cps.toList.map fun c => decide (c = 120)) := str_ext (by
      show z.cps.toList = ((z.cps.toList.map fun c => decide (c = 120)).map fun b => if b = true then 120 else 46)
      exact text_of hc)
    have hl' : (z.cps.toList.map fun c => decide (c = 120)).length ≤ 800 := by
      rw [List.length_map, Array.length_toList]
      have : z.cps.size = z.length := rfl
      omega
    have hk := h1 _ hl' (by rw [← ez])
    refine ⟨z, rfl, by omega, ?_⟩
    refine lc_of (as := z.cps.toList) (g := fun c => T.str ⟨#[c]⟩) (G := fun c : Nat => flagT (decide (c = 120))) (fun c hcm r hr => ?_) ?_
    · rcases hc c hcm with rfl | rfl
      · (simp! only [])
        exact hr
      · (simp! only [])
        exact hr
    · have e2 : (z.cps.toList.map fun c : Nat => flagT (decide (c = 120))) = (z.cps.toList.map fun c => decide (c = 120)).map flagT := by rw [List.map_map]; rfl
      rw [e2]
      exact hk
end
end Mt
namespace Mt
open PySem PySem.Spec PyProof.Rows L2 L2H
section
variable {P : Program} {w : World} {K : PySem.W.Frag} {mg : Str → Option Value} {base : Heap} {f : Addr} {fd : FuncData} {A : Ad} {tk : Nat → Tok}
theorem ok_law_mixed (F : Fun K "_law_mixed" "_law_mixed" s_law_mixed f fd) (Tx : Txt K mg A tk)  : FnOk P w K mg base CX0 1 f fd ["number", "turn"] sp_mixed := by
  refine F.ok sc_law_mixed (fun vs H Q E h => ?_) (fun cdv A outer s H vs Q E hr h => ?_)
  · obtain ⟨a, b, rfl, _⟩ := h
    rfl
  · obtain ⟨a, b, rfl, q⟩ := h
    refine ⟨_, (pss_cons (ps_set (i := 2) sc_law_mixed.nd rfl (.inl rfl) (pe_op op_modN (pe_callTy call_intH (by rfl) Tx.m_int (by decide +kernel) (pa_cons (pe_op op_add (pe_op op_add (pe_op op_mul (pv 0) pe_int) (pe_op op_mul (pv 1) pe_int)) pe_int) pa_nil)) pe_int))
      (pss_cons (ps_set (i := 3) sc_law_mixed.nd rfl (.inl rfl) (pe_op op_modN (pe_callTy call_intH (by rfl) Tx.m_int (by decide +kernel) (pa_cons (pe_op op_add (pe_op op_add (pe_op op_mul (pv 2) (pv 2)) (pe_op op_fdivN (pv 2) pe_int)) (pv 1)) pa_nil)) pe_int))
      (pss_one (ps_ret (pe_op op_modN (pe_callTy call_intH (by rfl) Tx.m_int (by decide +kernel) (pa_cons (pe_op op_add (pe_op op_add (pe_op op_mul (pv 3) (pv 3)) (pe_op op_mul (pe_op op_fdivN (pv 3) pe_int) pe_int)) (pv 2)) pa_nil)) pe_int))))), ?_⟩
    simp only [w_seq, w_next, w_ret, w_asg, w_ifs, w_drop, w_brk, w_cont, w_name, w_var, w_c, w_op, w_un, w_I, w_I0, w_U, w_eq, w_scII, w_scBB, w_scSS, w_scNN, w_zi, w_zb, w_zn, w_zs, V.int.injEq, V.bl.injEq, V.str.injEq, V.ref.injEq, w_ne, w_test, w_B, w_and, w_or, w_not, w_andV, w_orV, w_notV, w_if, w_isN, w_nil, w_cons, w_cb, w_call, w_tup, w_lst, w_sub, w_intI, w_intB, w_isTyH, w_typ, w_isH, w_ixH, w_lenH, w_absH, w_listH, w_strH, w_bm, w_chain, w_exB, w_exV, w_start, k_ii, k_ib, k_is, k_il, k_it, k_bi, k_bb, k_bs, k_bl, k_bt, k_ni, k_nb, k_ns, k_nl, k_nt, k_si, k_sb, k_ss, k_sl, k_st, k_li, k_lb, k_ls, k_ll, k_lt, k_ti, k_tb, k_ts, k_tl, k_tt, w_st1, w_st2, w_st3, w_st5, atI_s0, atI_s1, atI_s2, atI_s3, atI_s4, atI_s5, List.map_cons, List.map_nil, List.length_cons, List.length_nil, List.replicate, List.cons_append, List.nil_append, List.append_nil, List.getElem?_cons_zero, List.getElem?_cons_succ, List.set_cons_zero, List.set_cons_succ, Nat.sub_self, Nat.reduceAdd, Nat.reduceSub, List.replicate_zero, decide_eq_true_eq, Bool.true_eq_false, Bool.false_eq_true, if_true, if_false, reduceIte, Bool.not_eq_true', decide_eq_false_iff_not, Bool.not_true, Bool.not_false, exists_eq_left', true_and, and_true, Option.some.injEq, reduceCtorEq, decide_true, decide_false, not_true_eq_false, not_false_eq_true, sizeLine_eq, Nat.reduceLeDiff, Bool.or_false, Bool.or_true, Bool.false_or, Bool.true_or, wp1, wp2, w_par, w_par2, w_tsl, w_nopart, w_part, w_exI]
    have h1 := fmod_pos (a := a * 2862933555777941757 + b * 3202034522624059733 + 1442695040888963407) (m := 2305843009213693951) (by decide)
    generalize (a * 2862933555777941757 + b * 3202034522624059733 + 1442695040888963407).fmod 2305843009213693951 = x at h1 ⊢
    refine ⟨cmul_r (by decide) (by decide), cmul_r (by decide) (by decide), by decide, cmul_l (by omega) (by omega), ⟨by decide, by decide⟩, by decide, ?_⟩
    have h2 := fmod_pos (a := x * x + x.fdiv 1000003 + b) (m := 1000000000000000003) (by decide)
    generalize (x * x + x.fdiv 1000003 + b).fmod 1000000000000000003 = y at h2 ⊢
    exact ⟨cmul_l (by omega) (by omega), ⟨by decide, by decide⟩, cmul_r (by decide) (by decide), by decide, q _ (fmod_pos (by decide)).1⟩
end
end Mt
namespace Mt
open PySem PySem.Spec PyProof.Rows L2 L2H
section
variable {P : Program} {w : World} {K : PySem.W.Frag} {mg : Str → Option Value} {base : Heap} {f : Addr} {fd : FuncData} {A : Ad} {tk : Nat → Tok}
theorem ok_law_store (F : Fun K "_law_store" "_law_store" s_law_store f fd) (Tx : Txt K mg A tk)  : FnOk P w K mg base CX0 1 f fd ["script"] (sp_store K) := by
  refine F.ok sc_law_store (fun vs H Q E h => ?_) (fun cdv A outer s H vs Q E hr h => ?_)
  · obtain ⟨a, ns, rfl, _⟩ := h
    rfl
  · obtain ⟨a, ns, rfl, hL, hn, q⟩ := h
    refine ⟨_, (pss_cons (ps_set (i := 1) sc_law_store.nd rfl (.inl rfl) (pe_op op_add (pe_callB call_len_seq (by rfl) Tx.m_len (by decide +kernel) (pa_cons (pv 0) pa_nil)) pe_int))
      (pss_cons (ps_for PassesOwn.never rfl (pi_list (pv 0)) (pg_name (i := 2) sc_law_store.nd rfl (.inl rfl)) (pss_one (ps_set (i := 1) sc_law_store.nd rfl (.inl rfl) (pe_op op_modN (pe_callTy call_intH (by rfl) Tx.m_int (by decide +kernel) (pa_cons (pe_op op_add (pe_op op_mul (pv 1) pe_int) (pv 2)) pa_nil)) pe_int))))
      (pss_one (ps_ret (pe_lst (pa_cons (pe_callTy call_list_of (by rfl) Tx.m_list (by decide +kernel) (pa_cons (pv 0) pa_nil)) (pa_cons pe_int (pa_cons pe_int (pa_cons pe_int (pa_cons (pv 1) (pa_cons pe_int pa_nil))))))))))), ?_⟩
    simp only [w_seq, w_next, w_ret, w_asg, w_ifs, w_drop, w_brk, w_cont, w_name, w_var, w_c, w_op, w_un, w_I, w_I0, w_U, w_eq, w_scII, w_scBB, w_scSS, w_scNN, w_zi, w_zb, w_zn, w_zs, V.int.injEq, V.bl.injEq, V.str.injEq, V.ref.injEq, w_ne, w_test, w_B, w_and, w_or, w_not, w_andV, w_orV, w_notV, w_if, w_isN, w_nil, w_cons, w_cb, w_call, w_tup, w_lst, w_sub, w_intI, w_intB, w_isTyH, w_typ, w_isH, w_ixH, w_lenH, w_absH, w_listH, w_strH, w_bm, w_chain, w_exB, w_exV, w_start, k_ii, k_ib, k_is, k_il, k_it, k_bi, k_bb, k_bs, k_bl, k_bt, k_ni, k_nb, k_ns, k_nl, k_nt, k_si, k_sb, k_ss, k_sl, k_st, k_li, k_lb, k_ls, k_ll, k_lt, k_ti, k_tb, k_ts, k_tl, k_tt, w_st1, w_st2, w_st3, w_st5, atI_s0, atI_s1, atI_s2, atI_s3, atI_s4, atI_s5, List.map_cons, List.map_nil, List.length_cons, List.length_nil, List.replicate, List.cons_append, List.nil_append, List.append_nil, List.getElem?_cons_zero, List.getElem?_cons_succ, List.set_cons_zero, List.set_cons_succ, Nat.sub_self, Nat.reduceAdd, Nat.reduceSub, List.replicate_zero, decide_eq_true_eq, Bool.true_eq_false, Bool.false_eq_true, if_true, if_false, reduceIte, Bool.not_eq_true', decide_eq_false_iff_not, Bool.not_true, Bool.not_false, exists_eq_left', true_and, and_true, Option.some.injEq, reduceCtorEq, decide_true, decide_false, not_true_eq_false, not_false_eq_true, sizeLine_eq, Nat.reduceLeDiff, Bool.or_false, Bool.or_true, Bool.false_or, Bool.true_or, wp1, wp2, w_par, w_par2, w_tsl, w_nopart, w_part, w_exI]
    refine ⟨a, _, rfl, Or.inl hL, ?_⟩
    refine ⟨_, rfl, a, rfl, ⟨_, hL⟩, for_list (K := K) (a := a) (xs := ns.map V.int) (fun i σ H' => ∃ (x : Int) (y : Option V), σ = [some (.ref a), some (.int x), y] ∧ H' = H) ⟨_, _, rfl, rfl⟩ (fun i σ H' _ ⟨_, _, _, e⟩ => by rw [e]; exact hL) ?_ ?_⟩
    · rintro i y σ H' hi ⟨x, y', rfl, rfl⟩
      obtain ⟨z, _, rfl⟩ := ints_at hi
      simp only [w_seq, w_next, w_ret, w_asg, w_ifs, w_drop, w_brk, w_cont, w_name, w_var, w_c, w_op, w_un, w_I, w_I0, w_U, w_eq, w_scII, w_scBB, w_scSS, w_scNN, w_zi, w_zb, w_zn, w_zs, V.int.injEq, V.bl.injEq, V.str.injEq, V.ref.injEq, w_ne, w_test, w_B, w_and, w_or, w_not, w_andV, w_orV, w_notV, w_if, w_isN, w_nil, w_cons, w_cb, w_call, w_tup, w_lst, w_sub, w_intI, w_intB, w_isTyH, w_typ, w_isH, w_ixH, w_lenH, w_absH, w_listH, w_strH, w_bm, w_chain, w_exB, w_exV, w_start, k_ii, k_ib, k_is, k_il, k_it, k_bi, k_bb, k_bs, k_bl, k_bt, k_ni, k_nb, k_ns, k_nl, k_nt, k_si, k_sb, k_ss, k_sl, k_st, k_li, k_lb, k_ls, k_ll, k_lt, k_ti, k_tb, k_ts, k_tl, k_tt, w_st1, w_st2, w_st3, w_st5, atI_s0, atI_s1, atI_s2, atI_s3, atI_s4, atI_s5, List.map_cons, List.map_nil, List.length_cons, List.length_nil, List.replicate, List.cons_append, List.nil_append, List.append_nil, List.getElem?_cons_zero, List.getElem?_cons_succ, List.set_cons_zero, List.set_cons_succ, Nat.sub_self, Nat.reduceAdd, Nat.reduceSub, List.replicate_zero, decide_eq_true_eq, Bool.true_eq_false, Bool.false_eq_true, if_true, if_false, reduceIte, Bool.not_eq_true', decide_eq_false_iff_not, Bool.not_true, Bool.not_false, exists_eq_left', true_and, and_true, Option.some.injEq, reduceCtorEq, decide_true, decide_false, not_true_eq_false, not_false_eq_true, sizeLine_eq, Nat.reduceLeDiff, Bool.or_false, Bool.or_true, Bool.false_or, Bool.true_or, wp1, wp2, w_par, w_par2, w_tsl, w_nopart, w_part, w_exI]
      exact ⟨cmul_r (by decide) (by decide), by decide, _, _, rfl⟩
    · rintro σ H' ⟨x, y, rfl, rfl⟩
      simp only [w_seq, w_next, w_ret, w_asg, w_ifs, w_drop, w_brk, w_cont, w_name, w_var, w_c, w_op, w_un, w_I, w_I0, w_U, w_eq, w_scII, w_scBB, w_scSS, w_scNN, w_zi, w_zb, w_zn, w_zs, V.int.injEq, V.bl.injEq, V.str.injEq, V.ref.injEq, w_ne, w_test, w_B, w_and, w_or, w_not, w_andV, w_orV, w_notV, w_if, w_isN, w_nil, w_cons, w_cb, w_call, w_tup, w_lst, w_sub, w_intI, w_intB, w_isTyH, w_typ, w_isH, w_ixH, w_lenH, w_absH, w_listH, w_strH, w_bm, w_chain, w_exB, w_exV, w_start, k_ii, k_ib, k_is, k_il, k_it, k_bi, k_bb, k_bs, k_bl, k_bt, k_ni, k_nb, k_ns, k_nl, k_nt, k_si, k_sb, k_ss, k_sl, k_st, k_li, k_lb, k_ls, k_ll, k_lt, k_ti, k_tb, k_ts, k_tl, k_tt, w_st1, w_st2, w_st3, w_st5, atI_s0, atI_s1, atI_s2, atI_s3, atI_s4, atI_s5, List.map_cons, List.map_nil, List.length_cons, List.length_nil, List.replicate, List.cons_append, List.nil_append, List.append_nil, List.getElem?_cons_zero, List.getElem?_cons_succ, List.set_cons_zero, List.set_cons_succ, Nat.sub_self, Nat.reduceAdd, Nat.reduceSub, List.replicate_zero, decide_eq_true_eq, Bool.true_eq_false, Bool.false_eq_true, if_true, if_false, reduceIte, Bool.not_eq_true', decide_eq_false_iff_not, Bool.not_true, Bool.not_false, exists_eq_left', true_and, and_true, Option.some.injEq, reduceCtorEq, decide_true, decide_false, not_true_eq_false, not_false_eq_true, sizeLine_eq, Nat.reduceLeDiff, Bool.or_false, Bool.or_true, Bool.false_or, Bool.true_or, wp1, wp2, w_par, w_par2, w_tsl, w_nopart, w_part, w_exI]
      refine ⟨a, _, rfl, Or.inl hL, fun l hl p hp => ?_⟩
      have hlp : l ≠ p := fun e => by
        rw [e, upd_same] at hp
        cases hp
      have hp' : H' p = none := by
        rw [upd_ne (fun e => hlp e.symm)] at hp
        exact hp
      exact q (upd H' l (.lst (ns.map V.int))) p ⟨l, ns, 0, 0, 0, x, 0⟩ (same_new hl) hp' hp ⟨upd_same, Int.le_refl 0, Int.natCast_nonneg _, Int.le_refl 0, fun z => absurd z (Int.lt_irrefl 0)⟩
end
end Mt
namespace Mt
open PySem PySem.Spec PyProof.Rows L2 L2H
section
variable {P : Program} {w : World} {K : PySem.W.Frag} {mg : Str → Option Value} {base : Heap} {f : Addr} {fd : FuncData} {A : Ad} {tk : Nat → Tok}
theorem atI_ns {ns : List Int} {i : Int} (h0 : 0 ≤ i) (h1 : i < ns.length) : ∃ z, atI (ns.map V.int) i = some (.int z) := by
  have h2 : i.toNat < (ns.map V.int).length := by
    rw [List.length_map]
    omega
  obtain ⟨j, rfl⟩ : ∃ j : Nat, i = (j : Int) := ⟨i.toNat, by omega⟩
  refine ⟨ns[j]'(by omega), atI_nat ?_⟩
  rw [List.getElem?_map, List.getElem?_eq_getElem (by omega)]
  rfl
theorem w_mixed {a b : Int} {H : Hp} {Q : VK} {E : XK} : sp_mixed [.int a, .int b] H Q E = ∀ r : Int, 0 ≤ r → Q (.int r) H := by
  refine propext ⟨fun ⟨a', b', e, q⟩ => ?_, fun q => ⟨a, b, rfl, q⟩⟩
  cases e
  exact q
theorem ok_take0 (F : Fun K "_law_take" "_law_take" s_law_take f fd) (Tx : Txt K mg A tk) (C_law_mixed : Cal P w K mg base "_law_mixed" 1 ["number", "turn"] sp_mixed) : FnOk P w K mg base CX0 2 f fd ["store", "many"] sp_take := by
  refine F.ok sc_law_take (fun vs H Q E h => ?_) (fun cdv A outer s H vs Q E hr h => ?_)
  · obtain ⟨G, s, t, m, rfl, _⟩ := h
    rfl
  · obtain ⟨G, st, t, m, rfl, rfl, hs, ok, hm, q⟩ := h
    refine ⟨_, (pss_cons (ps_if (pt_cmpR op_lt (pv 1) pe_int (nomark _)) (pss_one (ps_ret pe_int)) pss_nil)
      (pss_cons (ps_if (pt_cmpR op_gt (pe_ix ix_H (pv 0) pe_int (fun _ _ => rfl)) pe_int (nomark _)) (pss_cons (ps_set (i := 2) sc_law_take.nd rfl (.inl rfl) (pe_ix ix_H (pv 0) pe_int (fun _ _ => rfl)))
      (pss_cons (ps_asg (pe_op op_fdivW (pv 2) (pv 1)) (pg_sub (pv 0) pe_int set_list))
      (pss_one (ps_ret (pe_op op_modN (pe_callTy call_intH (by rfl) Tx.m_int (by decide +kernel) (pa_cons (pv 2) pa_nil)) (pv 1)))))) pss_nil)
      (pss_cons (ps_if (PW.pt (pw_and (pt_cmpR op_eq (pe_ix ix_H (pv 0) pe_int (fun _ _ => rfl)) pe_int (nomark _)) (pw_and1 (pt_cmpR op_lt (pe_ix ix_H (pv 0) pe_int (fun _ _ => rfl)) (pe_callB call_lenH (by rfl) Tx.m_len (by decide +kernel) (pa_cons (pe_ix ix_H (pv 0) pe_int (fun _ _ => rfl)) pa_nil)) (nomark _))))) (pss_cons (ps_set (i := 2) sc_law_take.nd rfl (.inl rfl) (pe_callB call_absH (by rfl) Tx.m_abs (by decide +kernel) (pa_cons (pe_ix ix_H (pe_ix ix_H (pv 0) pe_int (fun _ _ => rfl)) (pe_ix ix_H (pv 0) pe_int (fun _ _ => rfl)) (fun _ _ => rfl)) pa_nil)))
      (pss_cons (ps_asg (pe_op op_add (pe_ix ix_H (pv 0) pe_int (fun _ _ => rfl)) pe_int) (pg_sub (pv 0) pe_int set_list))
      (pss_cons (ps_if (pt_cmpR op_ge (pv 2) (pe_op op_pow pe_int pe_int) (nomark _)) (pss_cons (ps_asg (pe_op op_fdivW (pv 2) (pv 1)) (pg_sub (pv 0) pe_int set_list))
      (pss_one (ps_ret (pe_op op_modN (pe_callTy call_intH (by rfl) Tx.m_int (by decide +kernel) (pa_cons (pv 2) pa_nil)) (pv 1))))) pss_nil)
      (pss_one (ps_asg pe_int (pg_sub (pv 0) pe_int set_list)))))) pss_nil)
      (pss_cons (ps_if (pt_cmpR op_gt (pe_ix ix_H (pv 0) pe_int (fun _ _ => rfl)) pe_int (nomark _)) (pss_cons (ps_asg (pe_op op_sub (pe_ix ix_H (pv 0) pe_int (fun _ _ => rfl)) pe_int) (pg_sub (pv 0) pe_int set_list))
      (pss_one (ps_ret (pe_op op_modN (pe_callTy call_intH (by rfl) Tx.m_int (by decide +kernel) (pa_cons (p_call C_law_mixed hr (pa_cons (pe_op op_add (pe_op op_mul (pe_ix ix_H (pe_ix ix_H (pv 0) pe_int (fun _ _ => rfl)) (pe_op op_sub (pe_ix ix_H (pv 0) pe_int (fun _ _ => rfl)) pe_int) (fun _ _ => rfl)) pe_int) (pe_ix ix_H (pv 0) pe_int (fun _ _ => rfl))) (pa_cons (pe_ix ix_H (pv 0) pe_int (fun _ _ => rfl)) pa_nil)) (by omega)) pa_nil)) (pv 1))))) pss_nil)
      (pss_cons (ps_asg (pe_op op_add (pe_ix ix_H (pv 0) pe_int (fun _ _ => rfl)) pe_int) (pg_sub (pv 0) pe_int set_list))
      (pss_one (ps_ret (pe_op op_modN (pe_callTy call_intH (by rfl) Tx.m_int (by decide +kernel) (pa_cons (p_call C_law_mixed hr (pa_cons (pe_ix ix_H (pv 0) pe_int (fun _ _ => rfl)) (pa_cons (pe_op op_add pe_int (pe_ix ix_H (pv 0) pe_int (fun _ _ => rfl))) pa_nil)) (by omega)) pa_nil)) (pv 1))))))))), ?_⟩
    have hS : ∀ t, seqAt (Wr G st t) st = some (stV t) := fun t => seqAt_l wr_s
    have hL : ∀ i c g e j : Int, seqAt (Wr G st ⟨t.l, t.ns, i, c, g, e, j⟩) t.l = some (t.ns.map V.int) := fun i c g e j => seqAt_l (by
      show upd G st _ t.l = _
      rw [upd_ne (ne_of_none ok.at_ hs)]
      exact ok.at_)
    have hL0 : seqAt (Wr G st t) t.l = some (t.ns.map V.int) := hL t.i t.c t.g t.seed t.j
    have hm0 : ∀ x : Int, ¬ m < 2 → 0 ≤ x.fmod m ∧ x.fmod m < m := fun x h => fmod_pos (by omega)
    have cd : ∀ x : Int, ¬ m < 2 → CDivW x m := fun x h => wide_div (b := 200) (by omega) hm (by decide) (by decide)
    have mk : ∀ i c g e j : Int, 0 ≤ i → i ≤ t.ns.length → 0 ≤ g → (0 < g → 1 ≤ i) → StOk G ⟨t.l, t.ns, i, c, g, e, j⟩ := fun i c g e j h1 h2 h3 h4 => ⟨ok.at_, h1, h2, h3, h4⟩
    have i0 := ok.i0
    have il := ok.il
    have g0 := ok.g0
    have gi := ok.gi
    have pw : (10 : Int) ^ Int.toNat 18 = 1000000000000000000 := by decide
    have cp : CPow 10 18 := ⟨by decide, by decide, by decide⟩
    simp only [w_seq, w_next, w_ret, w_asg, w_ifs, w_drop, w_brk, w_cont, w_name, w_var, w_c, w_op, w_un, w_I, w_I0, w_U, w_eq, w_scII, w_scBB, w_scSS, w_scNN, w_zi, w_zb, w_zn, w_zs, V.int.injEq, V.bl.injEq, V.str.injEq, V.ref.injEq, w_ne, w_test, w_B, w_and, w_or, w_not, w_andV, w_orV, w_notV, w_if, w_isN, w_nil, w_cons, w_cb, w_call, w_tup, w_lst, w_sub, w_intI, w_intB, w_isTyH, w_typ, w_isH, w_ixH, w_lenH, w_absH, w_listH, w_strH, w_bm, w_chain, w_exB, w_exV, w_start, k_ii, k_ib, k_is, k_il, k_it, k_bi, k_bb, k_bs, k_bl, k_bt, k_ni, k_nb, k_ns, k_nl, k_nt, k_si, k_sb, k_ss, k_sl, k_st, k_li, k_lb, k_ls, k_ll, k_lt, k_ti, k_tb, k_ts, k_tl, k_tt, w_st1, w_st2, w_st3, w_st5, atI_s0, atI_s1, atI_s2, atI_s3, atI_s4, atI_s5, List.map_cons, List.map_nil, List.length_cons, List.length_nil, List.replicate, List.cons_append, List.nil_append, List.append_nil, List.getElem?_cons_zero, List.getElem?_cons_succ, List.set_cons_zero, List.set_cons_succ, Nat.sub_self, Nat.reduceAdd, Nat.reduceSub, List.replicate_zero, decide_eq_true_eq, Bool.true_eq_false, Bool.false_eq_true, if_true, if_false, reduceIte, Bool.not_eq_true', decide_eq_false_iff_not, Bool.not_true, Bool.not_false, exists_eq_left', true_and, and_true, Option.some.injEq, reduceCtorEq, decide_true, decide_false, not_true_eq_false, not_false_eq_true, sizeLine_eq, Nat.reduceLeDiff, Bool.or_false, Bool.or_true, Bool.false_or, Bool.true_or, wp1, wp2, w_par, w_par2, w_tsl, w_nopart, w_part, w_exI, hS, hL, hL0, w_mixed, List.length_map, pw]
    refine ite2 (fun h => q 0 t ok rfl rfl (Int.le_refl 0) (Or.inr ⟨h, rfl⟩)) (fun hm2 => ?_)
    have m0 : m ≠ 0 := by omega
    -- a mixed number of the last cell
    have again : ∀ i g : Int, 1 ≤ i → i ≤ t.ns.length → 0 < g → ∃ v, atI (t.ns.map V.int) (i - 1) = some v ∧ rI CMul (fun i j => V.int (i * j)) v (V.int 1000) (Wr G st ⟨t.l, t.ns, i, t.c, g - 1, t.seed, t.j⟩) fun x H1 =>
        ∃ xs, seqAt H1 st = some xs ∧ ∃ v, atI xs 1 = some v ∧ rI0 (fun i j => V.int (i + j)) x v H1 fun x H1 => ∃ xs, seqAt H1 st = some xs ∧ ∃ v, atI xs 3 = some v ∧
          sp_mixed [x, v] H1 (fun x H1 => rInt1 [x] H1 fun x H1 => rI (fun x j => j ≠ 0) (fun i j => V.int (i.fmod j)) x (V.int m) H1 Q) E0 := fun i g h1 h2 h3 => by
      obtain ⟨z, hz⟩ := atI_ns (ns := t.ns) (i := i - 1) (by omega) (by omega)
      refine ⟨_, hz, ?_⟩
      simp only [w_seq, w_next, w_ret, w_asg, w_ifs, w_drop, w_brk, w_cont, w_name, w_var, w_c, w_op, w_un, w_I, w_I0, w_U, w_eq, w_scII, w_scBB, w_scSS, w_scNN, w_zi, w_zb, w_zn, w_zs, V.int.injEq, V.bl.injEq, V.str.injEq, V.ref.injEq, w_ne, w_test, w_B, w_and, w_or, w_not, w_andV, w_orV, w_notV, w_if, w_isN, w_nil, w_cons, w_cb, w_call, w_tup, w_lst, w_sub, w_intI, w_intB, w_isTyH, w_typ, w_isH, w_ixH, w_lenH, w_absH, w_listH, w_strH, w_bm, w_chain, w_exB, w_exV, w_start, k_ii, k_ib, k_is, k_il, k_it, k_bi, k_bb, k_bs, k_bl, k_bt, k_ni, k_nb, k_ns, k_nl, k_nt, k_si, k_sb, k_ss, k_sl, k_st, k_li, k_lb, k_ls, k_ll, k_lt, k_ti, k_tb, k_ts, k_tl, k_tt, w_st1, w_st2, w_st3, w_st5, atI_s0, atI_s1, atI_s2, atI_s3, atI_s4, atI_s5, List.map_cons, List.map_nil, List.length_cons, List.length_nil, List.replicate, List.cons_append, List.nil_append, List.append_nil, List.getElem?_cons_zero, List.getElem?_cons_succ, List.set_cons_zero, List.set_cons_succ, Nat.sub_self, Nat.reduceAdd, Nat.reduceSub, List.replicate_zero, decide_eq_true_eq, Bool.true_eq_false, Bool.false_eq_true, if_true, if_false, reduceIte, Bool.not_eq_true', decide_eq_false_iff_not, Bool.not_true, Bool.not_false, exists_eq_left', true_and, and_true, Option.some.injEq, reduceCtorEq, decide_true, decide_false, not_true_eq_false, not_false_eq_true, sizeLine_eq, Nat.reduceLeDiff, Bool.or_false, Bool.or_true, Bool.false_or, Bool.true_or, wp1, wp2, w_par, w_par2, w_tsl, w_nopart, w_part, w_exI, hS, w_mixed]
      exact ⟨cmul_r (by decide) (by decide), fun r _ => ⟨m0, q _ _ (mk _ _ _ _ _ (by omega) h2 (by omega) (fun _ => h1)) rfl rfl (hm0 r hm2).1 (Or.inl (hm0 r hm2).2)⟩⟩
    refine ite2 (fun h => ⟨cd _ hm2, m0, q _ _ (mk _ _ _ _ _ i0 il g0 gi) rfl rfl (hm0 t.c hm2).1 (Or.inl (hm0 t.c hm2).2)⟩) (fun _ => ?_)
    have last : ∀ r : Int, 0 ≤ r → m ≠ 0 ∧ Q (.int (r.fmod m)) (Wr G st ⟨t.l, t.ns, t.i, t.c, t.g, t.seed, t.j + 1⟩) := fun r _ => ⟨m0, q _ _ (mk _ _ _ _ _ i0 il g0 gi) rfl rfl (hm0 r hm2).1 (Or.inl (hm0 r hm2).2)⟩
    refine ite2 (fun hg => ?_) (fun hg => ite2 (fun h => again t.i t.g (gi h) il h) (fun _ => last))
    refine ite2 (fun hi => ?_) (fun _ => ite2 (fun h => again t.i t.g (gi h) il h) (fun _ => last))
    obtain ⟨z, hz⟩ := atI_ns (ns := t.ns) i0 hi
    refine ⟨_, hz, ?_⟩
    simp only [w_seq, w_next, w_ret, w_asg, w_ifs, w_drop, w_brk, w_cont, w_name, w_var, w_c, w_op, w_un, w_I, w_I0, w_U, w_eq, w_scII, w_scBB, w_scSS, w_scNN, w_zi, w_zb, w_zn, w_zs, V.int.injEq, V.bl.injEq, V.str.injEq, V.ref.injEq, w_ne, w_test, w_B, w_and, w_or, w_not, w_andV, w_orV, w_notV, w_if, w_isN, w_nil, w_cons, w_cb, w_call, w_tup, w_lst, w_sub, w_intI, w_intB, w_isTyH, w_typ, w_isH, w_ixH, w_lenH, w_absH, w_listH, w_strH, w_bm, w_chain, w_exB, w_exV, w_start, k_ii, k_ib, k_is, k_il, k_it, k_bi, k_bb, k_bs, k_bl, k_bt, k_ni, k_nb, k_ns, k_nl, k_nt, k_si, k_sb, k_ss, k_sl, k_st, k_li, k_lb, k_ls, k_ll, k_lt, k_ti, k_tb, k_ts, k_tl, k_tt, w_st1, w_st2, w_st3, w_st5, atI_s0, atI_s1, atI_s2, atI_s3, atI_s4, atI_s5, List.map_cons, List.map_nil, List.length_cons, List.length_nil, List.replicate, List.cons_append, List.nil_append, List.append_nil, List.getElem?_cons_zero, List.getElem?_cons_succ, List.set_cons_zero, List.set_cons_succ, Nat.sub_self, Nat.reduceAdd, Nat.reduceSub, List.replicate_zero, decide_eq_true_eq, Bool.true_eq_false, Bool.false_eq_true, if_true, if_false, reduceIte, Bool.not_eq_true', decide_eq_false_iff_not, Bool.not_true, Bool.not_false, exists_eq_left', true_and, and_true, Option.some.injEq, reduceCtorEq, decide_true, decide_false, not_true_eq_false, not_false_eq_true, sizeLine_eq, Nat.reduceLeDiff, Bool.or_false, Bool.or_true, Bool.false_or, Bool.true_or, wp1, wp2, w_par, w_par2, w_tsl, w_nopart, w_part, w_exI, hS, hL, w_mixed, pw]
    refine ⟨cp, ite2 (fun h => ⟨cd _ hm2, m0, q _ _ (mk _ _ _ _ _ (by omega) (by omega) g0 (fun _ => by omega)) rfl rfl (hm0 _ hm2).1 (Or.inl (hm0 _ hm2).2)⟩) (fun _ => ?_)⟩
    exact again (t.i + 1) 4 (by omega) (by omega) (by decide)
theorem ok_law_take (F : Fun K "_law_take" "_law_take" s_law_take f fd) (Tx : Txt K mg A tk) (C_law_mixed : Cal P w K mg base "_law_mixed" 1 ["number", "turn"] sp_mixed) : FnOk P w K mg base CX0 2 f fd ["store", "many"] (SpU A 2 c_law_take) := (ok_take0 F Tx C_law_mixed).imp fun vs H Q E h => take_spec h
end
end Mt
namespace Mt
open PySem PySem.Spec PyProof.Rows L2 L2H
section
variable {P : Program} {w : World} {K : PySem.W.Frag} {mg : Str → Option Value} {base : Heap} {f : Addr} {fd : FuncData} {A : Ad} {tk : Nat → Tok}
theorem ok_law_edge (F : Fun K "_law_edge" "_law_edge" s_law_edge f fd) (Tx : Txt K mg A tk) (C_law_take : Cal P w K mg base "_law_take" 2 ["store", "many"] (SpU A 2 c_law_take)) :
    FnOk P w K mg base CX0 3 f fd ["store", "low", "high"] (SpU A 3 c_law_edge) := by
  refine F.ok sc_law_edge (fun vs H Q E h => h.len) (fun cdv Ar outer s H vs Q E hr h => ?_)
  obtain ⟨st, P0, ds, k, XA, h1, h2, h3, hc, h5, h6⟩ := h
  refine ⟨_, (pss_cons (ps_if (pt_cmpR op_le (pv 2) (pv 1) (nomark _)) (pss_one (ps_ret (pv 1))) pss_nil)
      (pss_cons (ps_set (i := 3) sc_law_edge.nd rfl (.inl rfl) (p_call C_law_take hr (pa_cons (pv 0) (pa_cons pe_int pa_nil)) (by omega)))
      (pss_cons (ps_if (pt_cmpR op_eq (pv 3) pe_int (nomark _)) (pss_one (ps_ret (pv 1))) pss_nil)
      (pss_cons (ps_if (pt_cmpR op_eq (pv 3) pe_int (nomark _)) (pss_one (ps_ret (pv 2))) pss_nil)
      (pss_cons (ps_if (pt_cmpR op_eq (pv 3) pe_int (nomark _)) (pss_one (ps_ret (pe_ix ix_H (pe_lst (pa_cons (pe_op op_add (pv 1) pe_int) (pa_cons (pe_op op_sub (pv 2) pe_int) pa_nil))) (p_call C_law_take hr (pa_cons (pv 0) (pa_cons pe_int pa_nil)) (by omega)) (fun _ _ => rfl)))) pss_nil)
      (pss_one (ps_ret (pe_op op_add (pv 1) (p_call C_law_take hr (pa_cons (pv 0) (pa_cons (pe_op op_add (pe_op op_sub (pv 2) (pv 1)) pe_int) pa_nil)) (by omega)))))))))), ?_⟩
  refine run0 (A := A) (ms := ?ms) (XA := XA) h1 h2 h5 ?r ?u
  case r => exact (rs_seq (rs_if (rt_test (re_op ro_bool re_var re_var)) (rs_ret re_var) rs_next)
      (rs_seq (rs_asg (re_call (ra_cons re_var (ra_cons re_int ra_nil))) rg_name)
      (rs_seq (rs_if (rt_test (re_op ro_eq re_var re_int)) (rs_ret re_var) rs_next)
      (rs_seq (rs_if (rt_test (re_op ro_eq re_var re_int)) (rs_ret re_var) rs_next)
      (rs_seq (rs_if (rt_test (re_op ro_eq re_var re_int)) (rs_ret (re_op ro_ix (re_lst (ra_cons (re_op ro_int re_var re_int) (ra_cons (re_op ro_int re_var re_int) ra_nil))) (re_call (ra_cons re_var (ra_cons re_int ra_nil))))) rs_next)
      (rs_ret (re_op ro_int re_var (re_call (ra_cons re_var (ra_cons (re_op ro_int (re_op ro_int re_var re_var) re_int) ra_nil))))))))))
  case u =>
    clear h1 h2 h5 h6 hr
    obtain ⟨lo, hi, rfl, h0, h1, hk⟩ := hc
    (simp! only [])
    refine ite2 (fun _ => hk lo (by omega) h0) (fun z => ⟨9, rfl, by decide, fun w _ _ => ?_⟩)
    (simp! only [])
    refine ite2 (fun _ => hk lo (by omega) h0) (fun _ => ite2 (fun _ => hk hi h0 (by omega)) (fun _ => ite2 (fun _ => ⟨2, rfl, by decide, fun r r0 r1 => ?_⟩) (fun _ => ⟨hi - lo + 1, rfl, by omega, fun r r0 r1 => ?_⟩)))
    · have two : r = 0 ∨ r = 1 := by omega
      rcases two with rfl | rfl
      · (simp! only [])
        exact ⟨_, rfl, hk _ (by omega) (by omega)⟩
      · (simp! only [])
        exact ⟨_, rfl, hk _ (by omega) (by omega)⟩
    · (simp! only [])
      exact hk _ (by omega) (by omega)
end
end Mt
namespace Mt
open PySem PySem.Spec PyProof.Rows L2 L2H
section
variable {P : Program} {w : World} {K : PySem.W.Frag} {mg : Str → Option Value} {base : Heap} {f : Addr} {fd : FuncData} {A : Ad} {tk : Nat → Tok}
theorem ok_law_small (F : Fun K "_law_small" "_law_small" s_law_small f fd) (Tx : Txt K mg A tk) (C_law_edge : Cal P w K mg base "_law_edge" 3 ["store", "low", "high"] (SpU A 3 c_law_edge)) (C_law_take : Cal P w K mg base "_law_take" 2 ["store", "many"] (SpU A 2 c_law_take)) :
    FnOk P w K mg base CX0 4 f fd ["store", "low", "usual", "high"] (SpU A 4 c_law_small) := by
  refine F.ok sc_law_small (fun vs H Q E h => h.len) (fun cdv Ar outer s H vs Q E hr h => ?_)
  obtain ⟨st, P0, ds, k, XA, h1, h2, h3, hc, h5, h6⟩ := h
  refine ⟨_, (pss_cons (ps_if (pt_cmpR op_eq (p_call C_law_take hr (pa_cons (pv 0) (pa_cons pe_int pa_nil)) (by omega)) pe_int (nomark _)) (pss_one (ps_ret (p_call C_law_edge hr (pa_cons (pv 0) (pa_cons (pv 1) (pa_cons (pv 3) pa_nil))) (by omega)))) pss_nil)
      (pss_one (ps_ret (p_call C_law_edge hr (pa_cons (pv 0) (pa_cons (pv 1) (pa_cons (pv 2) pa_nil))) (by omega))))), ?_⟩
  refine run0 (A := A) (ms := ?ms) (XA := XA) h1 h2 h5 ?r ?u
  case r => exact (rs_seq (rs_if (rt_test (re_op ro_eq (re_call (ra_cons re_var (ra_cons re_int ra_nil))) re_int)) (rs_ret (re_call (ra_cons re_var (ra_cons re_var (ra_cons re_var ra_nil))))) rs_next)
      (rs_ret (re_call (ra_cons re_var (ra_cons re_var (ra_cons re_var ra_nil))))))
  case u =>
    clear h1 h2 h5 h6 hr
    obtain ⟨lo, us, hi, rfl, h0, h1, h2, h3, hk⟩ := hc
    (simp! only [])
    refine ⟨8, rfl, by decide, fun w _ _ => ?_⟩
    (simp! only [])
    refine ite2 (fun _ => ⟨lo, hi, rfl, by omega, by omega, fun r a b => hk r a b⟩) (fun _ => ⟨lo, us, rfl, by omega, by omega, fun r a b => hk r a (by omega)⟩)
end
end Mt
namespace Mt
open PySem PySem.Spec PyProof.Rows L2 L2H
section
variable {P : Program} {w : World} {K : PySem.W.Frag} {mg : Str → Option Value} {base : Heap} {f : Addr} {fd : FuncData} {A : Ad} {tk : Nat → Tok}
theorem ok_law_is_int (F : Fun K "_law_is_int" "_law_is_int" s_law_is_int f fd) (Tx : Txt K mg A tk)  :
    FnOk P w K mg base CX0 1 f fd ["value"] (SpU A 1 c_law_is_int) := by
  refine F.ok sc_law_is_int (fun vs H Q E h => h.len) (fun cdv Ar outer s H vs Q E hr h => ?_)
  obtain ⟨st, P0, ds, k, XA, h1, h2, h3, hc, h5, h6⟩ := h
  refine ⟨_, (pss_one (ps_ret (pe_and (pe_callB call_isH (by rfl) Tx.m_isinstance (by decide +kernel) (pa_cons (pv 0) (pa_cons (pe_bltn (v := .ty "int") (u := .type "int") (by rfl) Tx.m_int (by decide +kernel) rel_ty) pa_nil))) (pe_one (pe_not (pe_callB call_isH (by rfl) Tx.m_isinstance (by decide +kernel) (pa_cons (pv 0) (pa_cons (pe_bltn (v := .ty "bool") (u := .type "bool") (by rfl) Tx.m_bool (by decide +kernel) rel_ty) pa_nil)))))))), ?_⟩
  refine run0 (A := A) (ms := ?ms) (XA := XA) h1 h2 h5 ?r ?u
  case r => exact (rs_ret (re_andV (re_cb rcb_is1 (ra_cons re_var (ra_cons re_ty ra_nil))) (re_notV (re_cb rcb_is1 (ra_cons re_var (ra_cons re_ty ra_nil))))))
  case u =>
    clear h1 h2 h5 h6 hr
    obtain ⟨v, n, rfl, hv, hk⟩ := hc
    cases v with
    | ty _ => cases hv
    | sto => cases hv
    | kc _ => cases hv
    | fi _ => cases hv
    | obj _ _ _ => cases hv
    | _ =>
      (simp! only [])
      exact hk
end
end Mt
namespace Mt
open PySem PySem.Spec PyProof.Rows L2 L2H
section
variable {P : Program} {w : World} {K : PySem.W.Frag} {mg : Str → Option Value} {base : Heap} {f : Addr} {fd : FuncData} {A : Ad} {tk : Nat → Tok}
theorem ok_same_step (F : Fun K "_law_same" "_law_same" s_law_same f fd) (Tx : Txt K mg A tk) (j n : Nat) (C_law_same : Cal P w K mg base "_law_same" j ["left", "right"] (SpU A 2 (fun ds k XA => ∃ m, m < n ∧ c_law_same m ds k XA))) :
    FnOk P w K mg base CX0 (j + 1) f fd ["left", "right"] (SpU A 2 (c_law_same n)) := by
  refine F.ok sc_law_same (fun vs H Q E h => h.len) (fun cdv Ar outer s H vs Q E hr h => ?_)
  obtain ⟨st, P0, ds, k, XA, h1, h2, h3, hc, h5, h6⟩ := h
  refine ⟨_, (pss_cons (ps_if (PW.pt (pw_or (pt_cmpR op_isNH (pv 0) pe_non (nomark _)) (pw_or1 (pt_cmpR op_isNH (pv 1) pe_non (nomark _))))) (pss_one (ps_ret (pe_and (pe_cmpR op_isNH (pv 0) pe_non (nomark _)) (pe_one (pe_cmpR op_isNH (pv 1) pe_non (nomark _)))))) pss_nil)
      (pss_cons (ps_if (PW.pt (pw_or (pt_val (pe_callB call_isH (by rfl) Tx.m_isinstance (by decide +kernel) (pa_cons (pv 0) (pa_cons (pe_bltn (v := .ty "bool") (u := .type "bool") (by rfl) Tx.m_bool (by decide +kernel) rel_ty) pa_nil)))) (pw_or1 (pt_val (pe_callB call_isH (by rfl) Tx.m_isinstance (by decide +kernel) (pa_cons (pv 1) (pa_cons (pe_bltn (v := .ty "bool") (u := .type "bool") (by rfl) Tx.m_bool (by decide +kernel) rel_ty) pa_nil))))))) (pss_one (ps_ret (pe_and (pe_callB call_isH (by rfl) Tx.m_isinstance (by decide +kernel) (pa_cons (pv 0) (pa_cons (pe_bltn (v := .ty "bool") (u := .type "bool") (by rfl) Tx.m_bool (by decide +kernel) rel_ty) pa_nil))) (pe_and (pe_callB call_isH (by rfl) Tx.m_isinstance (by decide +kernel) (pa_cons (pv 1) (pa_cons (pe_bltn (v := .ty "bool") (u := .type "bool") (by rfl) Tx.m_bool (by decide +kernel) rel_ty) pa_nil))) (pe_one (pe_cmpR op_eq (pv 0) (pv 1) (nomark _))))))) pss_nil)
      (pss_cons (ps_if (PW.pt (pw_or (pt_val (pe_callB call_isH (by rfl) Tx.m_isinstance (by decide +kernel) (pa_cons (pv 0) (pa_cons (pe_bltn (v := .ty "int") (u := .type "int") (by rfl) Tx.m_int (by decide +kernel) rel_ty) pa_nil)))) (pw_or1 (pt_val (pe_callB call_isH (by rfl) Tx.m_isinstance (by decide +kernel) (pa_cons (pv 1) (pa_cons (pe_bltn (v := .ty "int") (u := .type "int") (by rfl) Tx.m_int (by decide +kernel) rel_ty) pa_nil))))))) (pss_one (ps_ret (pe_and (pe_callB call_isH (by rfl) Tx.m_isinstance (by decide +kernel) (pa_cons (pv 0) (pa_cons (pe_bltn (v := .ty "int") (u := .type "int") (by rfl) Tx.m_int (by decide +kernel) rel_ty) pa_nil))) (pe_and (pe_callB call_isH (by rfl) Tx.m_isinstance (by decide +kernel) (pa_cons (pv 1) (pa_cons (pe_bltn (v := .ty "int") (u := .type "int") (by rfl) Tx.m_int (by decide +kernel) rel_ty) pa_nil))) (pe_one (pe_cmpR op_eq (pv 0) (pv 1) (nomark _))))))) pss_nil)
      (pss_cons (ps_if (PW.pt (pw_or (pt_val (pe_callB call_isH (by rfl) Tx.m_isinstance (by decide +kernel) (pa_cons (pv 0) (pa_cons (pe_bltn (v := .ty "str") (u := .type "str") (by rfl) Tx.m_str (by decide +kernel) rel_ty) pa_nil)))) (pw_or1 (pt_val (pe_callB call_isH (by rfl) Tx.m_isinstance (by decide +kernel) (pa_cons (pv 1) (pa_cons (pe_bltn (v := .ty "str") (u := .type "str") (by rfl) Tx.m_str (by decide +kernel) rel_ty) pa_nil))))))) (pss_one (ps_ret (pe_and (pe_callB call_isH (by rfl) Tx.m_isinstance (by decide +kernel) (pa_cons (pv 0) (pa_cons (pe_bltn (v := .ty "str") (u := .type "str") (by rfl) Tx.m_str (by decide +kernel) rel_ty) pa_nil))) (pe_and (pe_callB call_isH (by rfl) Tx.m_isinstance (by decide +kernel) (pa_cons (pv 1) (pa_cons (pe_bltn (v := .ty "str") (u := .type "str") (by rfl) Tx.m_str (by decide +kernel) rel_ty) pa_nil))) (pe_one (pe_cmpR op_eq (pv 0) (pv 1) (nomark _))))))) pss_nil)
      (pss_cons (ps_if (PW.pt (pw_or (pt_cmpR op_ne (pe_callB call_isH (by rfl) Tx.m_isinstance (by decide +kernel) (pa_cons (pv 0) (pa_cons (pe_bltn (v := .ty "list") (u := .type "list") (by rfl) Tx.m_list (by decide +kernel) rel_ty) pa_nil))) (pe_callB call_isH (by rfl) Tx.m_isinstance (by decide +kernel) (pa_cons (pv 1) (pa_cons (pe_bltn (v := .ty "list") (u := .type "list") (by rfl) Tx.m_list (by decide +kernel) rel_ty) pa_nil))) (nomark _)) (pw_or1 (pt_cmpR op_ne (pe_callB call_isH (by rfl) Tx.m_isinstance (by decide +kernel) (pa_cons (pv 0) (pa_cons (pe_bltn (v := .ty "tuple") (u := .type "tuple") (by rfl) Tx.m_tuple (by decide +kernel) rel_ty) pa_nil))) (pe_callB call_isH (by rfl) Tx.m_isinstance (by decide +kernel) (pa_cons (pv 1) (pa_cons (pe_bltn (v := .ty "tuple") (u := .type "tuple") (by rfl) Tx.m_tuple (by decide +kernel) rel_ty) pa_nil))) (nomark _))))) (pss_one (ps_ret pe_bl)) pss_nil)
      (pss_cons (ps_if (PW.pt (pw_or (pt_not (pt_val (pe_callB call_isTH (by rfl) Tx.m_isinstance (by decide +kernel) (pa_cons (pv 0) (pa_cons (pe_tup (pa_cons (pe_bltn (v := .ty "list") (u := .type "list") (by rfl) Tx.m_list (by decide +kernel) rel_ty) (pa_cons (pe_bltn (v := .ty "tuple") (u := .type "tuple") (by rfl) Tx.m_tuple (by decide +kernel) rel_ty) pa_nil))) pa_nil))))) (pw_or1 (pt_cmpR op_ne (pe_callB call_lenH (by rfl) Tx.m_len (by decide +kernel) (pa_cons (pv 0) pa_nil)) (pe_callB call_lenH (by rfl) Tx.m_len (by decide +kernel) (pa_cons (pv 1) pa_nil)) (nomark _))))) (pss_one (ps_ret pe_bl)) pss_nil)
      (pss_cons (ps_for PassesOwn.never rfl (pi_range1 (by rfl) Tx.m_range (pa_cons (pe_callB call_lenH (by rfl) Tx.m_len (by decide +kernel) (pa_cons (pv 0) pa_nil)) pa_nil)) (pg_name (i := 2) sc_law_same.nd rfl (.inl rfl)) (pss_one (ps_if (pt_not (pt_val (p_call C_law_same hr (pa_cons (pe_ix ix_H (pv 0) (pv 2) (fun _ _ => rfl)) (pa_cons (pe_ix ix_H (pv 1) (pv 2) (fun _ _ => rfl)) pa_nil)) (by omega)))) (pss_one (ps_ret pe_bl)) pss_nil)))
      (pss_one (ps_ret pe_bl))))))))), ?_⟩
  refine run0 (A := A) (ms := ?ms) (XA := XA) h1 h2 h5 ?r ?u
  case r => exact (rs_seq (rs_if (rt_or (rt_test (re_op ro_isN re_var re_non)) (rt_test (re_op ro_isN re_var re_non))) (rs_ret (re_andV (re_op ro_isN re_var re_non) (re_op ro_isN re_var re_non))) rs_next)
      (rs_seq (rs_if (rt_or (rt_B (re_cb rcb_is1 (ra_cons re_var (ra_cons re_ty ra_nil)))) (rt_B (re_cb rcb_is1 (ra_cons re_var (ra_cons re_ty ra_nil))))) (rs_ret (re_andV (re_cb rcb_is1 (ra_cons re_var (ra_cons re_ty ra_nil))) (re_andV (re_cb rcb_is1 (ra_cons re_var (ra_cons re_ty ra_nil))) (re_op ro_eq re_var re_var)))) rs_next)
      (rs_seq (rs_if (rt_or (rt_B (re_cb rcb_is1 (ra_cons re_var (ra_cons re_ty ra_nil)))) (rt_B (re_cb rcb_is1 (ra_cons re_var (ra_cons re_ty ra_nil))))) (rs_ret (re_andV (re_cb rcb_is1 (ra_cons re_var (ra_cons re_ty ra_nil))) (re_andV (re_cb rcb_is1 (ra_cons re_var (ra_cons re_ty ra_nil))) (re_op ro_eq re_var re_var)))) rs_next)
      (rs_seq (rs_if (rt_or (rt_B (re_cb rcb_is1 (ra_cons re_var (ra_cons re_ty ra_nil)))) (rt_B (re_cb rcb_is1 (ra_cons re_var (ra_cons re_ty ra_nil))))) (rs_ret (re_andV (re_cb rcb_is1 (ra_cons re_var (ra_cons re_ty ra_nil))) (re_andV (re_cb rcb_is1 (ra_cons re_var (ra_cons re_ty ra_nil))) (re_op ro_eq re_var re_var)))) rs_next)
      (rs_seq (rs_if (rt_or (rt_test (re_op ro_ne (re_cb rcb_is1 (ra_cons re_var (ra_cons re_ty ra_nil))) (re_cb rcb_is1 (ra_cons re_var (ra_cons re_ty ra_nil))))) (rt_test (re_op ro_ne (re_cb rcb_is1 (ra_cons re_var (ra_cons re_ty ra_nil))) (re_cb rcb_is1 (ra_cons re_var (ra_cons re_ty ra_nil)))))) (rs_ret re_bl) rs_next)
      (rs_seq (rs_if (rt_or (rt_not (rt_B (re_cb rcb_is2 (ra_cons re_var (ra_cons (re_tup (ra_cons re_ty (ra_cons re_ty ra_nil))) ra_nil))))) (rt_test (re_op ro_ne (re_cb rcb_len (ra_cons re_var ra_nil)) (re_cb rcb_len (ra_cons re_var ra_nil))))) (rs_ret re_bl) rs_next)
      (rs_seq (rs_for (ri_rng1 (ra_cons (re_cb rcb_len (ra_cons re_var ra_nil)) ra_nil)) rg_name (rs_if (rt_not (rt_B (re_call (ra_cons (re_op ro_ix re_var re_var) (ra_cons (re_op ro_ix re_var re_var) ra_nil))))) (rs_ret re_bl) rs_next))
      (rs_ret re_bl))))))))
  case u =>
    clear h1 h2 h5 h6 hr
    obtain ⟨a, b, rfl, oa, ob, hk⟩ := hc
    have loop : ∀ (n' : Nat) (as bs : List T) (x y : T) (z : Option Sl), n = n' + 1 → itemsOf x = some as → itemsOf y = some bs → okTs n' as = true → okTs 19 bs = true → as.length = bs.length → as.length < 1000000 → k (.bl (sameTs as bs)) → forInv (mgName 2)
        (mIfS (mNot (mTest (mCall 2 (fun ds k XA => ∃ m, m < n ∧ c_law_same m ds k XA) (mCons (mOp oIx (mVar 0) (mVar 2)) (mCons (mOp oIx (mVar 1) (mVar 2)) mNil))))) (mRet (mC (T.bl false))) mNext)
        { nx := fun env' => k (T.bl true), rt := k, xr := fun _ => XA } (rngT 0 as.length) [some (Sl.d x), some (Sl.d y), z] := by
      intro n' as bs x y z en ix iy ha hb hl hz hk
      refine ⟨fun i env => ∃ z, env = [some (Sl.d x), some (Sl.d y), z] ∧ i ≤ as.length ∧ sameTs as bs = sameTs (as.drop i) (bs.drop i), ⟨z, rfl, Nat.zero_le _, rfl⟩, ?_, ?_⟩
      · rintro i w env hw ⟨z, rfl, _, hs⟩
        obtain ⟨hi, rfl⟩ := rng_at hw
        have ea : as[i]? = some as[i] := List.getElem?_eq_getElem hi
        have eb : bs[i]? = some (bs[i]'(by omega)) := List.getElem?_eq_getElem (by omega)
        rw [Int.zero_add]
        (simp! only [ix, iy])
        refine ⟨_, atI_nat ea, _, atI_nat eb, n', by omega, _, _, rfl, okTs_at ha ea, ?_, ?_⟩
        · have := okTs_at hb eb
          exact okT_up this
        · (simp! only [])
          rw [List.drop_eq_getElem_cons hi, List.drop_eq_getElem_cons (by omega : i < bs.length)] at hs
          simp only [sameTs] at hs
          cases q : sameT as[i] (bs[i]'(by omega)) with
          | true =>
            rw [q, Bool.true_and] at hs
            rw [if_neg (by decide)]
            exact ⟨_, rfl, hi, hs⟩
          | false =>
            rw [q, Bool.false_and] at hs
            rw [if_pos rfl]
            rw [hs] at hk
            exact hk
      · rintro env ⟨z, rfl, _, hs⟩
        rw [rngT_len, List.drop_length] at hs
        rw [List.drop_eq_nil_of_le (by omega)] at hs
        simp only [sameTs] at hs
        rw [hs] at hk
        exact hk
    have ln : ∀ (as bs : List T) (x y : T) (n' : Nat), n = n' + 1 → itemsOf x = some as → itemsOf y = some bs → okTs n' as = true → okTs 19 bs = true → as.length < 1000000 → k (.bl (sameTs as bs)) → if ¬ (as.length : Int) = bs.length then k (.bl false) else as.length < 1000000 → (as.length : Int) < 1000000 ∧ -1000000 < (as.length : Int) ∧ forInv (mgName 2)
        (mIfS (mNot (mTest (mCall 2 (fun ds k XA => ∃ m, m < n ∧ c_law_same m ds k XA) (mCons (mOp oIx (mVar 0) (mVar 2)) (mCons (mOp oIx (mVar 1) (mVar 2)) mNil))))) (mRet (mC (T.bl false))) mNext)
        { nx := fun env' => k (T.bl true), rt := k, xr := fun _ => XA } (rngT 0 as.length) [some (Sl.d x), some (Sl.d y), none] := by
      intro as bs x y n' en ix iy oa ob hz hk
      refine ite2 (fun z => ?_) (fun z _ => ⟨by omega, by omega, loop n' as bs x y none en ix iy oa ob (by omega) hz hk⟩)
      rw [sameTs_len (by omega)] at hk
      exact hk
    cases a with
    | ty _ => cases n <;> simp [okT] at oa
    | sto => cases n <;> simp [okT] at oa
    | kc _ => cases n <;> simp [okT] at oa
    | fi _ => cases n <;> simp [okT] at oa
    | obj _ _ _ => cases n <;> simp [okT] at oa
    | lst as =>
      cases b with
      | ty _ => simp [okT] at ob
      | sto => simp [okT] at ob
      | kc _ => simp [okT] at ob
      | fi _ => simp [okT] at ob
      | obj _ _ _ => simp [okT] at ob
      | lst bs =>
        simp only [sameT] at hk
        (simp! only [])
        cases n with
        | zero => simp [okT] at oa
        | succ n' =>
          simp only [okT] at oa ob
          exact fun h1 h2 => ln as bs (.lst as) (.lst bs) n' rfl rfl rfl oa ob h1 hk
      | _ =>
        simp only [sameT] at hk
        first | exact hk | ((simp! only []); exact hk)
    | tup as =>
      cases b with
      | ty _ => simp [okT] at ob
      | sto => simp [okT] at ob
      | kc _ => simp [okT] at ob
      | fi _ => simp [okT] at ob
      | obj _ _ _ => simp [okT] at ob
      | tup bs =>
        simp only [sameT] at hk
        (simp! only [])
        cases n with
        | zero => simp [okT] at oa
        | succ n' =>
          simp only [okT] at oa ob
          exact fun h1 h2 => ln as bs (.tup as) (.tup bs) n' rfl rfl rfl oa ob h1 hk
      | _ =>
        simp only [sameT] at hk
        first | exact hk | ((simp! only []); exact hk)
    | _ =>
      cases b with
      | ty _ => simp [okT] at ob
      | sto => simp [okT] at ob
      | kc _ => simp [okT] at ob
      | fi _ => simp [okT] at ob
      | obj _ _ _ => simp [okT] at ob
      | _ =>
        simp only [sameT] at hk
        first | exact hk | ((simp! only []); exact hk)
theorem ok_same (F : Fun K "_law_same" "_law_same" s_law_same f fd) (Tx : Txt K mg A tk) (gm : mg "_law_same" = some (.ref f)) (b : Binds K fd ["left", "right"] []) : ∀ n : Nat, FnOk P w K mg base CX0 (n + 1) f fd ["left", "right"] (SpU A 2 (c_law_same n))
  | 0 => ok_same_step F Tx 0 0 ⟨f, fd, ⟨fun vs H Q E h => by
      obtain ⟨_, _, _, _, _, _, _, _, ⟨m, h, _⟩, _⟩ := h
      exact absurd h (Nat.not_lt_zero _), fun A outer s H args us vs Q E _ _ _ _ h => by
      obtain ⟨_, _, _, _, _, _, _, _, ⟨m, h, _⟩, _⟩ := h
      exact absurd h (Nat.not_lt_zero _)⟩, gm, F.kp, b⟩
  | n + 1 => ok_same_step F Tx (n + 1) (n + 1) ⟨f, fd, (ok_same F Tx gm b n).imp fun vs H Q E h => by
      obtain ⟨s, P, ds, k, XA, h1, h2, h3, ⟨m, hm, a, b, e, oa, ob, hk⟩, h5⟩ := h
      exact ⟨s, P, ds, k, XA, h1, h2, h3, ⟨a, b, e, okT_le oa (by omega), ob, hk⟩, h5⟩, gm, F.kp, b⟩
end
end Mt
namespace Mt
open PySem PySem.Spec PyProof.Rows L2 L2H
section
variable {P : Program} {w : World} {K : PySem.W.Frag} {mg : Str → Option Value} {base : Heap} {f : Addr} {fd : FuncData} {A : Ad} {tk : Nat → Tok}
theorem ok_copy_step (F : Fun K "_law_copy" "_law_copy" s_law_copy f fd) (Tx : Txt K mg A tk) (j n : Nat) (C_law_copy : Cal P w K mg base "_law_copy" j ["value"] (SpF A 1 (fun ds k XA => ∃ m, m < n ∧ c_law_copy m ds k XA))) :
    FnOk P w K mg base CX0 (j + 1) f fd ["value"] (SpF A 1 (c_law_copy n)) := by
  refine F.ok sc_law_copy (fun vs H Q E h => h.len) (fun cdv Ar outer s H vs Q E hr h => ?_)
  obtain ⟨st, P0, ds, k, XA, h1, h2, h3, hc, h5, h6⟩ := h
  refine ⟨_, (pss_cons (ps_if (pt_val (pe_callB call_isH (by rfl) Tx.m_isinstance (by decide +kernel) (pa_cons (pv 0) (pa_cons (pe_bltn (v := .ty "list") (u := .type "list") (by rfl) Tx.m_list (by decide +kernel) rel_ty) pa_nil)))) (pss_one (ps_ret (pe_lc (own := [("part", 1)]) (g := gName 1) rfl sc_law_copy.nd (pi_list (pv 0)) (blkOk_by (N := ["value", "part"]) (sc := defScope s_law_copy) (by decide +kernel)) (fun _ _ _ _ _ => pg_name (i := 1) sc_law_copy.nd rfl (.inl rfl)) (fun _ _ _ _ _ => pts_nil) (fun _ _ _ _ _ => (p_call C_law_copy hr (pa_cons (pv 1) pa_nil) (by omega)))))) pss_nil)
      (pss_cons (ps_if (pt_val (pe_callB call_isH (by rfl) Tx.m_isinstance (by decide +kernel) (pa_cons (pv 0) (pa_cons (pe_bltn (v := .ty "tuple") (u := .type "tuple") (by rfl) Tx.m_tuple (by decide +kernel) rel_ty) pa_nil)))) (pss_one (ps_ret (pe_callTy call_tupOf (by rfl) Tx.m_tuple (by decide +kernel) (pa_cons (pe_lc (own := [("part", 1)]) (g := gName 1) rfl sc_law_copy.nd (pi_tup (pv 0)) (blkOk_by (N := ["value", "part"]) (sc := defScope s_law_copy) (by decide +kernel)) (fun _ _ _ _ _ => pg_name (i := 1) sc_law_copy.nd rfl (.inl rfl)) (fun _ _ _ _ _ => pts_nil) (fun _ _ _ _ _ => (p_call C_law_copy hr (pa_cons (pv 1) pa_nil) (by omega)))) pa_nil)))) pss_nil)
      (pss_one (ps_ret (pv 0))))), ?_⟩
  refine runF0 (A := A) (ms := ?ms) (XA := XA) h1 h2 h5 ?r ?u
  case r => exact (rs_seq (rs_if (rt_B (re_cb rcb_is1 (ra_cons re_var (ra_cons re_ty ra_nil)))) (rs_retT (rot_lc (vs := [1]) (is := [1]) ric_var rg_name rt_yes (rot_call (ra_cons re_var ra_nil)))) rs_next)
      (rs_seq (rs_if (rt_B (re_cb rcb_is1 (ra_cons re_var (ra_cons re_ty ra_nil)))) (rs_retT (rot_tupOf (rot_lc (vs := [1]) (is := [1]) (ric_of (ri_tup re_var)) rg_name rt_yes (rot_call (ra_cons re_var ra_nil))))) rs_next)
      (rs_ret re_var)))
  case u =>
    clear h1 h2 h5 h6 hr
    obtain ⟨v, rfl, ov, hk⟩ := hc
    have turn : ∀ (n' : Nat) (es : List T) (k' : List OT → Prop), n = n' + 1 → okTs n' es = true → k' (toOs es) → lcInvT (lcTurnT (mgName 1) mYes (mCallF 1 (fun ds k XA => ∃ m, m < n ∧ c_law_copy m ds k XA) (mCons (mVar 1) mNil)) XA [some (Sl.d v), none]) es k' := by
      intro n' es k' en oe hk
      refine lct_map T.toO (fun x r hm hr => ?_) (by rw [← toOs_map]; exact hk)
      obtain ⟨i, hi⟩ := List.getElem?_of_mem hm
      (simp! only [])
      exact ⟨n', by omega, x, rfl, okTs_at oe hi, hr⟩
    cases v with
    | ty _ => cases n <;> simp [okT] at ov
    | sto => cases n <;> simp [okT] at ov
    | kc _ => cases n <;> simp [okT] at ov
    | fi _ => cases n <;> simp [okT] at ov
    | obj _ _ _ => cases n <;> simp [okT] at ov
    | lst es =>
      cases n with
      | zero => simp [okT] at ov
      | succ n' =>
        simp only [okT] at ov
        rw [T.toO] at hk
        (simp! only [])
        exact ⟨es, Or.inr rfl, turn n' es _ rfl ov hk⟩
    | tup es =>
      cases n with
      | zero => simp [okT] at ov
      | succ n' =>
        simp only [okT] at ov
        rw [T.toO] at hk
        (simp! only [])
        exact turn n' es _ rfl ov hk
    | _ =>
      (simp! only [])
      exact hk
theorem ok_copy (F : Fun K "_law_copy" "_law_copy" s_law_copy f fd) (Tx : Txt K mg A tk) (gm : mg "_law_copy" = some (.ref f)) (b : Binds K fd ["value"] []) : ∀ n : Nat, FnOk P w K mg base CX0 (n + 1) f fd ["value"] (SpF A 1 (c_law_copy n))
  | 0 => ok_copy_step F Tx 0 0 ⟨f, fd, ⟨fun vs H Q E h => by
      obtain ⟨_, _, _, _, _, _, _, _, ⟨m, h, _⟩, _⟩ := h
      exact absurd h (Nat.not_lt_zero _), fun A outer s H args us vs Q E _ _ _ _ h => by
      obtain ⟨_, _, _, _, _, _, _, _, ⟨m, h, _⟩, _⟩ := h
      exact absurd h (Nat.not_lt_zero _)⟩, gm, F.kp, b⟩
  | n + 1 => ok_copy_step F Tx (n + 1) (n + 1) ⟨f, fd, (ok_copy F Tx gm b n).imp fun vs H Q E h => by
      obtain ⟨s, P, ds, k, XA, h1, h2, h3, ⟨m, hm, v, e, ov, hk⟩, h5⟩ := h
      exact ⟨s, P, ds, k, XA, h1, h2, h3, ⟨v, e, okT_le ov (by omega), hk⟩, h5⟩, gm, F.kp, b⟩
end
end Mt
namespace Mt
open PySem PySem.Spec PyProof.Rows L2 L2H
open Ap
section
variable {P : Program} {w : World} {K : PySem.W.Frag} {mg : Str → Option Value} {base : Heap} {f : Addr} {fd : FuncData} {A : Ad} {tk : Nat → Tok}
theorem ok_lists_step (F : Fun K "_law_lists" "_law_lists" s_law_lists f fd) (Tx : Txt K mg A tk) (k n : Nat) (C_law_lists : Cal P w K mg base "_law_lists" k ["value", "depth"] (sp_lists' n)) :
    FnOk P w K mg base CX0 (k + 1) f fd ["value", "depth"] (sp_lists n) := by
  refine F.ok sc_law_lists (fun vs H Q E h => ?_) (fun cdv Ar outer s H vs Q E hr h => ?_)
  · obtain ⟨d, v, as, k, rfl, _⟩ := h
    rfl
  · obtain ⟨d, v, as, dp, rfl, hd, hk, hk2, hv, hz, q⟩ := h
    refine ⟨_, (pss_cons (ps_set (i := 2) sc_law_lists.nd rfl (.inl rfl) (pe_lst pa_nil))
      (pss_cons (ps_if (PW.pt (pw_and (pt_cmpR op_gt (pv 1) pe_int (nomark _)) (pw_and1 (pt_val (pe_callB call_isH (by rfl) Tx.m_isinstance (by decide +kernel) (pa_cons (pv 0) (pa_cons (pe_bltn (v := .ty "list") (u := .type "list") (by rfl) Tx.m_list (by decide +kernel) rel_ty) pa_nil))))))) (pss_one (ps_expr (pe_bm PySem.F.plainAttrs_list PySem.F.slot_list_append PySem.F.type_list_append mt_append (pv 2) (pa_cons (pv 0) pa_nil)))) pss_nil)
      (pss_cons (ps_if (PW.pt (pw_and (pt_cmpR op_gt (pv 1) pe_int (nomark _)) (pw_and1 (pt_val (pe_callB call_isTH (by rfl) Tx.m_isinstance (by decide +kernel) (pa_cons (pv 0) (pa_cons (pe_tup (pa_cons (pe_bltn (v := .ty "list") (u := .type "list") (by rfl) Tx.m_list (by decide +kernel) rel_ty) (pa_cons (pe_bltn (v := .ty "tuple") (u := .type "tuple") (by rfl) Tx.m_tuple (by decide +kernel) rel_ty) pa_nil))) pa_nil))))))) (pss_one (ps_for PassesOwn.never rfl (Ap.pi_seq (pv 0)) (pg_name (i := 3) sc_law_lists.nd rfl (.inl rfl)) (pss_one (ps_set (i := 2) sc_law_lists.nd rfl (.inl rfl) (pe_op op_cat (pv 2) (p_call C_law_lists hr (pa_cons (pv 3) (pa_cons (pe_op op_sub (pv 1) pe_int) pa_nil)) (by omega))))))) pss_nil)
      (pss_one (ps_ret (pv 2)))))), ?_⟩
    have dp0 : 0 < dp := by omega
    have loop : ∀ (a : Addr) (va : List V) (ds : List D) (bs pre : List Addr) (p0 : Addr) (H1 : Hp), deps ds < n → Same H H1 → H p0 = none → H1 p0 = some (.lst (pre.map V.ref)) → (H1 a = some (.lst va) ∨ H1 a = some (.tup va)) → Reps H1 ds va bs → (pre ++ bs).length < 100000 →
        (∀ p H', Same H H' → H p = none → H' p = some (.lst ((pre ++ bs).map V.ref)) → Q (.ref p) H') →
        tFor (iSeq K (tVar 0)) (gName 3) (tAsg (tOp rCat (tVar 2) (tCall (sp_lists' n) [] E0 (tCons (tVar 3) (tCons (tOp (rI0 fun i j => V.int (i - j)) (tVar 1) (tC (V.int 1))) tNil)))) (gName 2)) { nx := tRet (tVar 2) { nx := fun x H' => Q V.non H', rt := Q }, rt := Q } [some (V.ref a), some (V.int dp), some (V.ref p0), none] H1 := by
      intro a va ds bs pre p0 H1 hn s1 np0 ep0 ea rs hz q
      have step : ∀ (i : Nat) (x : V) (σ : L2.St) (H2 : Hp), va[i]? = some x → (∃ (p : Addr) (z : Option V) (b1 b3 : List Addr), σ = [some (.ref a), some (.int dp), some (.ref p), z] ∧ Same H1 H2 ∧ H2 p = some (.lst ((pre ++ b1).map V.ref)) ∧ H p = none ∧ bs = b1 ++ b3 ∧ Reps H1 (ds.drop i) (va.drop i) b3) →
          gName 3 x σ H2 fun σ2 H3 => tAsg (tOp rCat (tVar 2) (tCall (sp_lists' n) [] E0 (tCons (tVar 3) (tCons (tOp (rI0 fun i j => V.int (i - j)) (tVar 1) (tC (V.int 1))) tNil)))) (gName 2) { nx := fun σ H2 => ∃ (p : Addr) (z : Option V) (b1 b3 : List Addr), σ = [some (.ref a), some (.int dp), some (.ref p), z] ∧ Same H1 H2 ∧ H2 p = some (.lst ((pre ++ b1).map V.ref)) ∧ H p = none ∧ bs = b1 ++ b3 ∧ Reps H1 (ds.drop (i + 1)) (va.drop (i + 1)) b3, ct := fun σ H2 => ∃ (p : Addr) (z : Option V) (b1 b3 : List Addr), σ = [some (.ref a), some (.int dp), some (.ref p), z] ∧ Same H1 H2 ∧ H2 p = some (.lst ((pre ++ b1).map V.ref)) ∧ H p = none ∧ bs = b1 ++ b3 ∧ Reps H1 (ds.drop (i + 1)) (va.drop (i + 1)) b3, bk := tRet (tVar 2) { nx := fun x H' => Q V.non H', rt := Q }, rt := Q } σ2 H3 := by
        rintro i x σ H2 hx ⟨p, z, b1, b3, rfl, s2, ep, np, rfl, r3⟩
        cases hD : ds.drop i with
        | nil =>
          have l1 := reps_len r3
          rw [hD, List.length_drop] at l1
          have := (List.getElem?_eq_some_iff.mp hx).1
          simp at l1
          omega
        | cons d rest =>
          have hd : ds[i]? = some d := by
            have e : (ds.drop i)[0]? = some d := by rw [hD]; rfl
            rw [List.getElem?_drop] at e
            exact e
          have hr : ds.drop (i + 1) = rest := by
            rw [List.drop_add_one_eq_tail_drop, hD]
            rfl
          rw [hD] at r3
          simp only [Reps] at r3
          obtain ⟨v, vr, b2, b4, e1, e2, e3, rfl⟩ := r3
          have hv : va[i]? = some v := by
            have e : (va.drop i)[0]? = some v := by rw [e1]; rfl
            rw [List.getElem?_drop] at e
            exact e
          rw [hx] at hv
          cases hv
          have hvr : va.drop (i + 1) = vr := by
            rw [List.drop_add_one_eq_tail_drop, e1]
            rfl
          simp only [w_seq, w_next, w_ret, w_asg, w_ifs, w_drop, w_brk, w_cont, w_name, w_var, w_c, w_op, w_un, w_I, w_I0, w_U, w_eq, w_scII, w_scBB, w_scSS, w_scNN, w_zi, w_zb, w_zn, w_zs, V.int.injEq, V.bl.injEq, V.str.injEq, V.ref.injEq, w_ne, w_test, w_B, w_and, w_or, w_not, w_andV, w_orV, w_notV, w_if, w_isN, w_nil, w_cons, w_cb, w_call, w_tup, w_lst, w_sub, w_intI, w_intB, w_isTyH, w_typ, w_isH, w_ixH, w_lenH, w_absH, w_listH, w_strH, w_bm, w_chain, w_exB, w_exV, w_start, k_ii, k_ib, k_is, k_il, k_it, k_bi, k_bb, k_bs, k_bl, k_bt, k_ni, k_nb, k_ns, k_nl, k_nt, k_si, k_sb, k_ss, k_sl, k_st, k_li, k_lb, k_ls, k_ll, k_lt, k_ti, k_tb, k_ts, k_tl, k_tt, w_st1, w_st2, w_st3, w_st5, atI_s0, atI_s1, atI_s2, atI_s3, atI_s4, atI_s5, List.map_cons, List.map_nil, List.length_cons, List.length_nil, List.replicate, List.cons_append, List.nil_append, List.append_nil, List.getElem?_cons_zero, List.getElem?_cons_succ, List.set_cons_zero, List.set_cons_succ, Nat.sub_self, Nat.reduceAdd, Nat.reduceSub, List.replicate_zero, decide_eq_true_eq, Bool.true_eq_false, Bool.false_eq_true, if_true, if_false, reduceIte, Bool.not_eq_true', decide_eq_false_iff_not, Bool.not_true, Bool.not_false, exists_eq_left', true_and, and_true, Option.some.injEq, reduceCtorEq, decide_true, decide_false, not_true_eq_false, not_false_eq_true, sizeLine_eq, Nat.reduceLeDiff, Bool.or_false, Bool.or_true, Bool.false_or, Bool.true_or, wp1, wp2, w_par, w_par2, w_tsl, w_nopart, w_part, w_exI]
          simp only [List.length_append] at hz
          refine ⟨d, x, b2, dp - 1, rfl, Nat.lt_of_le_of_lt (deps_at hd) hn, by omega, by omega, rep_same s2 e2, by omega, fun p2 H3 s3 np2 ep2 => ?_⟩
          have s3' : Same H1 H3 := s2.trans s3
          show rCat (.ref p) (.ref p2) H3 _
          rw [w_cat (s3 _ _ ep) ep2]
          refine ⟨by rw [List.length_map, List.length_map, List.length_append, sizeLine_eq]; omega, fun p4 hp4 => ?_⟩
          refine ⟨p4, _, b1 ++ b2, b4, rfl, s3'.trans (same_new hp4), ?_, (s1.trans s3').free hp4, by rw [List.append_assoc], ?_⟩
          · rw [upd_same, ← List.map_append, List.append_assoc]
          · rw [hr, hvr]
            exact e3
      have fin : ∀ (σ : L2.St) (H2 : Hp), (∃ (p : Addr) (z : Option V) (b1 b3 : List Addr), σ = [some (.ref a), some (.int dp), some (.ref p), z] ∧ Same H1 H2 ∧ H2 p = some (.lst ((pre ++ b1).map V.ref)) ∧ H p = none ∧ bs = b1 ++ b3 ∧ Reps H1 (ds.drop va.length) (va.drop va.length) b3) → tRet (tVar 2) { nx := fun x H' => Q V.non H', rt := Q } σ H2 := by
        rintro σ H2 ⟨p, z, b1, b3, rfl, s2, ep, np, rfl, r3⟩
        rw [reps_len rs, List.drop_length] at r3
        simp only [Reps] at r3
        obtain ⟨_, rfl⟩ := r3
        simp only [w_seq, w_next, w_ret, w_asg, w_ifs, w_drop, w_brk, w_cont, w_name, w_var, w_c, w_op, w_un, w_I, w_I0, w_U, w_eq, w_scII, w_scBB, w_scSS, w_scNN, w_zi, w_zb, w_zn, w_zs, V.int.injEq, V.bl.injEq, V.str.injEq, V.ref.injEq, w_ne, w_test, w_B, w_and, w_or, w_not, w_andV, w_orV, w_notV, w_if, w_isN, w_nil, w_cons, w_cb, w_call, w_tup, w_lst, w_sub, w_intI, w_intB, w_isTyH, w_typ, w_isH, w_ixH, w_lenH, w_absH, w_listH, w_strH, w_bm, w_chain, w_exB, w_exV, w_start, k_ii, k_ib, k_is, k_il, k_it, k_bi, k_bb, k_bs, k_bl, k_bt, k_ni, k_nb, k_ns, k_nl, k_nt, k_si, k_sb, k_ss, k_sl, k_st, k_li, k_lb, k_ls, k_ll, k_lt, k_ti, k_tb, k_ts, k_tl, k_tt, w_st1, w_st2, w_st3, w_st5, atI_s0, atI_s1, atI_s2, atI_s3, atI_s4, atI_s5, List.map_cons, List.map_nil, List.length_cons, List.length_nil, List.replicate, List.cons_append, List.nil_append, List.append_nil, List.getElem?_cons_zero, List.getElem?_cons_succ, List.set_cons_zero, List.set_cons_succ, Nat.sub_self, Nat.reduceAdd, Nat.reduceSub, List.replicate_zero, decide_eq_true_eq, Bool.true_eq_false, Bool.false_eq_true, if_true, if_false, reduceIte, Bool.not_eq_true', decide_eq_false_iff_not, Bool.not_true, Bool.not_false, exists_eq_left', true_and, and_true, Option.some.injEq, reduceCtorEq, decide_true, decide_false, not_true_eq_false, not_false_eq_true, sizeLine_eq, Nat.reduceLeDiff, Bool.or_false, Bool.or_true, Bool.false_or, Bool.true_or, wp1, wp2, w_par, w_par2, w_tsl, w_nopart, w_part, w_exI]
        rw [List.append_nil] at q
        exact q p H2 (s1.trans s2) np ep
      refine ⟨.ref a, rfl, a, rfl, ?_⟩
      have start : ∃ (p : Addr) (z : Option V) (b1 b3 : List Addr), [some (V.ref a), some (V.int dp), some (V.ref p0), none] = [some (.ref a), some (.int dp), some (.ref p), z] ∧ Same H1 H1 ∧ H1 p = some (.lst ((pre ++ b1).map V.ref)) ∧ H p = none ∧ bs = b1 ++ b3 ∧ Reps H1 (ds.drop 0) (va.drop 0) b3 := ⟨p0, none, [], bs, rfl, Same.refl _, by rw [List.append_nil]; exact ep0, np0, rfl, rs⟩
      rcases ea with ea | ea
      · exact Or.inl ⟨⟨va, Or.inl (Or.inl ea)⟩, for_list (K := K) (a := a) (xs := va) (fun i σ H2 => ∃ (p : Addr) (z : Option V) (b1 b3 : List Addr), σ = [some (.ref a), some (.int dp), some (.ref p), z] ∧ Same H1 H2 ∧ H2 p = some (.lst ((pre ++ b1).map V.ref)) ∧ H p = none ∧ bs = b1 ++ b3 ∧ Reps H1 (ds.drop i) (va.drop i) b3) start (fun i σ H2 _ ⟨_, _, _, _, _, s2, _⟩ => Or.inl (Or.inl (s2 _ _ ea))) step fin⟩
      · exact Or.inr ⟨⟨va, Or.inl (Or.inl ea)⟩, for_tup (K := K) (a := a) (xs := va) (fun i σ H2 => ∃ (p : Addr) (z : Option V) (b1 b3 : List Addr), σ = [some (.ref a), some (.int dp), some (.ref p), z] ∧ Same H1 H2 ∧ H2 p = some (.lst ((pre ++ b1).map V.ref)) ∧ H p = none ∧ bs = b1 ++ b3 ∧ Reps H1 (ds.drop i) (va.drop i) b3) start (fun i σ H2 _ ⟨_, _, _, _, _, s2, _⟩ => Or.inl (Or.inl (s2 _ _ ea))) step fin⟩
    cases d with
    | lst ds =>
      simp only [Rep] at hv
      obtain ⟨a, va, bs, rfl, ea, rs, rfl, hl⟩ := hv
      simp only [dep] at hd
      simp only [w_seq, w_next, w_ret, w_asg, w_ifs, w_drop, w_brk, w_cont, w_name, w_var, w_c, w_op, w_un, w_I, w_I0, w_U, w_eq, w_scII, w_scBB, w_scSS, w_scNN, w_zi, w_zb, w_zn, w_zs, V.int.injEq, V.bl.injEq, V.str.injEq, V.ref.injEq, w_ne, w_test, w_B, w_and, w_or, w_not, w_andV, w_orV, w_notV, w_if, w_isN, w_nil, w_cons, w_cb, w_call, w_tup, w_lst, w_sub, w_intI, w_intB, w_isTyH, w_typ, w_isH, w_ixH, w_lenH, w_absH, w_listH, w_strH, w_bm, w_chain, w_exB, w_exV, w_start, k_ii, k_ib, k_is, k_il, k_it, k_bi, k_bb, k_bs, k_bl, k_bt, k_ni, k_nb, k_ns, k_nl, k_nt, k_si, k_sb, k_ss, k_sl, k_st, k_li, k_lb, k_ls, k_ll, k_lt, k_ti, k_tb, k_ts, k_tl, k_tt, w_st1, w_st2, w_st3, w_st5, atI_s0, atI_s1, atI_s2, atI_s3, atI_s4, atI_s5, List.map_cons, List.map_nil, List.length_cons, List.length_nil, List.replicate, List.cons_append, List.nil_append, List.append_nil, List.getElem?_cons_zero, List.getElem?_cons_succ, List.set_cons_zero, List.set_cons_succ, Nat.sub_self, Nat.reduceAdd, Nat.reduceSub, List.replicate_zero, decide_eq_true_eq, Bool.true_eq_false, Bool.false_eq_true, if_true, if_false, reduceIte, Bool.not_eq_true', decide_eq_false_iff_not, Bool.not_true, Bool.not_false, exists_eq_left', true_and, and_true, Option.some.injEq, reduceCtorEq, decide_true, decide_false, not_true_eq_false, not_false_eq_true, sizeLine_eq, Nat.reduceLeDiff, Bool.or_false, Bool.or_true, Bool.false_or, Bool.true_or, wp1, wp2, w_par, w_par2, w_tsl, w_nopart, w_part, w_exI, w_zl ea, dp0]
      intro p hp
      have s1 := same_new (o := .lst []) hp
      simp only [w_seq, w_next, w_ret, w_asg, w_ifs, w_drop, w_brk, w_cont, w_name, w_var, w_c, w_op, w_un, w_I, w_I0, w_U, w_eq, w_scII, w_scBB, w_scSS, w_scNN, w_zi, w_zb, w_zn, w_zs, V.int.injEq, V.bl.injEq, V.str.injEq, V.ref.injEq, w_ne, w_test, w_B, w_and, w_or, w_not, w_andV, w_orV, w_notV, w_if, w_isN, w_nil, w_cons, w_cb, w_call, w_tup, w_lst, w_sub, w_intI, w_intB, w_isTyH, w_typ, w_isH, w_ixH, w_lenH, w_absH, w_listH, w_strH, w_bm, w_chain, w_exB, w_exV, w_start, k_ii, k_ib, k_is, k_il, k_it, k_bi, k_bb, k_bs, k_bl, k_bt, k_ni, k_nb, k_ns, k_nl, k_nt, k_si, k_sb, k_ss, k_sl, k_st, k_li, k_lb, k_ls, k_ll, k_lt, k_ti, k_tb, k_ts, k_tl, k_tt, w_st1, w_st2, w_st3, w_st5, atI_s0, atI_s1, atI_s2, atI_s3, atI_s4, atI_s5, List.map_cons, List.map_nil, List.length_cons, List.length_nil, List.replicate, List.cons_append, List.nil_append, List.append_nil, List.getElem?_cons_zero, List.getElem?_cons_succ, List.set_cons_zero, List.set_cons_succ, Nat.sub_self, Nat.reduceAdd, Nat.reduceSub, List.replicate_zero, decide_eq_true_eq, Bool.true_eq_false, Bool.false_eq_true, if_true, if_false, reduceIte, Bool.not_eq_true', decide_eq_false_iff_not, Bool.not_true, Bool.not_false, exists_eq_left', true_and, and_true, Option.some.injEq, reduceCtorEq, decide_true, decide_false, not_true_eq_false, not_false_eq_true, sizeLine_eq, Nat.reduceLeDiff, Bool.or_false, Bool.or_true, Bool.false_or, Bool.true_or, wp1, wp2, w_par, w_par2, w_tsl, w_nopart, w_part, w_exI, w_zl (s1 _ _ ea), w_tyL upd_same, w_append upd_same]
      refine ⟨by decide, ?_⟩
      rw [upd_upd]
      have s2 := same_new (o := .lst [V.ref a]) hp
      intro p1 hp1
      have s3 := s2.trans (same_new (o := .tup [V.ty "list", V.ty "tuple"]) hp1)
      simp only [w_seq, w_next, w_ret, w_asg, w_ifs, w_drop, w_brk, w_cont, w_name, w_var, w_c, w_op, w_un, w_I, w_I0, w_U, w_eq, w_scII, w_scBB, w_scSS, w_scNN, w_zi, w_zb, w_zn, w_zs, V.int.injEq, V.bl.injEq, V.str.injEq, V.ref.injEq, w_ne, w_test, w_B, w_and, w_or, w_not, w_andV, w_orV, w_notV, w_if, w_isN, w_nil, w_cons, w_cb, w_call, w_tup, w_lst, w_sub, w_intI, w_intB, w_isTyH, w_typ, w_isH, w_ixH, w_lenH, w_absH, w_listH, w_strH, w_bm, w_chain, w_exB, w_exV, w_start, k_ii, k_ib, k_is, k_il, k_it, k_bi, k_bb, k_bs, k_bl, k_bt, k_ni, k_nb, k_ns, k_nl, k_nt, k_si, k_sb, k_ss, k_sl, k_st, k_li, k_lb, k_ls, k_ll, k_lt, k_ti, k_tb, k_ts, k_tl, k_tt, w_st1, w_st2, w_st3, w_st5, atI_s0, atI_s1, atI_s2, atI_s3, atI_s4, atI_s5, List.map_cons, List.map_nil, List.length_cons, List.length_nil, List.replicate, List.cons_append, List.nil_append, List.append_nil, List.getElem?_cons_zero, List.getElem?_cons_succ, List.set_cons_zero, List.set_cons_succ, Nat.sub_self, Nat.reduceAdd, Nat.reduceSub, List.replicate_zero, decide_eq_true_eq, Bool.true_eq_false, Bool.false_eq_true, if_true, if_false, reduceIte, Bool.not_eq_true', decide_eq_false_iff_not, Bool.not_true, Bool.not_false, exists_eq_left', true_and, and_true, Option.some.injEq, reduceCtorEq, decide_true, decide_false, not_true_eq_false, not_false_eq_true, sizeLine_eq, Nat.reduceLeDiff, Bool.or_false, Bool.or_true, Bool.false_or, Bool.true_or, wp1, wp2, w_par, w_par2, w_tsl, w_nopart, w_part, w_exI, w_isTH upd_same, w_zl (s3 _ _ ea)]
      have hne : p ≠ p1 := fun e => by
        rw [e, upd_same] at hp1
        cases hp1
      refine loop a va ds bs [a] p _ (by omega) s3 hp ?_ (Or.inl (s3 _ _ ea)) (reps_same s3 rs) hz q
      rw [upd_ne hne, upd_same]
      rfl
    | tup ds =>
      simp only [Rep] at hv
      obtain ⟨a, va, bs, rfl, ea, rs, rfl, hl⟩ := hv
      simp only [dep] at hd
      simp only [w_seq, w_next, w_ret, w_asg, w_ifs, w_drop, w_brk, w_cont, w_name, w_var, w_c, w_op, w_un, w_I, w_I0, w_U, w_eq, w_scII, w_scBB, w_scSS, w_scNN, w_zi, w_zb, w_zn, w_zs, V.int.injEq, V.bl.injEq, V.str.injEq, V.ref.injEq, w_ne, w_test, w_B, w_and, w_or, w_not, w_andV, w_orV, w_notV, w_if, w_isN, w_nil, w_cons, w_cb, w_call, w_tup, w_lst, w_sub, w_intI, w_intB, w_isTyH, w_typ, w_isH, w_ixH, w_lenH, w_absH, w_listH, w_strH, w_bm, w_chain, w_exB, w_exV, w_start, k_ii, k_ib, k_is, k_il, k_it, k_bi, k_bb, k_bs, k_bl, k_bt, k_ni, k_nb, k_ns, k_nl, k_nt, k_si, k_sb, k_ss, k_sl, k_st, k_li, k_lb, k_ls, k_ll, k_lt, k_ti, k_tb, k_ts, k_tl, k_tt, w_st1, w_st2, w_st3, w_st5, atI_s0, atI_s1, atI_s2, atI_s3, atI_s4, atI_s5, List.map_cons, List.map_nil, List.length_cons, List.length_nil, List.replicate, List.cons_append, List.nil_append, List.append_nil, List.getElem?_cons_zero, List.getElem?_cons_succ, List.set_cons_zero, List.set_cons_succ, Nat.sub_self, Nat.reduceAdd, Nat.reduceSub, List.replicate_zero, decide_eq_true_eq, Bool.true_eq_false, Bool.false_eq_true, if_true, if_false, reduceIte, Bool.not_eq_true', decide_eq_false_iff_not, Bool.not_true, Bool.not_false, exists_eq_left', true_and, and_true, Option.some.injEq, reduceCtorEq, decide_true, decide_false, not_true_eq_false, not_false_eq_true, sizeLine_eq, Nat.reduceLeDiff, Bool.or_false, Bool.or_true, Bool.false_or, Bool.true_or, wp1, wp2, w_par, w_par2, w_tsl, w_nopart, w_part, w_exI, w_zt ea, dp0]
      intro p hp
      have s1 := same_new (o := .lst []) hp
      simp only [w_seq, w_next, w_ret, w_asg, w_ifs, w_drop, w_brk, w_cont, w_name, w_var, w_c, w_op, w_un, w_I, w_I0, w_U, w_eq, w_scII, w_scBB, w_scSS, w_scNN, w_zi, w_zb, w_zn, w_zs, V.int.injEq, V.bl.injEq, V.str.injEq, V.ref.injEq, w_ne, w_test, w_B, w_and, w_or, w_not, w_andV, w_orV, w_notV, w_if, w_isN, w_nil, w_cons, w_cb, w_call, w_tup, w_lst, w_sub, w_intI, w_intB, w_isTyH, w_typ, w_isH, w_ixH, w_lenH, w_absH, w_listH, w_strH, w_bm, w_chain, w_exB, w_exV, w_start, k_ii, k_ib, k_is, k_il, k_it, k_bi, k_bb, k_bs, k_bl, k_bt, k_ni, k_nb, k_ns, k_nl, k_nt, k_si, k_sb, k_ss, k_sl, k_st, k_li, k_lb, k_ls, k_ll, k_lt, k_ti, k_tb, k_ts, k_tl, k_tt, w_st1, w_st2, w_st3, w_st5, atI_s0, atI_s1, atI_s2, atI_s3, atI_s4, atI_s5, List.map_cons, List.map_nil, List.length_cons, List.length_nil, List.replicate, List.cons_append, List.nil_append, List.append_nil, List.getElem?_cons_zero, List.getElem?_cons_succ, List.set_cons_zero, List.set_cons_succ, Nat.sub_self, Nat.reduceAdd, Nat.reduceSub, List.replicate_zero, decide_eq_true_eq, Bool.true_eq_false, Bool.false_eq_true, if_true, if_false, reduceIte, Bool.not_eq_true', decide_eq_false_iff_not, Bool.not_true, Bool.not_false, exists_eq_left', true_and, and_true, Option.some.injEq, reduceCtorEq, decide_true, decide_false, not_true_eq_false, not_false_eq_true, sizeLine_eq, Nat.reduceLeDiff, Bool.or_false, Bool.or_true, Bool.false_or, Bool.true_or, wp1, wp2, w_par, w_par2, w_tsl, w_nopart, w_part, w_exI, w_zt (s1 _ _ ea)]
      intro p1 hp1
      have s3 := s1.trans (same_new (o := .tup [V.ty "list", V.ty "tuple"]) hp1)
      simp only [w_seq, w_next, w_ret, w_asg, w_ifs, w_drop, w_brk, w_cont, w_name, w_var, w_c, w_op, w_un, w_I, w_I0, w_U, w_eq, w_scII, w_scBB, w_scSS, w_scNN, w_zi, w_zb, w_zn, w_zs, V.int.injEq, V.bl.injEq, V.str.injEq, V.ref.injEq, w_ne, w_test, w_B, w_and, w_or, w_not, w_andV, w_orV, w_notV, w_if, w_isN, w_nil, w_cons, w_cb, w_call, w_tup, w_lst, w_sub, w_intI, w_intB, w_isTyH, w_typ, w_isH, w_ixH, w_lenH, w_absH, w_listH, w_strH, w_bm, w_chain, w_exB, w_exV, w_start, k_ii, k_ib, k_is, k_il, k_it, k_bi, k_bb, k_bs, k_bl, k_bt, k_ni, k_nb, k_ns, k_nl, k_nt, k_si, k_sb, k_ss, k_sl, k_st, k_li, k_lb, k_ls, k_ll, k_lt, k_ti, k_tb, k_ts, k_tl, k_tt, w_st1, w_st2, w_st3, w_st5, atI_s0, atI_s1, atI_s2, atI_s3, atI_s4, atI_s5, List.map_cons, List.map_nil, List.length_cons, List.length_nil, List.replicate, List.cons_append, List.nil_append, List.append_nil, List.getElem?_cons_zero, List.getElem?_cons_succ, List.set_cons_zero, List.set_cons_succ, Nat.sub_self, Nat.reduceAdd, Nat.reduceSub, List.replicate_zero, decide_eq_true_eq, Bool.true_eq_false, Bool.false_eq_true, if_true, if_false, reduceIte, Bool.not_eq_true', decide_eq_false_iff_not, Bool.not_true, Bool.not_false, exists_eq_left', true_and, and_true, Option.some.injEq, reduceCtorEq, decide_true, decide_false, not_true_eq_false, not_false_eq_true, sizeLine_eq, Nat.reduceLeDiff, Bool.or_false, Bool.or_true, Bool.false_or, Bool.true_or, wp1, wp2, w_par, w_par2, w_tsl, w_nopart, w_part, w_exI, w_isTH upd_same, w_zt (s3 _ _ ea)]
      have hne : p ≠ p1 := fun e => by
        rw [e, upd_same] at hp1
        cases hp1
      refine loop a va ds as [] p _ (by omega) s3 hp ?_ (Or.inr (s3 _ _ ea)) (reps_same s3 rs) hz q
      rw [upd_ne hne, upd_same]
      rfl
    | _ =>
      simp only [Rep] at hv
      obtain ⟨rfl, rfl⟩ := hv
      simp only [w_seq, w_next, w_ret, w_asg, w_ifs, w_drop, w_brk, w_cont, w_name, w_var, w_c, w_op, w_un, w_I, w_I0, w_U, w_eq, w_scII, w_scBB, w_scSS, w_scNN, w_zi, w_zb, w_zn, w_zs, V.int.injEq, V.bl.injEq, V.str.injEq, V.ref.injEq, w_ne, w_test, w_B, w_and, w_or, w_not, w_andV, w_orV, w_notV, w_if, w_isN, w_nil, w_cons, w_cb, w_call, w_tup, w_lst, w_sub, w_intI, w_intB, w_isTyH, w_typ, w_isH, w_ixH, w_lenH, w_absH, w_listH, w_strH, w_bm, w_chain, w_exB, w_exV, w_start, k_ii, k_ib, k_is, k_il, k_it, k_bi, k_bb, k_bs, k_bl, k_bt, k_ni, k_nb, k_ns, k_nl, k_nt, k_si, k_sb, k_ss, k_sl, k_st, k_li, k_lb, k_ls, k_ll, k_lt, k_ti, k_tb, k_ts, k_tl, k_tt, w_st1, w_st2, w_st3, w_st5, atI_s0, atI_s1, atI_s2, atI_s3, atI_s4, atI_s5, List.map_cons, List.map_nil, List.length_cons, List.length_nil, List.replicate, List.cons_append, List.nil_append, List.append_nil, List.getElem?_cons_zero, List.getElem?_cons_succ, List.set_cons_zero, List.set_cons_succ, Nat.sub_self, Nat.reduceAdd, Nat.reduceSub, List.replicate_zero, decide_eq_true_eq, Bool.true_eq_false, Bool.false_eq_true, if_true, if_false, reduceIte, Bool.not_eq_true', decide_eq_false_iff_not, Bool.not_true, Bool.not_false, exists_eq_left', true_and, and_true, Option.some.injEq, reduceCtorEq, decide_true, decide_false, not_true_eq_false, not_false_eq_true, sizeLine_eq, Nat.reduceLeDiff, Bool.or_false, Bool.or_true, Bool.false_or, Bool.true_or, wp1, wp2, w_par, w_par2, w_tsl, w_nopart, w_part, w_exI, dp0]
      intro p hp p1 hp1
      have hne : p ≠ p1 := fun e => by
        rw [e, upd_same] at hp1
        cases hp1
      simp only [w_seq, w_next, w_ret, w_asg, w_ifs, w_drop, w_brk, w_cont, w_name, w_var, w_c, w_op, w_un, w_I, w_I0, w_U, w_eq, w_scII, w_scBB, w_scSS, w_scNN, w_zi, w_zb, w_zn, w_zs, V.int.injEq, V.bl.injEq, V.str.injEq, V.ref.injEq, w_ne, w_test, w_B, w_and, w_or, w_not, w_andV, w_orV, w_notV, w_if, w_isN, w_nil, w_cons, w_cb, w_call, w_tup, w_lst, w_sub, w_intI, w_intB, w_isTyH, w_typ, w_isH, w_ixH, w_lenH, w_absH, w_listH, w_strH, w_bm, w_chain, w_exB, w_exV, w_start, k_ii, k_ib, k_is, k_il, k_it, k_bi, k_bb, k_bs, k_bl, k_bt, k_ni, k_nb, k_ns, k_nl, k_nt, k_si, k_sb, k_ss, k_sl, k_st, k_li, k_lb, k_ls, k_ll, k_lt, k_ti, k_tb, k_ts, k_tl, k_tt, w_st1, w_st2, w_st3, w_st5, atI_s0, atI_s1, atI_s2, atI_s3, atI_s4, atI_s5, List.map_cons, List.map_nil, List.length_cons, List.length_nil, List.replicate, List.cons_append, List.nil_append, List.append_nil, List.getElem?_cons_zero, List.getElem?_cons_succ, List.set_cons_zero, List.set_cons_succ, Nat.sub_self, Nat.reduceAdd, Nat.reduceSub, List.replicate_zero, decide_eq_true_eq, Bool.true_eq_false, Bool.false_eq_true, if_true, if_false, reduceIte, Bool.not_eq_true', decide_eq_false_iff_not, Bool.not_true, Bool.not_false, exists_eq_left', true_and, and_true, Option.some.injEq, reduceCtorEq, decide_true, decide_false, not_true_eq_false, not_false_eq_true, sizeLine_eq, Nat.reduceLeDiff, Bool.or_false, Bool.or_true, Bool.false_or, Bool.true_or, wp1, wp2, w_par, w_par2, w_tsl, w_nopart, w_part, w_exI, w_isTH upd_same]
      refine q p _ ((same_new hp).trans (same_new hp1)) hp ?_
      rw [upd_ne hne, upd_same]
      rfl
theorem ok_lists (F : Fun K "_law_lists" "_law_lists" s_law_lists f fd) (Tx : Txt K mg A tk) (gm : mg "_law_lists" = some (.ref f)) (b : Binds K fd ["value", "depth"] []) : ∀ n : Nat, FnOk P w K mg base CX0 (n + 1) f fd ["value", "depth"] (sp_lists n)
  | 0 => (ok_lists_step F Tx 0 0 ⟨f, fd, ⟨fun vs H Q E h => by
      obtain ⟨d, v, as, k, _, h, _⟩ := h
      exact absurd h (Nat.not_lt_zero _), fun A outer s H args us vs Q E _ _ _ _ h => by
      obtain ⟨d, v, as, k, _, h, _⟩ := h
      exact absurd h (Nat.not_lt_zero _)⟩, gm, F.kp, b⟩)
  | n + 1 => ok_lists_step F Tx (n + 1) (n + 1) ⟨f, fd, (ok_lists F Tx gm b n).imp fun vs H Q E h => by
      obtain ⟨d, v, as, k, e, h1, h2, h3⟩ := h
      exact ⟨d, v, as, k, e, Nat.le_of_lt_succ h1, by omega, h3⟩, gm, F.kp, b⟩
end
end Mt
namespace Mt
open PySem PySem.Spec PyProof.Rows L2 L2H
open Ap
section
variable {P : Program} {w : World} {K : PySem.W.Frag} {mg : Str → Option Value} {base : Heap} {f : Addr} {fd : FuncData} {A : Ad} {tk : Nat → Tok}
theorem ok_apart (F : Fun K "_law_apart" "_law_apart" s_law_apart f fd) (Tx : Txt K mg A tk) (C_law_lists : Cal P w K mg base "_law_lists" 7 ["value", "depth"] (sp_lists 6)) :
    FnOk P w K mg base CX0 8 f fd ["value"] sp_apart := by
  refine F.ok sc_law_apart (fun vs H Q E h => ?_) (fun cdv Ar outer s H vs Q E hr h => ?_)
  · obtain ⟨d, v, as, rfl, _⟩ := h
    rfl
  · obtain ⟨d, v, as, rfl, hd, hv, hn, hz, q⟩ := h
    refine ⟨_, (pss_cons (ps_set (i := 1) sc_law_apart.nd rfl (.inl rfl) (p_call C_law_lists hr (pa_cons (pv 0) (pa_cons pe_int pa_nil)) (by omega)))
      (pss_cons (ps_setLc (i := 2) (own := [("row", 4)]) (g := gName 4) rfl sc_law_apart.nd rfl rfl (sw_true rfl rfl rfl (by decide +kernel)) (pi_list (pv 1)) (blkOk_by (N := ["value", "found", "sizes", "k", "row"]) (sc := defScope s_law_apart) (by decide +kernel)) (fun _ _ _ _ _ => pg_name (i := 4) sc_law_apart.nd rfl (.inl rfl)) (fun _ _ _ _ _ => pts_nil) (fun _ _ _ _ _ => (pe_callB call_lenH (by rfl) Tx.m_len (by decide +kernel) (pa_cons (pv 4) pa_nil))))
      (pss_cons (ps_for PassesOwn.never rfl (pi_range1 (by rfl) Tx.m_range (pa_cons (pe_callB call_lenH (by rfl) Tx.m_len (by decide +kernel) (pa_cons (pv 1) pa_nil)) pa_nil)) (pg_name (i := 3) sc_law_apart.nd rfl (.inl rfl)) (pss_cons (ps_set (i := 4) sc_law_apart.nd rfl (.inl rfl) (pe_ix ix_H (pv 1) (pv 3) (fun _ _ => rfl)))
      (pss_one (ps_expr (pe_bm PySem.F.plainAttrs_list PySem.F.slot_list_append PySem.F.type_list_append mt_append (pv 4) (pa_cons pe_int pa_nil))))))
      (pss_one (ps_ret (pe_cmpR (op_eqV hr.units) (pe_lc (own := [("row", 4)]) (g := gName 4) rfl sc_law_apart.nd (pi_list (pv 1)) (blkOk_by (N := ["value", "found", "sizes", "k", "row"]) (sc := defScope s_law_apart) (by decide +kernel)) (fun _ _ _ _ _ => pg_name (i := 4) sc_law_apart.nd rfl (.inl rfl)) (fun _ _ _ _ _ => pts_nil) (fun _ _ _ _ _ => (pe_op op_sub (pe_callB call_lenH (by rfl) Tx.m_len (by decide +kernel) (pa_cons (pv 4) pa_nil)) pe_int))) (pv 2) (nomark _))))))), ?_⟩
    have hL : ∀ a ∈ as, H a = some (.lst (lsAt H a)) ∧ (lsAt H a).length < 1000000 := fun a ha => by
      obtain ⟨xs, e, z⟩ := rep_sz d v as hv a ha
      have : lsAt H a = xs := by
        unfold lsAt
        rw [e]
      rw [this]
      exact ⟨e, z⟩
    have inj : ∀ {i j : Nat} {a : Addr}, as[i]? = some a → as[j]? = some a → i = j := fun {i j a} hi hj =>
      (List.getElem?_inj (List.getElem?_eq_some_iff.mp hi).1 hn).mp (hi.trans hj.symm)
    simp only [w_seq, w_next, w_ret, w_asg, w_ifs, w_drop, w_brk, w_cont, w_name, w_var, w_c, w_op, w_un, w_I, w_I0, w_U, w_eq, w_scII, w_scBB, w_scSS, w_scNN, w_zi, w_zb, w_zn, w_zs, V.int.injEq, V.bl.injEq, V.str.injEq, V.ref.injEq, w_ne, w_test, w_B, w_and, w_or, w_not, w_andV, w_orV, w_notV, w_if, w_isN, w_nil, w_cons, w_cb, w_call, w_tup, w_lst, w_sub, w_intI, w_intB, w_isTyH, w_typ, w_isH, w_ixH, w_lenH, w_absH, w_listH, w_strH, w_bm, w_chain, w_exB, w_exV, w_start, k_ii, k_ib, k_is, k_il, k_it, k_bi, k_bb, k_bs, k_bl, k_bt, k_ni, k_nb, k_ns, k_nl, k_nt, k_si, k_sb, k_ss, k_sl, k_st, k_li, k_lb, k_ls, k_ll, k_lt, k_ti, k_tb, k_ts, k_tl, k_tt, w_st1, w_st2, w_st3, w_st5, atI_s0, atI_s1, atI_s2, atI_s3, atI_s4, atI_s5, List.map_cons, List.map_nil, List.length_cons, List.length_nil, List.replicate, List.cons_append, List.nil_append, List.append_nil, List.getElem?_cons_zero, List.getElem?_cons_succ, List.set_cons_zero, List.set_cons_succ, Nat.sub_self, Nat.reduceAdd, Nat.reduceSub, List.replicate_zero, decide_eq_true_eq, Bool.true_eq_false, Bool.false_eq_true, if_true, if_false, reduceIte, Bool.not_eq_true', decide_eq_false_iff_not, Bool.not_true, Bool.not_false, exists_eq_left', true_and, and_true, Option.some.injEq, reduceCtorEq, decide_true, decide_false, not_true_eq_false, not_false_eq_true, sizeLine_eq, Nat.reduceLeDiff, Bool.or_false, Bool.or_true, Bool.false_or, Bool.true_or, wp1, wp2, w_par, w_par2, w_tsl, w_nopart, w_part, w_exI]
    refine ⟨d, v, as, 20, rfl, hd, by decide, by decide, hv, hz, fun p H1 s1 np ep => ?_⟩
    have pas : p ∉ as := fun h => by
      rw [(hL p h).1] at np
      cases np
    have atx : ∀ {k : Nat} {x : V}, (as.map V.ref)[k]? = some x → ∃ a, x = .ref a ∧ as[k]? = some a ∧ a ∈ as := fun {k x} hk => by
      rw [List.getElem?_map] at hk
      obtain ⟨a, ha, rfl⟩ := Option.map_eq_some_iff.mp hk
      exact ⟨a, rfl, ha, List.mem_of_getElem? ha⟩
    refine lcF_list (a := p) (xs := as.map V.ref) (ds := as.map fun a => D.int (lsAt H a).length) (fun H1 _ R r => ⟨_, rfl, r⟩) (Or.inl (Or.inl ep)) (by rw [List.length_map, List.length_map]) (by rw [List.length_map]; omega) (fun k x d' hk hd' H2 s2 R r => ?_) H1 (Same.refl _) _ (fun y2 H2 f2 => ?_)
    · obtain ⟨a, rfl, ha, hm⟩ := atx hk
      rw [List.getElem?_map, ha] at hd'
      cases hd'
      simp only [w_seq, w_next, w_ret, w_asg, w_ifs, w_drop, w_brk, w_cont, w_name, w_var, w_c, w_op, w_un, w_I, w_I0, w_U, w_eq, w_scII, w_scBB, w_scSS, w_scNN, w_zi, w_zb, w_zn, w_zs, V.int.injEq, V.bl.injEq, V.str.injEq, V.ref.injEq, w_ne, w_test, w_B, w_and, w_or, w_not, w_andV, w_orV, w_notV, w_if, w_isN, w_nil, w_cons, w_cb, w_call, w_tup, w_lst, w_sub, w_intI, w_intB, w_isTyH, w_typ, w_isH, w_ixH, w_lenH, w_absH, w_listH, w_strH, w_bm, w_chain, w_exB, w_exV, w_start, k_ii, k_ib, k_is, k_il, k_it, k_bi, k_bb, k_bs, k_bl, k_bt, k_ni, k_nb, k_ns, k_nl, k_nt, k_si, k_sb, k_ss, k_sl, k_st, k_li, k_lb, k_ls, k_ll, k_lt, k_ti, k_tb, k_ts, k_tl, k_tt, w_st1, w_st2, w_st3, w_st5, atI_s0, atI_s1, atI_s2, atI_s3, atI_s4, atI_s5, List.map_cons, List.map_nil, List.length_cons, List.length_nil, List.replicate, List.cons_append, List.nil_append, List.append_nil, List.getElem?_cons_zero, List.getElem?_cons_succ, List.set_cons_zero, List.set_cons_succ, Nat.sub_self, Nat.reduceAdd, Nat.reduceSub, List.replicate_zero, decide_eq_true_eq, Bool.true_eq_false, Bool.false_eq_true, if_true, if_false, reduceIte, Bool.not_eq_true', decide_eq_false_iff_not, Bool.not_true, Bool.not_false, exists_eq_left', true_and, and_true, Option.some.injEq, reduceCtorEq, decide_true, decide_false, not_true_eq_false, not_false_eq_true, sizeLine_eq, Nat.reduceLeDiff, Bool.or_false, Bool.or_true, Bool.false_or, Bool.true_or, wp1, wp2, w_par, w_par2, w_tsl, w_nopart, w_part, w_exI, seqAt_l (s2 _ _ (s1 _ _ (hL a hm).1))]
      exact r _ _ (Fr.int (Same.refl _))
    obtain ⟨s2, cs2, r2, _, fr2⟩ := f2
    have e2' : (D.lst (as.map fun a => D.int (lsAt H a).length)) = dRow (as.map fun a => ((lsAt H a).length : Int)) := by
      unfold dRow
      rw [List.map_map]
      rfl
    rw [e2'] at r2
    obtain ⟨q2, rfl, e2, _, rfl⟩ := rep_row r2
    have nq2 : H1 q2 = none := fr2 q2 (List.mem_cons_self ..)
    have qas : q2 ∉ as := fun h => by
      rw [s1 _ _ (hL q2 h).1] at nq2
      cases nq2
    refine for_rng ?_
    simp only [w_seq, w_next, w_ret, w_asg, w_ifs, w_drop, w_brk, w_cont, w_name, w_var, w_c, w_op, w_un, w_I, w_I0, w_U, w_eq, w_scII, w_scBB, w_scSS, w_scNN, w_zi, w_zb, w_zn, w_zs, V.int.injEq, V.bl.injEq, V.str.injEq, V.ref.injEq, w_ne, w_test, w_B, w_and, w_or, w_not, w_andV, w_orV, w_notV, w_if, w_isN, w_nil, w_cons, w_cb, w_call, w_tup, w_lst, w_sub, w_intI, w_intB, w_isTyH, w_typ, w_isH, w_ixH, w_lenH, w_absH, w_listH, w_strH, w_bm, w_chain, w_exB, w_exV, w_start, k_ii, k_ib, k_is, k_il, k_it, k_bi, k_bb, k_bs, k_bl, k_bt, k_ni, k_nb, k_ns, k_nl, k_nt, k_si, k_sb, k_ss, k_sl, k_st, k_li, k_lb, k_ls, k_ll, k_lt, k_ti, k_tb, k_ts, k_tl, k_tt, w_st1, w_st2, w_st3, w_st5, atI_s0, atI_s1, atI_s2, atI_s3, atI_s4, atI_s5, List.map_cons, List.map_nil, List.length_cons, List.length_nil, List.replicate, List.cons_append, List.nil_append, List.append_nil, List.getElem?_cons_zero, List.getElem?_cons_succ, List.set_cons_zero, List.set_cons_succ, Nat.sub_self, Nat.reduceAdd, Nat.reduceSub, List.replicate_zero, decide_eq_true_eq, Bool.true_eq_false, Bool.false_eq_true, if_true, if_false, reduceIte, Bool.not_eq_true', decide_eq_false_iff_not, Bool.not_true, Bool.not_false, exists_eq_left', true_and, and_true, Option.some.injEq, reduceCtorEq, decide_true, decide_false, not_true_eq_false, not_false_eq_true, sizeLine_eq, Nat.reduceLeDiff, Bool.or_false, Bool.or_true, Bool.false_or, Bool.true_or, wp1, wp2, w_par, w_par2, w_tsl, w_nopart, w_part, w_exI]
    refine ⟨_, seqAt_l (s2 _ _ ep), ?_⟩
    refine forN (n := (as.map V.ref).length) (by rw [List.length_map]; omega) (fun i σ H' => ∃ z4 z5 : Option V, σ = [some v, some (.ref p), some (.ref q2), z4, z5] ∧ (∀ b o, H2 b = some o → b ∉ as → H' b = some o) ∧ (∀ j a, as[j]? = some a → H' a = some (.lst (if j < i then lsAt H a ++ [.int 99] else lsAt H a))))
      ⟨none, none, rfl, fun b o e _ => e, fun j a ha => by
        rw [if_neg (Nat.not_lt_zero _)]
        exact s2 _ _ (s1 _ _ (hL a (List.mem_of_getElem? ha)).1)⟩ ?_ ?_
    · rintro i σ H3 hi ⟨z4, z5, rfl, k1, k2⟩
      rw [List.length_map] at hi
      obtain ⟨a, ha⟩ : ∃ a, as[i]? = some a := ⟨_, List.getElem?_eq_getElem hi⟩
      have ea := k2 i a ha
      rw [if_neg (Nat.lt_irrefl i)] at ea
      have ixv : atI (as.map V.ref) (i : Int) = some (.ref a) := atI_nat (by rw [List.getElem?_map, ha]; rfl)
      have lz := (hL a (List.mem_of_getElem? ha)).2
      simp only [w_seq, w_next, w_ret, w_asg, w_ifs, w_drop, w_brk, w_cont, w_name, w_var, w_c, w_op, w_un, w_I, w_I0, w_U, w_eq, w_scII, w_scBB, w_scSS, w_scNN, w_zi, w_zb, w_zn, w_zs, V.int.injEq, V.bl.injEq, V.str.injEq, V.ref.injEq, w_ne, w_test, w_B, w_and, w_or, w_not, w_andV, w_orV, w_notV, w_if, w_isN, w_nil, w_cons, w_cb, w_call, w_tup, w_lst, w_sub, w_intI, w_intB, w_isTyH, w_typ, w_isH, w_ixH, w_lenH, w_absH, w_listH, w_strH, w_bm, w_chain, w_exB, w_exV, w_start, k_ii, k_ib, k_is, k_il, k_it, k_bi, k_bb, k_bs, k_bl, k_bt, k_ni, k_nb, k_ns, k_nl, k_nt, k_si, k_sb, k_ss, k_sl, k_st, k_li, k_lb, k_ls, k_ll, k_lt, k_ti, k_tb, k_ts, k_tl, k_tt, w_st1, w_st2, w_st3, w_st5, atI_s0, atI_s1, atI_s2, atI_s3, atI_s4, atI_s5, List.map_cons, List.map_nil, List.length_cons, List.length_nil, List.replicate, List.cons_append, List.nil_append, List.append_nil, List.getElem?_cons_zero, List.getElem?_cons_succ, List.set_cons_zero, List.set_cons_succ, Nat.sub_self, Nat.reduceAdd, Nat.reduceSub, List.replicate_zero, decide_eq_true_eq, Bool.true_eq_false, Bool.false_eq_true, if_true, if_false, reduceIte, Bool.not_eq_true', decide_eq_false_iff_not, Bool.not_true, Bool.not_false, exists_eq_left', true_and, and_true, Option.some.injEq, reduceCtorEq, decide_true, decide_false, not_true_eq_false, not_false_eq_true, sizeLine_eq, Nat.reduceLeDiff, Bool.or_false, Bool.or_true, Bool.false_or, Bool.true_or, wp1, wp2, w_par, w_par2, w_tsl, w_nopart, w_part, w_exI, seqAt_l (k1 _ _ (s2 _ _ ep) pas), ixv, w_tyL ea, w_append ea]
      refine ⟨by omega, _, _, rfl, fun b o eb hb => ?_, fun j a' ha' => ?_⟩
      · rw [upd_ne (fun e => hb (by rw [e]; exact List.mem_of_getElem? ha))]
        exact k1 b o eb hb
      · by_cases e : a' = a
        · subst e
          have : j = i := inj ha' ha
          subst this
          rw [upd_same, if_pos (Nat.lt_succ_self _)]
        · rw [upd_ne e, k2 j a' ha']
          have : j ≠ i := fun z => by
            subst z
            rw [ha] at ha'
            exact e (Option.some.inj ha').symm
          by_cases h : j < i
          · rw [if_pos h, if_pos (by omega)]
          · rw [if_neg h, if_neg (by omega)]
    · rintro σ H3 ⟨z4, z5, rfl, k1, k2⟩
      have ep3 := k1 _ _ (s2 _ _ ep) pas
      simp only [w_seq, w_next, w_ret, w_asg, w_ifs, w_drop, w_brk, w_cont, w_name, w_var, w_c, w_op, w_un, w_I, w_I0, w_U, w_eq, w_scII, w_scBB, w_scSS, w_scNN, w_zi, w_zb, w_zn, w_zs, V.int.injEq, V.bl.injEq, V.str.injEq, V.ref.injEq, w_ne, w_test, w_B, w_and, w_or, w_not, w_andV, w_orV, w_notV, w_if, w_isN, w_nil, w_cons, w_cb, w_call, w_tup, w_lst, w_sub, w_intI, w_intB, w_isTyH, w_typ, w_isH, w_ixH, w_lenH, w_absH, w_listH, w_strH, w_bm, w_chain, w_exB, w_exV, w_start, k_ii, k_ib, k_is, k_il, k_it, k_bi, k_bb, k_bs, k_bl, k_bt, k_ni, k_nb, k_ns, k_nl, k_nt, k_si, k_sb, k_ss, k_sl, k_st, k_li, k_lb, k_ls, k_ll, k_lt, k_ti, k_tb, k_ts, k_tl, k_tt, w_st1, w_st2, w_st3, w_st5, atI_s0, atI_s1, atI_s2, atI_s3, atI_s4, atI_s5, List.map_cons, List.map_nil, List.length_cons, List.length_nil, List.replicate, List.cons_append, List.nil_append, List.append_nil, List.getElem?_cons_zero, List.getElem?_cons_succ, List.set_cons_zero, List.set_cons_succ, Nat.sub_self, Nat.reduceAdd, Nat.reduceSub, List.replicate_zero, decide_eq_true_eq, Bool.true_eq_false, Bool.false_eq_true, if_true, if_false, reduceIte, Bool.not_eq_true', decide_eq_false_iff_not, Bool.not_true, Bool.not_false, exists_eq_left', true_and, and_true, Option.some.injEq, reduceCtorEq, decide_true, decide_false, not_true_eq_false, not_false_eq_true, sizeLine_eq, Nat.reduceLeDiff, Bool.or_false, Bool.or_true, Bool.false_or, Bool.true_or, wp1, wp2, w_par, w_par2, w_tsl, w_nopart, w_part, w_exI]
      refine lcF_list (a := p) (xs := as.map V.ref) (ds := as.map fun a => D.int (lsAt H a).length) (fun H1 _ R r => ⟨_, rfl, r⟩) (Or.inl (Or.inl ep3)) (by rw [List.length_map, List.length_map]) (by rw [List.length_map]; omega) (fun k x d' hk hd' H4 s4 R r => ?_) H3 (Same.refl _) _ (fun y4 H4 f4 => ?_)
      · obtain ⟨a, rfl, ha, hm⟩ := atx hk
        rw [List.getElem?_map, ha] at hd'
        cases hd'
        have ea := k2 k a ha
        rw [if_pos (by rw [List.length_map]; exact (List.getElem?_eq_some_iff.mp ha).1)] at ea
        simp only [w_seq, w_next, w_ret, w_asg, w_ifs, w_drop, w_brk, w_cont, w_name, w_var, w_c, w_op, w_un, w_I, w_I0, w_U, w_eq, w_scII, w_scBB, w_scSS, w_scNN, w_zi, w_zb, w_zn, w_zs, V.int.injEq, V.bl.injEq, V.str.injEq, V.ref.injEq, w_ne, w_test, w_B, w_and, w_or, w_not, w_andV, w_orV, w_notV, w_if, w_isN, w_nil, w_cons, w_cb, w_call, w_tup, w_lst, w_sub, w_intI, w_intB, w_isTyH, w_typ, w_isH, w_ixH, w_lenH, w_absH, w_listH, w_strH, w_bm, w_chain, w_exB, w_exV, w_start, k_ii, k_ib, k_is, k_il, k_it, k_bi, k_bb, k_bs, k_bl, k_bt, k_ni, k_nb, k_ns, k_nl, k_nt, k_si, k_sb, k_ss, k_sl, k_st, k_li, k_lb, k_ls, k_ll, k_lt, k_ti, k_tb, k_ts, k_tl, k_tt, w_st1, w_st2, w_st3, w_st5, atI_s0, atI_s1, atI_s2, atI_s3, atI_s4, atI_s5, List.map_cons, List.map_nil, List.length_cons, List.length_nil, List.replicate, List.cons_append, List.nil_append, List.append_nil, List.getElem?_cons_zero, List.getElem?_cons_succ, List.set_cons_zero, List.set_cons_succ, Nat.sub_self, Nat.reduceAdd, Nat.reduceSub, List.replicate_zero, decide_eq_true_eq, Bool.true_eq_false, Bool.false_eq_true, if_true, if_false, reduceIte, Bool.not_eq_true', decide_eq_false_iff_not, Bool.not_true, Bool.not_false, exists_eq_left', true_and, and_true, Option.some.injEq, reduceCtorEq, decide_true, decide_false, not_true_eq_false, not_false_eq_true, sizeLine_eq, Nat.reduceLeDiff, Bool.or_false, Bool.or_true, Bool.false_or, Bool.true_or, wp1, wp2, w_par, w_par2, w_tsl, w_nopart, w_part, w_exI, seqAt_l (s4 _ _ ea)]
        have el : (((lsAt H a ++ [V.int 99]).length : Nat) : Int) - 1 = ((lsAt H a).length : Int) := by
          rw [List.length_append, List.length_singleton]
          omega
        rw [el]
        exact r _ _ (Fr.int (Same.refl _))
      obtain ⟨s4, cs4, r4, _, fr4⟩ := f4
      rw [e2'] at r4
      obtain ⟨q4, rfl, e4, _, rfl⟩ := rep_row r4
      refine ⟨1, by decide, Or.inl ⟨q4, q2, _, _, rfl, rfl, Or.inl (Or.inl e4), Or.inl (Or.inl (s4 _ _ (k1 _ _ e2 qas))), paired_same fun x hx => ?_⟩, q _ (fun b o eb hb => s4 _ _ (k1 _ _ (s2 _ _ (s1 _ _ eb)) hb)) fun a xs ha ex => ?_⟩
      · obtain ⟨i, _, rfl⟩ := List.mem_map.mp hx
        exact Or.inl ⟨rfl, rfl⟩
      obtain ⟨i, hi⟩ := List.getElem?_of_mem ha
      have ea := k2 i a hi
      rw [if_pos (by rw [List.length_map]; exact (List.getElem?_eq_some_iff.mp hi).1)] at ea
      have exs : lsAt H a = xs := by unfold lsAt; rw [ex]
      rw [exs] at ea
      exact s4 _ _ ea
theorem ok_law_apart (F : Fun K "_law_apart" "_law_apart" s_law_apart f fd) (Tx : Txt K mg A tk) (C_law_lists : Cal P w K mg base "_law_lists" 7 ["value", "depth"] (Ap.sp_lists 6)) : FnOk P w K mg base CX0 8 f fd ["value"] SpApart := (ok_apart F Tx C_law_lists).imp fun _ _ _ _ h => apart_of h
end
end Mt
namespace Mt
open PySem PySem.Spec PyProof.Rows L2 L2H
section
variable {P : Program} {w : World} {K : PySem.W.Frag} {mg : Str → Option Value} {base : Heap} {f : Addr} {fd : FuncData} {A : Ad} {tk : Nat → Tok}
theorem ok_law_char (F : Fun K "_law_char" "_law_char" s_law_char f fd) (Tx : Txt K mg A tk) (C_law_take : Cal P w K mg base "_law_take" 2 ["store", "many"] (SpU A 2 c_law_take)) :
    FnOk P w K mg base CX0 3 f fd ["store"] (SpU A 1 c_law_char) := by
  refine F.ok sc_law_char (fun vs H Q E h => h.len) (fun cdv Ar outer s H vs Q E hr h => ?_)
  obtain ⟨st, P0, ds, k, XA, h1, h2, h3, hc, h5, h6⟩ := h
  refine ⟨_, (pss_cons (ps_set (i := 1) sc_law_char.nd rfl (.inl rfl) pe_str)
      (pss_cons (ps_set (i := 1) sc_law_char.nd rfl (.inl rfl) (pe_op op_catS (pv 1) pe_str))
      (pss_one (ps_ret (pe_ix ix_str (pv 1) (p_call C_law_take hr (pa_cons (pv 0) (pa_cons (pe_callB call_lenS (by rfl) Tx.m_len (by decide +kernel) (pa_cons (pv 1) pa_nil)) pa_nil)) (by omega)) (fun _ _ => rfl)))))), ?_⟩
  refine run0 (A := A) (ms := ?ms) (XA := XA) h1 h2 h5 ?r ?u
  case r => exact (rs_seq (rs_asg re_str rg_name)
      (rs_seq (rs_asg (re_op ro_catS re_var re_str) rg_name)
      (rs_ret (re_op ro_ixS re_var (re_call (ra_cons re_var (ra_cons (re_cb rcb_lenS (ra_cons re_var ra_nil)) ra_nil)))))))
  case u =>
    clear h1 h2 h5 h6 hr
    obtain ⟨rfl, hk⟩ := hc
    (simp! only [])
    refine ⟨_, _, rfl, rfl, by decide +kernel, ⟨_, rfl, by decide +kernel, _, rfl, by decide +kernel, fun r r0 r1 => ?_⟩⟩
    have r1 := r1.resolve_right fun h => absurd h.1 (by decide +kernel)
    obtain ⟨c, hc⟩ := atI_ex (l := ((" !\"#$&'()*+,-./0123456789:;<=>?@ABCDEFGHIJKLMNOPQRSTUVWXYZ[\\]^_`" : Str) ++ ("abcdefghijklmnopqrstuvwxyz{|}~\n" : Str)).cps.toList) r0 (by rw [Array.length_toList]; exact r1)
    exact ⟨_, r, c, rfl, rfl, by decide +kernel, hc, hk _ rfl⟩
end
end Mt
namespace Mt
open PySem PySem.Spec PyProof.Rows L2 L2H
section
variable {P : Program} {w : World} {K : PySem.W.Frag} {mg : Str → Option Value} {base : Heap} {f : Addr} {fd : FuncData} {A : Ad} {tk : Nat → Tok}
theorem ok_law_text (F : Fun K "_law_text" "_law_text" s_law_text f fd) (Tx : Txt K mg A tk) (C_law_char : Cal P w K mg base "_law_char" 3 ["store"] (SpU A 1 c_law_char)) (C_law_edge : Cal P w K mg base "_law_edge" 3 ["store", "low", "high"] (SpU A 3 c_law_edge)) :
    FnOk P w K mg base CX0 4 f fd ["store", "most"] (SpU A 2 c_law_text) := by
  refine F.ok sc_law_text (fun vs H Q E h => h.len) (fun cdv Ar outer s H vs Q E hr h => ?_)
  obtain ⟨st, P0, ds, k, XA, h1, h2, h3, hc, h5, h6⟩ := h
  refine ⟨_, (pss_one (ps_ret (pe_join pe_str (pe_lc (own := [("k", 2)]) (g := gName 2) rfl sc_law_text.nd (pi_range1 (by rfl) Tx.m_range (pa_cons (p_call C_law_edge hr (pa_cons (pv 0) (pa_cons pe_int (pa_cons (pv 1) pa_nil))) (by omega)) pa_nil)) (blkOk_by (N := ["store", "most", "k"]) (sc := defScope s_law_text) (by decide +kernel)) (fun _ _ _ _ _ => pg_name (i := 2) sc_law_text.nd rfl (.inl rfl)) (fun _ _ _ _ _ => pts_nil) (fun _ _ _ _ _ => (p_call C_law_char hr (pa_cons (pv 0) pa_nil) (by omega))))))), ?_⟩
  refine run0 (A := A) (ms := ?ms) (XA := XA) h1 h2 h5 ?r ?u
  case r => exact (rs_ret (re_join re_str (re_lc (vs := [2]) (is := [2]) (ric_of (ri_rng1 (ra_cons (re_call (ra_cons re_var (ra_cons re_int (ra_cons re_var ra_nil)))) ra_nil))) rg_name rt_yes (re_call (ra_cons re_var ra_nil)))))
  case u =>
    clear h1 h2 h5 h6 hr
    obtain ⟨m, rfl, m0, m1, hk⟩ := hc
    (simp! only [])
    refine ⟨_, rfl, 0, m, rfl, m0, by omega, fun j j0 j1 => ⟨j, rfl, by omega, by omega, fun i acc => ∃ ys : List Str, acc = ys.map T.str ∧ ys.length = i ∧ ∀ y ∈ ys, y.length = 1, ⟨[], rfl, rfl, fun y h => nomatch h⟩, ?_, ?_⟩⟩
    · rintro i x acc hx ⟨ys, rfl, hl, hy⟩
      (simp! only [])
      refine ⟨rfl, fun c hc => ⟨ys ++ [c], by rw [List.map_append]; rfl, by rw [List.length_append, hl]; rfl, fun y hm => ?_⟩⟩
      rcases List.mem_append.mp hm with h | h
      · exact hy y h
      · rw [List.mem_singleton.mp h]
        exact hc
    · rintro acc ⟨ys, rfl, hl, hy⟩
      rw [rngT_len] at hl
      refine ⟨ys, rfl, ?_, hk _ ?_⟩
      · rw [ones_sum hy, hl, show (("" : Str)).length = 0 from rfl]
        omega
      · rw [join_lenT, ones_sum hy]
        omega
end
end Mt
namespace Mt
open PySem PySem.Spec PyProof.Rows L2 L2H
section
variable {P : Program} {w : World} {K : PySem.W.Frag} {mg : Str → Option Value} {base : Heap} {f : Addr} {fd : FuncData} {A : Ad} {tk : Nat → Tok}
theorem ok_law_strange (F : Fun K "_law_strange" "_law_strange" s_law_strange f fd) (Tx : Txt K mg A tk) (C_law_take : Cal P w K mg base "_law_take" 2 ["store", "many"] (SpU A 2 c_law_take)) (C_law_text : Cal P w K mg base "_law_text" 4 ["store", "most"] (SpU A 2 c_law_text)) :
    FnOk P w K mg base CX0 5 f fd ["store", "most"] (SpU A 2 c_law_strange) := by
  refine F.ok sc_law_strange (fun vs H Q E h => h.len) (fun cdv Ar outer s H vs Q E hr h => ?_)
  obtain ⟨st, P0, ds, k, XA, h1, h2, h3, hc, h5, h6⟩ := h
  refine ⟨_, (pss_cons (ps_set (i := 2) sc_law_strange.nd rfl (.inl rfl) (p_call C_law_text hr (pa_cons (pv 0) (pa_cons (pv 1) pa_nil)) (by omega)))
      (pss_cons (ps_set (i := 3) sc_law_strange.nd rfl (.inl rfl) (p_call C_law_take hr (pa_cons (pv 0) (pa_cons (pe_op op_add (pe_callB call_lenS (by rfl) Tx.m_len (by decide +kernel) (pa_cons (pv 2) pa_nil)) pe_int) pa_nil)) (by omega)))
      (pss_one (ps_ret (pe_op op_catS (pe_op op_catS (pe_slice sl_str (pv 2) po_none (po_some (pv 3))) pe_str) (pe_slice sl_str (pv 2) (po_some (pv 3)) po_none)))))), ?_⟩
  refine run0 (A := A) (ms := ?ms) (XA := XA) h1 h2 h5 ?r ?u
  case r => exact (rs_seq (rs_asg (re_call (ra_cons re_var (ra_cons re_var ra_nil))) rg_name)
      (rs_seq (rs_asg (re_call (ra_cons re_var (ra_cons (re_op ro_int (re_cb rcb_lenS (ra_cons re_var ra_nil)) re_int) ra_nil))) rg_name)
      (rs_ret (re_op ro_catS (re_op ro_catS (re_slS re_var ro_no (ro_part re_var)) re_str) (re_slS re_var (ro_part re_var) ro_no)))))
  case u =>
    clear h1 h2 h5 h6 hr
    obtain ⟨m, rfl, m0, m1, hk⟩ := hc
    (simp! only [mSlS])
    refine ⟨m, rfl, m0, m1, fun x hx => ?_⟩
    refine ⟨x, rfl, by omega, ?_⟩
    (simp! only [])
    refine ⟨_, rfl, by omega, fun y y0 y1 => ?_⟩
    obtain ⟨n, rfl⟩ := Int.eq_ofNat_of_zero_le y0
    exact ⟨n, rfl, x, rfl, by omega, ins_sign (c := 9) (by omega) (by omega) (by decide) (by decide) hk⟩
end
end Mt
namespace Mt
open PySem PySem.Spec PyProof.Rows L2 L2H
section
variable {P : Program} {w : World} {K : PySem.W.Frag} {mg : Str → Option Value} {base : Heap} {f : Addr} {fd : FuncData} {A : Ad} {tk : Nat → Tok}
theorem ok_law_not_number (F : Fun K "_law_not_number" "_law_not_number" s_law_not_number f fd) (Tx : Txt K mg A tk) (C_law_take : Cal P w K mg base "_law_take" 2 ["store", "many"] (SpU A 2 c_law_take)) :
    FnOk P w K mg base CX0 3 f fd ["store", "low", "high"] (SpU A 3 c_law_not_number) := by
  refine F.ok sc_law_not_number (fun vs H Q E h => h.len) (fun cdv Ar outer s H vs Q E hr h => ?_)
  obtain ⟨st, P0, ds, k, XA, h1, h2, h3, hc, h5, h6⟩ := h
  refine ⟨_, (pss_cons (ps_set (i := 3) sc_law_not_number.nd rfl (.inl rfl) (pe_lst (pa_cons (pe_op op_sub (pv 1) pe_int) (pa_cons (pe_op op_add (pv 2) pe_int) (pa_cons (pe_op op_sub (pe_op op_sub (pv 1) pe_int) (p_call C_law_take hr (pa_cons (pv 0) (pa_cons pe_int pa_nil)) (by omega))) (pa_cons (pe_op op_add (pe_op op_add (pv 2) pe_int) (p_call C_law_take hr (pa_cons (pv 0) (pa_cons pe_int pa_nil)) (by omega))) (pa_cons (pe_op op_add (pv 2) (pe_op op_pow pe_int pe_int)) pa_nil)))))))
      (pss_cons (ps_set (i := 3) sc_law_not_number.nd rfl (.inl rfl) (pe_op op_cat (pv 3) (pe_lst (pa_cons (pe_op op_sub (pv 1) (pe_op op_pow pe_int pe_int)) (pa_cons pe_bl (pa_cons pe_bl (pa_cons pe_non (pa_cons (pe_callTy call_strH (by rfl) Tx.m_str (by decide +kernel) (pa_cons (pv 1) pa_nil)) (pa_cons pe_str (pa_cons (pe_lst (pa_cons (pv 1) pa_nil)) (pa_cons (pe_tup (pa_cons (pv 1) pa_nil)) (pa_cons (pe_lst pa_nil) (pa_cons (pe_tup pa_nil) pa_nil)))))))))))))
      (pss_one (ps_ret (pe_ix ix_H (pv 3) (p_call C_law_take hr (pa_cons (pv 0) (pa_cons (pe_callB call_lenH (by rfl) Tx.m_len (by decide +kernel) (pa_cons (pv 3) pa_nil)) pa_nil)) (by omega)) (fun _ _ => rfl)))))), ?_⟩
  refine run0 (A := A) (ms := ?ms) (XA := XA) h1 h2 h5 ?r ?u
  case r => exact (rs_seq (rs_asg (re_lst (ra_cons (re_op ro_int re_var re_int) (ra_cons (re_op ro_int re_var re_int) (ra_cons (re_op ro_int (re_op ro_int re_var re_int) (re_call (ra_cons re_var (ra_cons re_int ra_nil)))) (ra_cons (re_op ro_int (re_op ro_int re_var re_int) (re_call (ra_cons re_var (ra_cons re_int ra_nil)))) (ra_cons (re_op ro_int re_var (re_op ro_intC re_int re_int)) ra_nil)))))) rg_name)
      (rs_seq (rs_asg (re_op ro_cat re_var (re_lst (ra_cons (re_op ro_int re_var (re_op ro_intC re_int re_int)) (ra_cons re_bl (ra_cons re_bl (ra_cons re_non (ra_cons (re_cb rcb_str (ra_cons re_var ra_nil)) (ra_cons re_str (ra_cons (re_lst (ra_cons re_var ra_nil)) (ra_cons (re_tup (ra_cons re_var ra_nil)) (ra_cons (re_lst ra_nil) (ra_cons (re_tup ra_nil) ra_nil)))))))))))) rg_name)
      (rs_ret (re_op ro_ix re_var (re_call (ra_cons re_var (ra_cons (re_cb rcb_len (ra_cons re_var ra_nil)) ra_nil)))))))
  case u =>
    clear h1 h2 h5 h6 hr
    obtain ⟨lo, hi, rfl, h0, h1, h2, hk⟩ := hc
    have pw : (10 : Int) ^ Int.toNat 30 = 1000000000000000000000000000000 := by decide
    have cp : CPow 10 30 := ⟨by decide, by decide, by decide⟩
    have lg : lo.natAbs.log2 < 1920 := by
      by_cases z : lo.natAbs = 0
      · rw [z]
        decide
      · refine (Nat.log2_lt z).mpr (Nat.lt_of_lt_of_le (show lo.natAbs < 2 ^ 20 by omega) (Nat.pow_le_pow_right (by decide) (by decide)))
    (simp! only [pw])
    refine ⟨1000, rfl, by decide, fun r1 r10 r11 => ?_⟩
    (simp! only [pw])
    refine ⟨1000, rfl, by decide, fun r2 r20 r21 => ?_⟩
    (simp! only [pw])
    refine ⟨cp, cp, lg, 15, rfl, by decide, fun r r0 r1 => ?_⟩
    (simp! only [])
    have lw : ∀ i : Int, i < lo → k (.int i) := fun i h => hk _ _ rfl rfl (by simp only [wholeT]; rw [decide_eq_false (show ¬ lo ≤ i by omega)]; rfl)
    have hw : ∀ i : Int, hi < i → k (.int i) := fun i h => hk _ _ rfl rfl (by simp only [wholeT]; rw [decide_eq_false (show ¬ i ≤ hi by omega), Bool.and_false])
    obtain ⟨j, rfl⟩ : ∃ j : Nat, r = (j : Int) := ⟨r.toNat, by omega⟩
    have hj : j < 15 := by omega
    have cases15 : j = 0 ∨ j = 1 ∨ j = 2 ∨ j = 3 ∨ j = 4 ∨ j = 5 ∨ j = 6 ∨ j = 7 ∨ j = 8 ∨ j = 9 ∨ j = 10 ∨ j = 11 ∨ j = 12 ∨ j = 13 ∨ j = 14 := by omega
    rcases cases15 with rfl | rfl | rfl | rfl | rfl | rfl | rfl | rfl | rfl | rfl | rfl | rfl | rfl | rfl | rfl
    · exact ⟨_, rfl, lw _ (by omega)⟩
    · exact ⟨_, rfl, hw _ (by omega)⟩
    · exact ⟨_, rfl, lw _ (by omega)⟩
    · exact ⟨_, rfl, hw _ (by omega)⟩
    · exact ⟨_, rfl, hw _ (by omega)⟩
    · exact ⟨_, rfl, lw _ (by omega)⟩
    · exact ⟨_, rfl, hk _ _ rfl rfl rfl⟩
    · exact ⟨_, rfl, hk _ _ rfl rfl rfl⟩
    · exact ⟨_, rfl, hk _ _ rfl rfl rfl⟩
    · exact ⟨_, rfl, hk _ _ rfl rfl rfl⟩
    · exact ⟨_, rfl, hk _ _ rfl rfl rfl⟩
    · exact ⟨_, rfl, hk _ _ rfl (by simp [okT, okTs]) rfl⟩
    · exact ⟨_, rfl, hk _ _ rfl (by simp [okT, okTs]) rfl⟩
    · exact ⟨_, rfl, hk _ _ rfl (by simp [okT, okTs]) rfl⟩
    · exact ⟨_, rfl, hk _ _ rfl (by simp [okT, okTs]) rfl⟩
end
end Mt
namespace Mt
open PySem PySem.Spec PyProof.Rows L2 L2H
section
variable {P : Program} {w : World} {K : PySem.W.Frag} {mg : Str → Option Value} {base : Heap} {f : Addr} {fd : FuncData} {A : Ad} {tk : Nat → Tok}
theorem ok_law_not_list (F : Fun K "_law_not_list" "_law_not_list" s_law_not_list f fd) (Tx : Txt K mg A tk) (C_law_take : Cal P w K mg base "_law_take" 2 ["store", "many"] (SpU A 2 c_law_take)) :
    FnOk P w K mg base CX0 3 f fd ["store", "row", "none"] (SpU A 3 c_law_not_list) := by
  refine F.ok sc_law_not_list (fun vs H Q E h => h.len) (fun cdv Ar outer s H vs Q E hr h => ?_)
  obtain ⟨st, P0, ds, k, XA, h1, h2, h3, hc, h5, h6⟩ := h
  refine ⟨_, (pss_cons (ps_set (i := 3) sc_law_not_list.nd rfl (.inl rfl) (pe_lst (pa_cons (pe_callTy call_tupOf (by rfl) Tx.m_tuple (by decide +kernel) (pa_cons (pv 1) pa_nil)) (pa_cons (pe_callTy call_tupOf (by rfl) Tx.m_tuple (by decide +kernel) (pa_cons (pv 1) pa_nil)) (pa_cons pe_bl (pa_cons pe_int (pa_cons (pe_callB call_lenH (by rfl) Tx.m_len (by decide +kernel) (pa_cons (pv 1) pa_nil)) (pa_cons pe_str (pa_cons pe_str (pa_cons (pe_tup pa_nil) pa_nil))))))))))
      (pss_cons (ps_if (pt_val (pv 2)) (pss_one (ps_expr (pe_bm PySem.F.plainAttrs_list PySem.F.slot_list_append PySem.F.type_list_append mt_append (pv 3) (pa_cons pe_non pa_nil)))) pss_nil)
      (pss_one (ps_ret (pe_ix ix_H (pv 3) (p_call C_law_take hr (pa_cons (pv 0) (pa_cons (pe_callB call_lenH (by rfl) Tx.m_len (by decide +kernel) (pa_cons (pv 3) pa_nil)) pa_nil)) (by omega)) (fun _ _ => rfl)))))), ?_⟩
  refine run0 (A := A) (ms := ?ms) (XA := XA) h1 h2 h5 ?r ?u
  case r => exact (rs_seq (rs_own (row_lst (ra_cons (re_cb rcb_tupOf (ra_cons re_var ra_nil)) (ra_cons (re_cb rcb_tupOf (ra_cons re_var ra_nil)) (ra_cons re_bl (ra_cons re_int (ra_cons (re_cb rcb_len (ra_cons re_var ra_nil)) (ra_cons re_str (ra_cons re_str (ra_cons (re_tup ra_nil) ra_nil))))))))))
      (rs_seq (rs_if (rt_B re_var) (rs_app re_non) rs_next)
      (rs_ret (re_ixV (re_call (ra_cons re_var (ra_cons re_lenV ra_nil)))))))
  case u =>
    clear h1 h2 h5 h6 hr
    obtain ⟨es, q, rfl, ho, hk⟩ := hc
    (simp! only [])
    intro _
    have fin : ∀ (xs : List T), (∀ x, x ∈ xs → x = .tup es ∨ x = .bl true ∨ x = .int 0 ∨ x = .int es.length ∨ x = .str "" ∨ x = .str "01" ∨ x = .tup [] ∨ x = .non) → ∀ (u : Int), 0 ≤ u → u < xs.length → ∃ t, atI xs u = some t ∧ k t := fun xs hxs u u0 u1 => by
      obtain ⟨t, e1, e2⟩ := pick_mem u0 u1
      refine ⟨t, e1, ?_⟩
      rcases hxs t e2 with rfl | rfl | rfl | rfl | rfl | rfl | rfl | rfl
      · exact hk _ _ rfl (by simp only [okT]; exact ho) (fun _ e => nomatch e)
      · exact hk _ _ rfl (by simp [okT]) (fun _ e => nomatch e)
      · exact hk _ _ rfl (by simp [okT]) (fun _ e => nomatch e)
      · exact hk _ _ rfl (by simp [okT]) (fun _ e => nomatch e)
      · exact hk _ _ rfl (by simp [okT]) (fun _ e => nomatch e)
      · exact hk _ _ rfl (by simp [okT]) (fun _ e => nomatch e)
      · exact hk _ _ rfl (by simp [okT, okTs]) (fun _ e => nomatch e)
      · exact hk _ _ rfl (by simp [okT]) (fun _ e => nomatch e)
    cases q with
    | true =>
      (simp! only [])
      refine ⟨9, rfl, by decide, fun u u0 u1 => ?_⟩
      (simp! only [])
      refine fin _ ?_ u u0 (by show u < 9; omega)
      intro x hx
      simp only [List.mem_cons, List.not_mem_nil, or_false] at hx
      rcases hx with rfl | rfl | rfl | rfl | rfl | rfl | rfl | rfl | rfl <;> simp
    | false =>
      (simp! only [])
      refine ⟨8, rfl, by decide, fun u u0 u1 => ?_⟩
      (simp! only [])
      refine fin _ ?_ u u0 (by show u < 8; omega)
      intro x hx
      simp only [List.mem_cons, List.not_mem_nil, or_false] at hx
      rcases hx with rfl | rfl | rfl | rfl | rfl | rfl | rfl | rfl <;> simp
end
end Mt
namespace Mt
open PySem PySem.Spec PyProof.Rows L2 L2H
section
variable {P : Program} {w : World} {K : PySem.W.Frag} {mg : Str → Option Value} {base : Heap} {f : Addr} {fd : FuncData} {A : Ad} {tk : Nat → Tok}
theorem ok_law_not_upto (F : Fun K "_law_not_upto" "_law_not_upto" s_law_not_upto f fd) (Tx : Txt K mg A tk) (C_law_not_list : Cal P w K mg base "_law_not_list" 3 ["store", "row", "none"] (SpU A 3 c_law_not_list)) (C_law_not_number : Cal P w K mg base "_law_not_number" 3 ["store", "low", "high"] (SpU A 3 c_law_not_number)) (C_law_take : Cal P w K mg base "_law_take" 2 ["store", "many"] (SpU A 2 c_law_take)) :
    FnOk P w K mg base CX0 4 f fd ["store", "size", "row", "most"] (SpU A 4 c_law_not_upto) := by
  refine F.ok sc_law_not_upto (fun vs H Q E h => h.len) (fun cdv Ar outer s H vs Q E hr h => ?_)
  obtain ⟨st, P0, ds, k, XA, h1, h2, h3, hc, h5, h6⟩ := h
  refine ⟨_, (pss_cons (ps_set (i := 4) sc_law_not_upto.nd rfl (.inl rfl) (p_call C_law_take hr (pa_cons (pv 0) (pa_cons pe_int pa_nil)) (by omega)))
      (pss_cons (ps_if (pt_cmpR op_eq (pv 4) pe_int (nomark _)) (pss_one (ps_ret (pe_tup (pa_cons (p_call C_law_not_list hr (pa_cons (pv 0) (pa_cons (pv 2) (pa_cons pe_bl pa_nil))) (by omega)) (pa_cons pe_str pa_nil))))) pss_nil)
      (pss_cons (ps_set (i := 5) sc_law_not_upto.nd rfl (.inl rfl) (pe_callTy call_listH (by rfl) Tx.m_list (by decide +kernel) (pa_cons (pv 2) pa_nil)))
      (pss_cons (ps_if (PW.pt (pw_and (pt_cmpR op_lt (pv 4) pe_int (nomark _)) (pw_and1 (pt_cmpR op_gt (pe_callB call_lenH (by rfl) Tx.m_len (by decide +kernel) (pa_cons (pv 5) pa_nil)) pe_int (nomark _))))) (pss_cons (ps_asg (p_call C_law_not_number hr (pa_cons (pv 0) (pa_cons pe_int (pa_cons (pe_op op_sub (pv 1) pe_int) pa_nil))) (by omega)) (pg_sub (pv 5) (p_call C_law_take hr (pa_cons (pv 0) (pa_cons (pe_callB call_lenH (by rfl) Tx.m_len (by decide +kernel) (pa_cons (pv 5) pa_nil)) pa_nil)) (by omega)) set_list))
      (pss_one (ps_ret (pe_tup (pa_cons (pv 5) (pa_cons pe_str pa_nil)))))) pss_nil)
      (pss_cons (ps_if (PW.pt (pw_and (pt_cmpR op_eq (pv 4) pe_int (nomark _)) (pw_and1 (pt_cmpR op_lt (pe_callB call_lenH (by rfl) Tx.m_len (by decide +kernel) (pa_cons (pv 5) pa_nil)) (pv 3) (nomark _))))) (pss_cons (ps_set (i := 6) sc_law_not_upto.nd rfl (.inl rfl) (p_call C_law_take hr (pa_cons (pv 0) (pa_cons (pe_op op_add (pe_callB call_lenH (by rfl) Tx.m_len (by decide +kernel) (pa_cons (pv 5) pa_nil)) pe_int) pa_nil)) (by omega)))
      (pss_cons (ps_expr (pe_bm PySem.F.plainAttrs_list PySem.F.slot_list_insert PySem.F.type_list_insert mt_insH (pv 5) (pa_cons (pv 6) (pa_cons (p_call C_law_not_number hr (pa_cons (pv 0) (pa_cons pe_int (pa_cons (pe_op op_sub (pv 1) pe_int) pa_nil))) (by omega)) pa_nil))))
      (pss_one (ps_ret (pe_tup (pa_cons (pv 5) (pa_cons pe_str pa_nil))))))) pss_nil)
      (pss_cons (ps_set (i := 5) sc_law_not_upto.nd rfl (.inl rfl) (pe_op op_cat (pv 5) (pe_lc (own := [("k", 7)]) (g := gName 7) rfl sc_law_not_upto.nd (pi_range1 (by rfl) Tx.m_range (pa_cons (pe_op op_sub (pe_op op_add (pv 3) pe_int) (pe_callB call_lenH (by rfl) Tx.m_len (by decide +kernel) (pa_cons (pv 5) pa_nil))) pa_nil)) (blkOk_by (N := ["store", "size", "row", "most", "way", "found", "at", "k"]) (sc := defScope s_law_not_upto) (by decide +kernel)) (fun _ _ _ _ _ => pg_name (i := 7) sc_law_not_upto.nd rfl (.inl rfl)) (fun _ _ _ _ _ => pts_nil) (fun _ _ _ _ _ => pe_int))))
      (pss_cons (ps_if (pt_cmpR op_eq (pv 4) pe_int (nomark _)) (pss_one (ps_asg (p_call C_law_not_number hr (pa_cons (pv 0) (pa_cons pe_int (pa_cons (pe_op op_sub (pv 1) pe_int) pa_nil))) (by omega)) (pg_sub (pv 5) (p_call C_law_take hr (pa_cons (pv 0) (pa_cons (pe_callB call_lenH (by rfl) Tx.m_len (by decide +kernel) (pa_cons (pv 5) pa_nil)) pa_nil)) (by omega)) set_list))) pss_nil)
      (pss_one (ps_ret (pe_tup (pa_cons (pv 5) (pa_cons pe_str pa_nil)))))))))))), ?_⟩
  refine run0 (A := A) (ms := ?ms) (XA := XA) h1 h2 h5 ?r ?u
  case r => exact (rs_seq (rs_asg (re_call (ra_cons re_var (ra_cons re_int ra_nil))) rg_name)
      (rs_seq (rs_if (rt_test (re_op ro_eq re_var re_int)) (rs_ret (re_tup (ra_cons (re_call (ra_cons re_var (ra_cons re_var (ra_cons re_bl ra_nil)))) (ra_cons re_str ra_nil)))) rs_next)
      (rs_seq (rs_own (row_list (ra_cons re_var ra_nil)))
      (rs_seq (rs_if (rt_and (rt_test (re_op ro_bool re_var re_int)) (rt_test (re_op ro_bool re_lenV re_int))) (rs_seq (rs_putI (re_call (ra_cons re_var (ra_cons re_int (ra_cons (re_op ro_int re_var re_int) ra_nil)))) (re_call (ra_cons re_var (ra_cons re_lenV ra_nil))))
      (rs_frz 5 (rs_ret (re_tup (ra_cons re_var (ra_cons re_str ra_nil)))))) rs_next)
      (rs_seq (rs_if (rt_and (rt_test (re_op ro_eq re_var re_int)) (rt_test (re_op ro_bool re_lenV re_var))) (rs_seq (rs_asg (re_call (ra_cons re_var (ra_cons (re_op ro_int re_lenV re_int) ra_nil))) rg_name)
      (rs_seq (rs_ins re_var (re_call (ra_cons re_var (ra_cons re_int (ra_cons (re_op ro_int re_var re_int) ra_nil)))))
      (rs_frz 5 (rs_ret (re_tup (ra_cons re_var (ra_cons re_str ra_nil))))))) rs_next)
      (rs_seq (rs_frz 5 (rs_own (row_cat re_var (re_lc (vs := [7]) (is := [7]) (ric_of (ri_rng1 (ra_cons (re_op ro_int (re_op ro_int re_var re_int) re_lenV) ra_nil))) rg_name rt_yes re_int))))
      (rs_seq (rs_if (rt_test (re_op ro_eq re_var re_int)) (rs_putI (re_call (ra_cons re_var (ra_cons re_int (ra_cons (re_op ro_int re_var re_int) ra_nil)))) (re_call (ra_cons re_var (ra_cons re_lenV ra_nil)))) rs_next)
      (rs_frz 5 (rs_ret (re_tup (ra_cons re_var (ra_cons re_str ra_nil))))))))))))
  case u =>
    clear h1 h2 h5 h6 hr
    obtain ⟨size, es, most, rfl, s1, s2, ho, hl, hm, hk⟩ := hc
    (simp! only [])
    refine ⟨6, rfl, by decide, fun w w0 w1 => ?_⟩
    (simp! only [])
    refine ite2 (fun _ => ⟨es, true, rfl, ho, fun v n hv hv2 hv3 => ?_⟩) (fun hw0 => ?_)
    · refine hk _ _ ⟨okT_le hv2 (by decide), ⟨n, hv⟩, Or.inl ⟨rfl, ?_⟩⟩
      cases v <;> first | rfl | exact absurd rfl (hv3 _)
    · have bad : ∀ (bv : T) (n : String) (xs : List T), tyT bv = some n → okT 2 bv = true → wholeT bv 0 (size - 1) = false → bv ∈ xs → okTs 2 xs = true → xs.length ≤ most → k (.tup [.lst xs, .str "BadElement"]) := fun bv n xs hv hv2 hv3 hm2 hx hlx => by
        refine hk _ _ ⟨okT_le (n := 3) (by simp only [okT]; exact hx) (by decide), ⟨_, rfl⟩, Or.inr ⟨rfl, shape_le (by omega), xs, rfl, ?_⟩⟩
        rw [List.all_eq_false]
        exact ⟨bv, hm2, by rw [hv3]; decide⟩
      have big : ∀ (xs : List T), okTs 2 xs = true → most < xs.length → k (.tup [.lst xs, .str "BadShape"]) := fun xs hx hlx =>
        hk _ _ ⟨okT_le (n := 3) (by simp only [okT]; exact hx) (by decide), ⟨_, rfl⟩, Or.inl ⟨rfl, shape_big (by omega)⟩⟩
      refine ite2 (fun h4 _ => ite2 (fun hpos => ?A) (fun hz => ite2 (fun h44 _ => ite2 (fun hlt => ?B1) (fun hge => ?_)) (fun h5 => ?_))) (fun h4 => ite2 (fun h44 _ => ite2 (fun hlt => ?B2) (fun hge => ?_)) (fun h5 => ?_))
      case A =>
        refine ⟨0, size - 1, rfl, by omega, by omega, by omega, fun bv n hv hv2 hv3 _ => ⟨es.length, rfl, by omega, fun u u0 u1 => ?_⟩⟩
        obtain ⟨u, rfl⟩ := Int.eq_ofNat_of_zero_le u0
        have hu : u < es.length := by omega
        refine ⟨u, u, rfl, ixN_nat hu, bad bv n _ hv hv2 hv3 (List.mem_set hu bv) (okTs_set hv2 ho) (by rw [List.length_set]; omega)⟩
      case B1 => exact absurd h44 (by omega)
      case B2 =>
        refine fun _ => ⟨(es.length : Int) + 1, rfl, by omega, fun u u0 u1 => ⟨0, size - 1, rfl, by omega, by omega, by omega, fun bv n hv hv2 hv3 => ?_⟩⟩
        obtain ⟨u, rfl⟩ := Int.eq_ofNat_of_zero_le u0
        refine ⟨u, rfl, by omega, by omega, bad bv n _ hv hv2 hv3 (by simp) ?_ ?_⟩
        · refine okTs_appd (okTs_appd (okTs_tk u ho) ?_) (okTs_dr u ho)
          simp only [okTs, hv2, Bool.and_self]
        · rw [List.length_append, List.length_append, List.length_take, List.length_drop]
          simp only [List.length_cons, List.length_nil]
          omega
      all_goals
        refine fun _ => ⟨by omega, by omega, fun i acc => acc = List.replicate i (T.int 0), rfl, fun i x acc hx ha => ?_, fun acc ha => ?_⟩
        · (simp! only [])
          subst ha
          rw [← List.replicate_succ, List.replicate_succ']
        · rw [rngT_len] at ha
          subst ha
          have hz := okTs_appd ho (okTs_zero (n := 2) (m := (((most : Int) + 1 - es.length).toNat)))
          have hlz : (es ++ List.replicate (((most : Int) + 1 - es.length).toNat) (T.int 0)).length = most + 1 := by
            rw [List.length_append, List.length_replicate]
            omega
          refine ⟨_, _, rfl, rfl, by rw [List.length_replicate]; omega, ?_⟩
          generalize es ++ List.replicate (((most : Int) + 1 - es.length).toNat) (T.int 0) = zs at hz hlz ⊢
          refine ite2 (fun _ => ?_) (fun _ => big _ hz (by omega))
          refine ⟨0, size - 1, rfl, by omega, by omega, by omega, fun bv n hv hv2 hv3 _ => ⟨zs.length, rfl, by omega, fun u u0 u1 => ?_⟩⟩
          obtain ⟨u, rfl⟩ := Int.eq_ofNat_of_zero_le u0
          have hu : u < zs.length := by omega
          exact ⟨u, u, rfl, ixN_nat hu, big _ (okTs_set hv2 hz) (by rw [List.length_set]; omega)⟩
end
end Mt
namespace Mt
open PySem PySem.Spec PyProof.Rows L2 L2H
section
variable {P : Program} {w : World} {K : PySem.W.Frag} {mg : Str → Option Value} {base : Heap} {f : Addr} {fd : FuncData} {A : Ad} {tk : Nat → Tok}
theorem ok_kind0 (F : Fun K "_law_kind" "_law_kind" s_law_kind f fd) (Tx : Txt K mg A tk) : FnE P w K mg base 1 f fd ["error"] (sp_kind K A) := by
  refine okE F sc_law_kind (fun p vs H Q E h => ?_) (fun p cdv Ar outer s H vs Q E hot hr h => ?_)
  · obtain ⟨C, d, y, b1, b2, b3, rfl, _⟩ := h
    rfl
  · obtain ⟨C, d, y, b1, b2, b3, rfl, z, XC, no, kk, hb, hd, q⟩ := h
    have hp : p ∈ (cxH CX0 P w K mg base ["error", "found"] "_law_kind" (defScope s_law_kind) f cdv Ar outer s H E p).pn := List.mem_singleton.mpr rfl
    refine ⟨_, (pss_cons (ps_set (i := 1) sc_law_kind.nd rfl (.inl rfl) (pe_lst pa_nil))
      (pss_cons (ps_if (pt_val (pe_callB (call_isE XC z hp) (by rfl) Tx.m_isinstance (by decide +kernel) (pa_cons (pv 0) (pa_cons (pe_glob (v := .ref A.bn) rfl Tx.g_BadNumber rfl) pa_nil)))) (pss_one (ps_expr (pe_bm PySem.F.plainAttrs_list PySem.F.slot_list_append PySem.F.type_list_append mt_append (pv 1) (pa_cons (pe_tup (pa_cons pe_str (pa_cons (pe_errF XC no z hp (pv 0)) pa_nil))) pa_nil)))) pss_nil)
      (pss_cons (ps_if (pt_val (pe_callB (call_isE XC z hp) (by rfl) Tx.m_isinstance (by decide +kernel) (pa_cons (pv 0) (pa_cons (pe_glob (v := .ref A.bs) rfl Tx.g_BadShape rfl) pa_nil)))) (pss_one (ps_expr (pe_bm PySem.F.plainAttrs_list PySem.F.slot_list_append PySem.F.type_list_append mt_append (pv 1) (pa_cons (pe_tup (pa_cons pe_str (pa_cons (pe_errF XC no z hp (pv 0)) pa_nil))) pa_nil)))) pss_nil)
      (pss_cons (ps_if (pt_val (pe_callB (call_isE XC z hp) (by rfl) Tx.m_isinstance (by decide +kernel) (pa_cons (pv 0) (pa_cons (pe_glob (v := .ref A.be) rfl Tx.g_BadElement rfl) pa_nil)))) (pss_one (ps_expr (pe_bm PySem.F.plainAttrs_list PySem.F.slot_list_append PySem.F.type_list_append mt_append (pv 1) (pa_cons (pe_tup (pa_cons pe_str (pa_cons (pe_errF XC no z hp (pv 0)) pa_nil))) pa_nil)))) pss_nil)
      (pss_cons (ps_if (pt_val (pe_callB (call_isE XC z hp) (by rfl) Tx.m_isinstance (by decide +kernel) (pa_cons (pv 0) (pa_cons (pe_glob (v := .ref A.bt) rfl Tx.g_BadText rfl) pa_nil)))) (pss_one ps_never) pss_nil)
      (pss_cons (ps_if (pt_val (pe_callB (call_isE XC z hp) (by rfl) Tx.m_isinstance (by decide +kernel) (pa_cons (pv 0) (pa_cons (pe_glob (v := .ref A.tl) rfl Tx.g_TooLarge rfl) pa_nil)))) (pss_one ps_never) pss_nil)
      (pss_cons (ps_if (pt_val (pe_callB (call_isE XC z hp) (by rfl) Tx.m_isinstance (by decide +kernel) (pa_cons (pv 0) (pa_cons (pe_glob (v := .ref A.cl) rfl Tx.g_Clash rfl) pa_nil)))) (pss_one ps_never) pss_nil)
      (pss_cons (ps_if (pt_val (pe_callB (call_isE XC z hp) (by rfl) Tx.m_isinstance (by decide +kernel) (pa_cons (pv 0) (pa_cons (pe_glob (v := .ref A.ni) rfl Tx.g_NoInverse rfl) pa_nil)))) (pss_one ps_never) pss_nil)
      (pss_cons (ps_if (pt_val (pe_callB (call_isE XC z hp) (by rfl) Tx.m_isinstance (by decide +kernel) (pa_cons (pv 0) (pa_cons (pe_glob (v := .ref A.nm) rfl Tx.g_NotMade rfl) pa_nil)))) (pss_one ps_never) pss_nil)
      (pss_cons (ps_if (pt_val (pe_callB (call_isE XC z hp) (by rfl) Tx.m_isinstance (by decide +kernel) (pa_cons (pv 0) (pa_cons (pe_glob (v := .ref A.en) rfl Tx.g_Ended rfl) pa_nil)))) (pss_one ps_never) pss_nil)
      (pss_cons (ps_if (PW.pt (pw_or (pt_cmpR op_ne (pe_callB call_lenH (by rfl) Tx.m_len (by decide +kernel) (pa_cons (pv 1) pa_nil)) pe_int (nomark _)) (pw_or (pt_not (pt_val (pe_callB (call_isE XC z hp) (by rfl) Tx.m_isinstance (by decide +kernel) (pa_cons (pv 0) (pa_cons (pe_glob (v := .ref A.me) rfl Tx.g_MendError rfl) pa_nil))))) (pw_or1 (pt_not (pt_val (pe_callB (call_isE XC z hp) (by rfl) Tx.m_isinstance (by decide +kernel) (pa_cons (pv 0) (pa_cons (pe_bltn (v := .ty "ValueError") (u := .type "ValueError") (by rfl) Tx.m_ValueError (by decide +kernel) rel_ty) pa_nil))))))))) (pss_one (ps_ret (pe_tup (pa_cons pe_str pa_nil)))) pss_nil)
      (pss_one (ps_ret (pe_ix ix_H (pv 1) pe_int (fun _ _ => rfl))))))))))))))), ?_⟩
    have isE : ∀ (G : Hp) (c : Addr) (R : VK), G d = some (.xd [("argument", y)]) → rIsE K C d p.1 [.ref p.1, .ref c] G R = ∃ b, PySem.W.kitOne K (.ref C) (.ref c) = some b ∧ R (.bl b) G := fun G c R e => w_isE e
    have isT : ∀ (G : Hp) (n : String) (R : VK), G d = some (.xd [("argument", y)]) → rIsE K C d p.1 [.ref p.1, .ty n] G R = ∃ b, PySem.W.kitOne K (.ref C) (.type n) = some b ∧ R (.bl b) G := fun G n R e => w_isEt e
    have lk : List.lookup ("argument" : Str) [(("argument" : Str), y)] = some y := rfl
    have cK : (cxH CX0 P w K mg base ["error", "found"] "_law_kind" (defScope s_law_kind) f cdv Ar outer s H E p).K = K := rfl
    simp only [w_seq, w_next, w_ret, w_asg, w_ifs, w_drop, w_brk, w_cont, w_name, w_var, w_c, w_op, w_un, w_I, w_I0, w_U, w_eq, w_scII, w_scBB, w_scSS, w_scNN, w_zi, w_zb, w_zn, w_zs, V.int.injEq, V.bl.injEq, V.str.injEq, V.ref.injEq, w_ne, w_test, w_B, w_and, w_or, w_not, w_andV, w_orV, w_notV, w_if, w_isN, w_nil, w_cons, w_cb, w_call, w_tup, w_lst, w_sub, w_intI, w_intB, w_isTyH, w_typ, w_isH, w_ixH, w_lenH, w_absH, w_listH, w_strH, w_bm, w_chain, w_exB, w_exV, w_start, k_ii, k_ib, k_is, k_il, k_it, k_bi, k_bb, k_bs, k_bl, k_bt, k_ni, k_nb, k_ns, k_nl, k_nt, k_si, k_sb, k_ss, k_sl, k_st, k_li, k_lb, k_ls, k_ll, k_lt, k_ti, k_tb, k_ts, k_tl, k_tt, w_st1, w_st2, w_st3, w_st5, atI_s0, atI_s1, atI_s2, atI_s3, atI_s4, atI_s5, List.map_cons, List.map_nil, List.length_cons, List.length_nil, List.replicate, List.cons_append, List.nil_append, List.append_nil, List.getElem?_cons_zero, List.getElem?_cons_succ, List.set_cons_zero, List.set_cons_succ, Nat.sub_self, Nat.reduceAdd, Nat.reduceSub, List.replicate_zero, decide_eq_true_eq, Bool.true_eq_false, Bool.false_eq_true, if_true, if_false, reduceIte, Bool.not_eq_true', decide_eq_false_iff_not, Bool.not_true, Bool.not_false, exists_eq_left', true_and, and_true, Option.some.injEq, reduceCtorEq, decide_true, decide_false, not_true_eq_false, not_false_eq_true, sizeLine_eq, Nat.reduceLeDiff, Bool.or_false, Bool.or_true, Bool.false_or, Bool.true_or, wp1, wp2, w_par, w_par2, w_tsl, w_nopart, w_part, w_exI, cK]
    intro l hl
    have d1 : d ≠ l := ne_of_none hd hl
    have u1 : ∀ (G : Hp) (o : HO), upd G l o d = G d := fun G o => upd_ne d1
    have fin : ∀ (t : Addr) (nm : Str), upd H l (.lst []) t = none → nm = kindS b1 b2 → ∀ R : Hp → Prop, (∀ G : Hp, Same H G → G t = some (.tup [.str nm, y]) → G l = some (.lst [.ref t]) → t ≠ l → d ≠ t → H t = none → R G) →
        rAppend (.ref l) [.ref t] (upd (upd H l (.lst [])) t (.tup [.str nm, y])) fun _ G => R G := fun t nm ht en R k => by
      have tl : t ≠ l := fun e => by
        rw [e, upd_same] at ht
        cases ht
      have ht0 : H t = none := by
        rw [upd_ne tl] at ht
        exact ht
      have dt : d ≠ t := ne_of_none hd ht0
      have e1 : upd (upd H l (.lst [])) t (.tup [.str nm, y]) l = some (.lst []) := by
        rw [upd_ne (Ne.symm tl), upd_same]
      rw [w_append e1]
      refine ⟨by decide, k _ (same_mut (same_mut (same_new hl) ht0) hl) ?_ upd_same tl dt ht0⟩
      rw [upd_ne tl, upd_same]
    rcases hb with hb | hb | hb
    · cases hb
      simp only [w_seq, w_next, w_ret, w_asg, w_ifs, w_drop, w_brk, w_cont, w_name, w_var, w_c, w_op, w_un, w_I, w_I0, w_U, w_eq, w_scII, w_scBB, w_scSS, w_scNN, w_zi, w_zb, w_zn, w_zs, V.int.injEq, V.bl.injEq, V.str.injEq, V.ref.injEq, w_ne, w_test, w_B, w_and, w_or, w_not, w_andV, w_orV, w_notV, w_if, w_isN, w_nil, w_cons, w_cb, w_call, w_tup, w_lst, w_sub, w_intI, w_intB, w_isTyH, w_typ, w_isH, w_ixH, w_lenH, w_absH, w_listH, w_strH, w_bm, w_chain, w_exB, w_exV, w_start, k_ii, k_ib, k_is, k_il, k_it, k_bi, k_bb, k_bs, k_bl, k_bt, k_ni, k_nb, k_ns, k_nl, k_nt, k_si, k_sb, k_ss, k_sl, k_st, k_li, k_lb, k_ls, k_ll, k_lt, k_ti, k_tb, k_ts, k_tl, k_tt, w_st1, w_st2, w_st3, w_st5, atI_s0, atI_s1, atI_s2, atI_s3, atI_s4, atI_s5, List.map_cons, List.map_nil, List.length_cons, List.length_nil, List.replicate, List.cons_append, List.nil_append, List.append_nil, List.getElem?_cons_zero, List.getElem?_cons_succ, List.set_cons_zero, List.set_cons_succ, Nat.sub_self, Nat.reduceAdd, Nat.reduceSub, List.replicate_zero, decide_eq_true_eq, Bool.true_eq_false, Bool.false_eq_true, if_true, if_false, reduceIte, Bool.not_eq_true', decide_eq_false_iff_not, Bool.not_true, Bool.not_false, exists_eq_left', true_and, and_true, Option.some.injEq, reduceCtorEq, decide_true, decide_false, not_true_eq_false, not_false_eq_true, sizeLine_eq, Nat.reduceLeDiff, Bool.or_false, Bool.or_true, Bool.false_or, Bool.true_or, wp1, wp2, w_par, w_par2, w_tsl, w_nopart, w_part, w_exI, isE, isT, u1, hd, kk.bn, kk.bs, kk.be, w_errF, cK, w_tyL upd_same]
      refine ⟨_, y, rfl, lk, fun t ht => fin t _ ht rfl _ fun G sG tG lG tl dt ht0 => ?_⟩
      have dG := sG _ _ hd
      simp only [w_seq, w_next, w_ret, w_asg, w_ifs, w_drop, w_brk, w_cont, w_name, w_var, w_c, w_op, w_un, w_I, w_I0, w_U, w_eq, w_scII, w_scBB, w_scSS, w_scNN, w_zi, w_zb, w_zn, w_zs, V.int.injEq, V.bl.injEq, V.str.injEq, V.ref.injEq, w_ne, w_test, w_B, w_and, w_or, w_not, w_andV, w_orV, w_notV, w_if, w_isN, w_nil, w_cons, w_cb, w_call, w_tup, w_lst, w_sub, w_intI, w_intB, w_isTyH, w_typ, w_isH, w_ixH, w_lenH, w_absH, w_listH, w_strH, w_bm, w_chain, w_exB, w_exV, w_start, k_ii, k_ib, k_is, k_il, k_it, k_bi, k_bb, k_bs, k_bl, k_bt, k_ni, k_nb, k_ns, k_nl, k_nt, k_si, k_sb, k_ss, k_sl, k_st, k_li, k_lb, k_ls, k_ll, k_lt, k_ti, k_tb, k_ts, k_tl, k_tt, w_st1, w_st2, w_st3, w_st5, atI_s0, atI_s1, atI_s2, atI_s3, atI_s4, atI_s5, List.map_cons, List.map_nil, List.length_cons, List.length_nil, List.replicate, List.cons_append, List.nil_append, List.append_nil, List.getElem?_cons_zero, List.getElem?_cons_succ, List.set_cons_zero, List.set_cons_succ, Nat.sub_self, Nat.reduceAdd, Nat.reduceSub, List.replicate_zero, decide_eq_true_eq, Bool.true_eq_false, Bool.false_eq_true, if_true, if_false, reduceIte, Bool.not_eq_true', decide_eq_false_iff_not, Bool.not_true, Bool.not_false, exists_eq_left', true_and, and_true, Option.some.injEq, reduceCtorEq, decide_true, decide_false, not_true_eq_false, not_false_eq_true, sizeLine_eq, Nat.reduceLeDiff, Bool.or_false, Bool.or_true, Bool.false_or, Bool.true_or, wp1, wp2, w_par, w_par2, w_tsl, w_nopart, w_part, w_exI, isE, isT, dG, kk.bs, kk.be, kk.bt, kk.tl, kk.cl, kk.ni, kk.nm, kk.en, kk.me, kk.ve, seqAt_l lG, w_errF, cK]
      rw [if_neg (by decide)]
      exact ⟨_, rfl, q t G sG ht0 tG⟩
    · cases hb
      simp only [w_seq, w_next, w_ret, w_asg, w_ifs, w_drop, w_brk, w_cont, w_name, w_var, w_c, w_op, w_un, w_I, w_I0, w_U, w_eq, w_scII, w_scBB, w_scSS, w_scNN, w_zi, w_zb, w_zn, w_zs, V.int.injEq, V.bl.injEq, V.str.injEq, V.ref.injEq, w_ne, w_test, w_B, w_and, w_or, w_not, w_andV, w_orV, w_notV, w_if, w_isN, w_nil, w_cons, w_cb, w_call, w_tup, w_lst, w_sub, w_intI, w_intB, w_isTyH, w_typ, w_isH, w_ixH, w_lenH, w_absH, w_listH, w_strH, w_bm, w_chain, w_exB, w_exV, w_start, k_ii, k_ib, k_is, k_il, k_it, k_bi, k_bb, k_bs, k_bl, k_bt, k_ni, k_nb, k_ns, k_nl, k_nt, k_si, k_sb, k_ss, k_sl, k_st, k_li, k_lb, k_ls, k_ll, k_lt, k_ti, k_tb, k_ts, k_tl, k_tt, w_st1, w_st2, w_st3, w_st5, atI_s0, atI_s1, atI_s2, atI_s3, atI_s4, atI_s5, List.map_cons, List.map_nil, List.length_cons, List.length_nil, List.replicate, List.cons_append, List.nil_append, List.append_nil, List.getElem?_cons_zero, List.getElem?_cons_succ, List.set_cons_zero, List.set_cons_succ, Nat.sub_self, Nat.reduceAdd, Nat.reduceSub, List.replicate_zero, decide_eq_true_eq, Bool.true_eq_false, Bool.false_eq_true, if_true, if_false, reduceIte, Bool.not_eq_true', decide_eq_false_iff_not, Bool.not_true, Bool.not_false, exists_eq_left', true_and, and_true, Option.some.injEq, reduceCtorEq, decide_true, decide_false, not_true_eq_false, not_false_eq_true, sizeLine_eq, Nat.reduceLeDiff, Bool.or_false, Bool.or_true, Bool.false_or, Bool.true_or, wp1, wp2, w_par, w_par2, w_tsl, w_nopart, w_part, w_exI, isE, isT, u1, hd, kk.bn, kk.bs, kk.be, w_errF, cK, w_tyL upd_same]
      refine ⟨_, y, rfl, lk, fun t ht => fin t _ ht rfl _ fun G sG tG lG tl dt ht0 => ?_⟩
      have dG := sG _ _ hd
      simp only [w_seq, w_next, w_ret, w_asg, w_ifs, w_drop, w_brk, w_cont, w_name, w_var, w_c, w_op, w_un, w_I, w_I0, w_U, w_eq, w_scII, w_scBB, w_scSS, w_scNN, w_zi, w_zb, w_zn, w_zs, V.int.injEq, V.bl.injEq, V.str.injEq, V.ref.injEq, w_ne, w_test, w_B, w_and, w_or, w_not, w_andV, w_orV, w_notV, w_if, w_isN, w_nil, w_cons, w_cb, w_call, w_tup, w_lst, w_sub, w_intI, w_intB, w_isTyH, w_typ, w_isH, w_ixH, w_lenH, w_absH, w_listH, w_strH, w_bm, w_chain, w_exB, w_exV, w_start, k_ii, k_ib, k_is, k_il, k_it, k_bi, k_bb, k_bs, k_bl, k_bt, k_ni, k_nb, k_ns, k_nl, k_nt, k_si, k_sb, k_ss, k_sl, k_st, k_li, k_lb, k_ls, k_ll, k_lt, k_ti, k_tb, k_ts, k_tl, k_tt, w_st1, w_st2, w_st3, w_st5, atI_s0, atI_s1, atI_s2, atI_s3, atI_s4, atI_s5, List.map_cons, List.map_nil, List.length_cons, List.length_nil, List.replicate, List.cons_append, List.nil_append, List.append_nil, List.getElem?_cons_zero, List.getElem?_cons_succ, List.set_cons_zero, List.set_cons_succ, Nat.sub_self, Nat.reduceAdd, Nat.reduceSub, List.replicate_zero, decide_eq_true_eq, Bool.true_eq_false, Bool.false_eq_true, if_true, if_false, reduceIte, Bool.not_eq_true', decide_eq_false_iff_not, Bool.not_true, Bool.not_false, exists_eq_left', true_and, and_true, Option.some.injEq, reduceCtorEq, decide_true, decide_false, not_true_eq_false, not_false_eq_true, sizeLine_eq, Nat.reduceLeDiff, Bool.or_false, Bool.or_true, Bool.false_or, Bool.true_or, wp1, wp2, w_par, w_par2, w_tsl, w_nopart, w_part, w_exI, isE, isT, dG, kk.bs, kk.be, kk.bt, kk.tl, kk.cl, kk.ni, kk.nm, kk.en, kk.me, kk.ve, seqAt_l lG, w_errF, cK]
      rw [if_neg (by decide)]
      exact ⟨_, rfl, q t G sG ht0 tG⟩
    · cases hb
      simp only [w_seq, w_next, w_ret, w_asg, w_ifs, w_drop, w_brk, w_cont, w_name, w_var, w_c, w_op, w_un, w_I, w_I0, w_U, w_eq, w_scII, w_scBB, w_scSS, w_scNN, w_zi, w_zb, w_zn, w_zs, V.int.injEq, V.bl.injEq, V.str.injEq, V.ref.injEq, w_ne, w_test, w_B, w_and, w_or, w_not, w_andV, w_orV, w_notV, w_if, w_isN, w_nil, w_cons, w_cb, w_call, w_tup, w_lst, w_sub, w_intI, w_intB, w_isTyH, w_typ, w_isH, w_ixH, w_lenH, w_absH, w_listH, w_strH, w_bm, w_chain, w_exB, w_exV, w_start, k_ii, k_ib, k_is, k_il, k_it, k_bi, k_bb, k_bs, k_bl, k_bt, k_ni, k_nb, k_ns, k_nl, k_nt, k_si, k_sb, k_ss, k_sl, k_st, k_li, k_lb, k_ls, k_ll, k_lt, k_ti, k_tb, k_ts, k_tl, k_tt, w_st1, w_st2, w_st3, w_st5, atI_s0, atI_s1, atI_s2, atI_s3, atI_s4, atI_s5, List.map_cons, List.map_nil, List.length_cons, List.length_nil, List.replicate, List.cons_append, List.nil_append, List.append_nil, List.getElem?_cons_zero, List.getElem?_cons_succ, List.set_cons_zero, List.set_cons_succ, Nat.sub_self, Nat.reduceAdd, Nat.reduceSub, List.replicate_zero, decide_eq_true_eq, Bool.true_eq_false, Bool.false_eq_true, if_true, if_false, reduceIte, Bool.not_eq_true', decide_eq_false_iff_not, Bool.not_true, Bool.not_false, exists_eq_left', true_and, and_true, Option.some.injEq, reduceCtorEq, decide_true, decide_false, not_true_eq_false, not_false_eq_true, sizeLine_eq, Nat.reduceLeDiff, Bool.or_false, Bool.or_true, Bool.false_or, Bool.true_or, wp1, wp2, w_par, w_par2, w_tsl, w_nopart, w_part, w_exI, isE, isT, u1, hd, kk.bn, kk.bs, kk.be, w_errF, cK, w_tyL upd_same]
      refine ⟨_, y, rfl, lk, fun t ht => fin t _ ht rfl _ fun G sG tG lG tl dt ht0 => ?_⟩
      have dG := sG _ _ hd
      simp only [w_seq, w_next, w_ret, w_asg, w_ifs, w_drop, w_brk, w_cont, w_name, w_var, w_c, w_op, w_un, w_I, w_I0, w_U, w_eq, w_scII, w_scBB, w_scSS, w_scNN, w_zi, w_zb, w_zn, w_zs, V.int.injEq, V.bl.injEq, V.str.injEq, V.ref.injEq, w_ne, w_test, w_B, w_and, w_or, w_not, w_andV, w_orV, w_notV, w_if, w_isN, w_nil, w_cons, w_cb, w_call, w_tup, w_lst, w_sub, w_intI, w_intB, w_isTyH, w_typ, w_isH, w_ixH, w_lenH, w_absH, w_listH, w_strH, w_bm, w_chain, w_exB, w_exV, w_start, k_ii, k_ib, k_is, k_il, k_it, k_bi, k_bb, k_bs, k_bl, k_bt, k_ni, k_nb, k_ns, k_nl, k_nt, k_si, k_sb, k_ss, k_sl, k_st, k_li, k_lb, k_ls, k_ll, k_lt, k_ti, k_tb, k_ts, k_tl, k_tt, w_st1, w_st2, w_st3, w_st5, atI_s0, atI_s1, atI_s2, atI_s3, atI_s4, atI_s5, List.map_cons, List.map_nil, List.length_cons, List.length_nil, List.replicate, List.cons_append, List.nil_append, List.append_nil, List.getElem?_cons_zero, List.getElem?_cons_succ, List.set_cons_zero, List.set_cons_succ, Nat.sub_self, Nat.reduceAdd, Nat.reduceSub, List.replicate_zero, decide_eq_true_eq, Bool.true_eq_false, Bool.false_eq_true, if_true, if_false, reduceIte, Bool.not_eq_true', decide_eq_false_iff_not, Bool.not_true, Bool.not_false, exists_eq_left', true_and, and_true, Option.some.injEq, reduceCtorEq, decide_true, decide_false, not_true_eq_false, not_false_eq_true, sizeLine_eq, Nat.reduceLeDiff, Bool.or_false, Bool.or_true, Bool.false_or, Bool.true_or, wp1, wp2, w_par, w_par2, w_tsl, w_nopart, w_part, w_exI, isE, isT, dG, kk.bs, kk.be, kk.bt, kk.tl, kk.cl, kk.ni, kk.nm, kk.en, kk.me, kk.ve, seqAt_l lG, w_errF, cK]
      rw [if_neg (by decide)]
      exact ⟨_, rfl, q t G sG ht0 tG⟩
theorem ok_kindZ (F : Fun K "_law_kind" "_law_kind" s_law_kind f fd) (Tx : Txt K mg A tk) (z : Ez) (KN : KZ K A z) : FnE P w K mg base 1 f fd ["error"] (fun p vs H Q _ => vs = [.ref p.1] ∧ ErrAt0 p (z.adr A) ∧ ∀ t H', Same H H' → H t = none → H' t = some (.tup [.str z.s, .non]) → Q (.ref t) H') := by
  refine okE F sc_law_kind (fun p vs H Q E h => ?_) (fun p cdv Ar outer s H vs Q E hot hr h => ?_)
  · obtain ⟨rfl, _⟩ := h
    rfl
  · obtain ⟨rfl, zz, q⟩ := h
    have XC := KN.xc
    have hp : p ∈ (cxH CX0 P w K mg base ["error", "found"] "_law_kind" (defScope s_law_kind) f cdv Ar outer s H E p).pn := List.mem_singleton.mpr rfl
    have z := zz
    refine ⟨_, (pss_cons (ps_set (i := 1) sc_law_kind.nd rfl (.inl rfl) (pe_lst pa_nil))
      (pss_cons (ps_if (pt_val (pe_callB (call_isE0 XC z hp) (by rfl) Tx.m_isinstance (by decide +kernel) (pa_cons (pv 0) (pa_cons (pe_glob (v := .ref A.bn) rfl Tx.g_BadNumber rfl) pa_nil)))) (pss_one ps_never) pss_nil)
      (pss_cons (ps_if (pt_val (pe_callB (call_isE0 XC z hp) (by rfl) Tx.m_isinstance (by decide +kernel) (pa_cons (pv 0) (pa_cons (pe_glob (v := .ref A.bs) rfl Tx.g_BadShape rfl) pa_nil)))) (pss_one ps_never) pss_nil)
      (pss_cons (ps_if (pt_val (pe_callB (call_isE0 XC z hp) (by rfl) Tx.m_isinstance (by decide +kernel) (pa_cons (pv 0) (pa_cons (pe_glob (v := .ref A.be) rfl Tx.g_BadElement rfl) pa_nil)))) (pss_one ps_never) pss_nil)
      (pss_cons (ps_if (pt_val (pe_callB (call_isE0 XC z hp) (by rfl) Tx.m_isinstance (by decide +kernel) (pa_cons (pv 0) (pa_cons (pe_glob (v := .ref A.bt) rfl Tx.g_BadText rfl) pa_nil)))) (pss_one ps_never) pss_nil)
      (pss_cons (ps_if (pt_val (pe_callB (call_isE0 XC z hp) (by rfl) Tx.m_isinstance (by decide +kernel) (pa_cons (pv 0) (pa_cons (pe_glob (v := .ref A.tl) rfl Tx.g_TooLarge rfl) pa_nil)))) (pss_one ps_never) pss_nil)
      (pss_cons (ps_if (pt_val (pe_callB (call_isE0 XC z hp) (by rfl) Tx.m_isinstance (by decide +kernel) (pa_cons (pv 0) (pa_cons (pe_glob (v := .ref A.cl) rfl Tx.g_Clash rfl) pa_nil)))) (pss_one ps_never) pss_nil)
      (pss_cons (ps_if (pt_val (pe_callB (call_isE0 XC z hp) (by rfl) Tx.m_isinstance (by decide +kernel) (pa_cons (pv 0) (pa_cons (pe_glob (v := .ref A.ni) rfl Tx.g_NoInverse rfl) pa_nil)))) (pss_one (ps_expr (pe_bm PySem.F.plainAttrs_list PySem.F.slot_list_append PySem.F.type_list_append mt_append (pv 1) (pa_cons (pe_tup (pa_cons pe_str (pa_cons pe_non pa_nil))) pa_nil)))) pss_nil)
      (pss_cons (ps_if (pt_val (pe_callB (call_isE0 XC z hp) (by rfl) Tx.m_isinstance (by decide +kernel) (pa_cons (pv 0) (pa_cons (pe_glob (v := .ref A.nm) rfl Tx.g_NotMade rfl) pa_nil)))) (pss_one (ps_expr (pe_bm PySem.F.plainAttrs_list PySem.F.slot_list_append PySem.F.type_list_append mt_append (pv 1) (pa_cons (pe_tup (pa_cons pe_str (pa_cons pe_non pa_nil))) pa_nil)))) pss_nil)
      (pss_cons (ps_if (pt_val (pe_callB (call_isE0 XC z hp) (by rfl) Tx.m_isinstance (by decide +kernel) (pa_cons (pv 0) (pa_cons (pe_glob (v := .ref A.en) rfl Tx.g_Ended rfl) pa_nil)))) (pss_one (ps_expr (pe_bm PySem.F.plainAttrs_list PySem.F.slot_list_append PySem.F.type_list_append mt_append (pv 1) (pa_cons (pe_tup (pa_cons pe_str (pa_cons pe_non pa_nil))) pa_nil)))) pss_nil)
      (pss_cons (ps_if (PW.pt (pw_or (pt_cmpR op_ne (pe_callB call_lenH (by rfl) Tx.m_len (by decide +kernel) (pa_cons (pv 1) pa_nil)) pe_int (nomark _)) (pw_or (pt_not (pt_val (pe_callB (call_isE0 XC z hp) (by rfl) Tx.m_isinstance (by decide +kernel) (pa_cons (pv 0) (pa_cons (pe_glob (v := .ref A.me) rfl Tx.g_MendError rfl) pa_nil))))) (pw_or1 (pt_not (pt_val (pe_callB (call_isE0 XC z hp) (by rfl) Tx.m_isinstance (by decide +kernel) (pa_cons (pv 0) (pa_cons (pe_bltn (v := .ty "ValueError") (u := .type "ValueError") (by rfl) Tx.m_ValueError (by decide +kernel) rel_ty) pa_nil))))))))) (pss_one (ps_ret (pe_tup (pa_cons pe_str pa_nil)))) pss_nil)
      (pss_one (ps_ret (pe_ix ix_H (pv 1) pe_int (fun _ _ => rfl))))))))))))))), ?_⟩
    have isE : ∀ (G : Hp) (C c : Addr) (R : VK), rIsE0 K C p.1 [.ref p.1, .ref c] G R = ∃ b, PySem.W.kitOne K (.ref C) (.ref c) = some b ∧ R (.bl b) G := fun G C c R => w_isE0
    have isT : ∀ (G : Hp) (C : Addr) (n : String) (R : VK), rIsE0 K C p.1 [.ref p.1, .ty n] G R = ∃ b, PySem.W.kitOne K (.ref C) (.type n) = some b ∧ R (.bl b) G := fun G C n R => w_isEt0
    have cK : (cxH CX0 P w K mg base ["error", "found"] "_law_kind" (defScope s_law_kind) f cdv Ar outer s H E p).K = K := rfl
    clear hot hr
    simp only [w_seq, w_next, w_ret, w_asg, w_ifs, w_drop, w_brk, w_cont, w_name, w_var, w_c, w_op, w_un, w_I, w_I0, w_U, w_eq, w_scII, w_scBB, w_scSS, w_scNN, w_zi, w_zb, w_zn, w_zs, V.int.injEq, V.bl.injEq, V.str.injEq, V.ref.injEq, w_ne, w_test, w_B, w_and, w_or, w_not, w_andV, w_orV, w_notV, w_if, w_isN, w_nil, w_cons, w_cb, w_call, w_tup, w_lst, w_sub, w_intI, w_intB, w_isTyH, w_typ, w_isH, w_ixH, w_lenH, w_absH, w_listH, w_strH, w_bm, w_chain, w_exB, w_exV, w_start, k_ii, k_ib, k_is, k_il, k_it, k_bi, k_bb, k_bs, k_bl, k_bt, k_ni, k_nb, k_ns, k_nl, k_nt, k_si, k_sb, k_ss, k_sl, k_st, k_li, k_lb, k_ls, k_ll, k_lt, k_ti, k_tb, k_ts, k_tl, k_tt, w_st1, w_st2, w_st3, w_st5, atI_s0, atI_s1, atI_s2, atI_s3, atI_s4, atI_s5, List.map_cons, List.map_nil, List.length_cons, List.length_nil, List.replicate, List.cons_append, List.nil_append, List.append_nil, List.getElem?_cons_zero, List.getElem?_cons_succ, List.set_cons_zero, List.set_cons_succ, Nat.sub_self, Nat.reduceAdd, Nat.reduceSub, List.replicate_zero, decide_eq_true_eq, Bool.true_eq_false, Bool.false_eq_true, if_true, if_false, reduceIte, Bool.not_eq_true', decide_eq_false_iff_not, Bool.not_true, Bool.not_false, exists_eq_left', true_and, and_true, Option.some.injEq, reduceCtorEq, decide_true, decide_false, not_true_eq_false, not_false_eq_true, sizeLine_eq, Nat.reduceLeDiff, Bool.or_false, Bool.or_true, Bool.false_or, Bool.true_or, wp1, wp2, w_par, w_par2, w_tsl, w_nopart, w_part, w_exI, cK]
    intro l hl
    have fin : ∀ (nm : Str) (t : Addr), upd H l (.lst []) t = none → ∀ R : Hp → Prop, (∀ G : Hp, Same H G → G t = some (.tup [.str nm, .non]) → G l = some (.lst [.ref t]) → H t = none → R G) →
        rAppend (.ref l) [.ref t] (upd (upd H l (.lst [])) t (.tup [.str nm, .non])) fun _ G => R G := fun nm t ht R k => by
      have tl : t ≠ l := fun e => by
        rw [e, upd_same] at ht
        cases ht
      have ht0 : H t = none := by
        rw [upd_ne tl] at ht
        exact ht
      have e1 : upd (upd H l (.lst [])) t (.tup [.str nm, .non]) l = some (.lst []) := by
        rw [upd_ne (Ne.symm tl), upd_same]
      rw [w_append e1]
      refine ⟨by decide, k _ (same_mut (same_mut (same_new hl) ht0) hl) ?_ upd_same ht0⟩
      rw [upd_ne tl, upd_same]
    rename_i z0
    cases z0 with
    | ni =>
      have e1 : PySem.W.kitOne K (.ref A.ni) (.ref A.ni) = some true := KN.ni
      have e2 : PySem.W.kitOne K (.ref A.ni) (.ref A.nm) = some false := KN.nm
      have e3 : PySem.W.kitOne K (.ref A.ni) (.ref A.en) = some false := KN.en
      have b1 := KN.bn
      have b2 := KN.bs
      have b3 := KN.be
      have b4 := KN.bt
      have b5 := KN.tl
      have b6 := KN.cl
      have b7 := KN.me
      have b8 := KN.ve
      simp only [Ez.adr] at *
      simp only [w_seq, w_next, w_ret, w_asg, w_ifs, w_drop, w_brk, w_cont, w_name, w_var, w_c, w_op, w_un, w_I, w_I0, w_U, w_eq, w_scII, w_scBB, w_scSS, w_scNN, w_zi, w_zb, w_zn, w_zs, V.int.injEq, V.bl.injEq, V.str.injEq, V.ref.injEq, w_ne, w_test, w_B, w_and, w_or, w_not, w_andV, w_orV, w_notV, w_if, w_isN, w_nil, w_cons, w_cb, w_call, w_tup, w_lst, w_sub, w_intI, w_intB, w_isTyH, w_typ, w_isH, w_ixH, w_lenH, w_absH, w_listH, w_strH, w_bm, w_chain, w_exB, w_exV, w_start, k_ii, k_ib, k_is, k_il, k_it, k_bi, k_bb, k_bs, k_bl, k_bt, k_ni, k_nb, k_ns, k_nl, k_nt, k_si, k_sb, k_ss, k_sl, k_st, k_li, k_lb, k_ls, k_ll, k_lt, k_ti, k_tb, k_ts, k_tl, k_tt, w_st1, w_st2, w_st3, w_st5, atI_s0, atI_s1, atI_s2, atI_s3, atI_s4, atI_s5, List.map_cons, List.map_nil, List.length_cons, List.length_nil, List.replicate, List.cons_append, List.nil_append, List.append_nil, List.getElem?_cons_zero, List.getElem?_cons_succ, List.set_cons_zero, List.set_cons_succ, Nat.sub_self, Nat.reduceAdd, Nat.reduceSub, List.replicate_zero, decide_eq_true_eq, Bool.true_eq_false, Bool.false_eq_true, if_true, if_false, reduceIte, Bool.not_eq_true', decide_eq_false_iff_not, Bool.not_true, Bool.not_false, exists_eq_left', true_and, and_true, Option.some.injEq, reduceCtorEq, decide_true, decide_false, not_true_eq_false, not_false_eq_true, sizeLine_eq, Nat.reduceLeDiff, Bool.or_false, Bool.or_true, Bool.false_or, Bool.true_or, wp1, wp2, w_par, w_par2, w_tsl, w_nopart, w_part, w_exI, isE, isT, b1, b2, b3, b4, b5, b6, e1, cK, w_tyL upd_same]
      refine fun t ht => fin _ t ht _ fun G sG tG lG ht0 => ?_
      simp only [w_seq, w_next, w_ret, w_asg, w_ifs, w_drop, w_brk, w_cont, w_name, w_var, w_c, w_op, w_un, w_I, w_I0, w_U, w_eq, w_scII, w_scBB, w_scSS, w_scNN, w_zi, w_zb, w_zn, w_zs, V.int.injEq, V.bl.injEq, V.str.injEq, V.ref.injEq, w_ne, w_test, w_B, w_and, w_or, w_not, w_andV, w_orV, w_notV, w_if, w_isN, w_nil, w_cons, w_cb, w_call, w_tup, w_lst, w_sub, w_intI, w_intB, w_isTyH, w_typ, w_isH, w_ixH, w_lenH, w_absH, w_listH, w_strH, w_bm, w_chain, w_exB, w_exV, w_start, k_ii, k_ib, k_is, k_il, k_it, k_bi, k_bb, k_bs, k_bl, k_bt, k_ni, k_nb, k_ns, k_nl, k_nt, k_si, k_sb, k_ss, k_sl, k_st, k_li, k_lb, k_ls, k_ll, k_lt, k_ti, k_tb, k_ts, k_tl, k_tt, w_st1, w_st2, w_st3, w_st5, atI_s0, atI_s1, atI_s2, atI_s3, atI_s4, atI_s5, List.map_cons, List.map_nil, List.length_cons, List.length_nil, List.replicate, List.cons_append, List.nil_append, List.append_nil, List.getElem?_cons_zero, List.getElem?_cons_succ, List.set_cons_zero, List.set_cons_succ, Nat.sub_self, Nat.reduceAdd, Nat.reduceSub, List.replicate_zero, decide_eq_true_eq, Bool.true_eq_false, Bool.false_eq_true, if_true, if_false, reduceIte, Bool.not_eq_true', decide_eq_false_iff_not, Bool.not_true, Bool.not_false, exists_eq_left', true_and, and_true, Option.some.injEq, reduceCtorEq, decide_true, decide_false, not_true_eq_false, not_false_eq_true, sizeLine_eq, Nat.reduceLeDiff, Bool.or_false, Bool.or_true, Bool.false_or, Bool.true_or, wp1, wp2, w_par, w_par2, w_tsl, w_nopart, w_part, w_exI, isE, isT, e2, e3, b7, b8, seqAt_l lG, cK]
      rw [if_neg (by decide)]
      exact ⟨_, rfl, q t G sG ht0 tG⟩
    | nm =>
      have e1 : PySem.W.kitOne K (.ref A.nm) (.ref A.ni) = some false := KN.ni
      have e2 : PySem.W.kitOne K (.ref A.nm) (.ref A.nm) = some true := KN.nm
      have e3 : PySem.W.kitOne K (.ref A.nm) (.ref A.en) = some false := KN.en
      have b1 := KN.bn
      have b2 := KN.bs
      have b3 := KN.be
      have b4 := KN.bt
      have b5 := KN.tl
      have b6 := KN.cl
      have b7 := KN.me
      have b8 := KN.ve
      simp only [Ez.adr] at *
      simp only [w_seq, w_next, w_ret, w_asg, w_ifs, w_drop, w_brk, w_cont, w_name, w_var, w_c, w_op, w_un, w_I, w_I0, w_U, w_eq, w_scII, w_scBB, w_scSS, w_scNN, w_zi, w_zb, w_zn, w_zs, V.int.injEq, V.bl.injEq, V.str.injEq, V.ref.injEq, w_ne, w_test, w_B, w_and, w_or, w_not, w_andV, w_orV, w_notV, w_if, w_isN, w_nil, w_cons, w_cb, w_call, w_tup, w_lst, w_sub, w_intI, w_intB, w_isTyH, w_typ, w_isH, w_ixH, w_lenH, w_absH, w_listH, w_strH, w_bm, w_chain, w_exB, w_exV, w_start, k_ii, k_ib, k_is, k_il, k_it, k_bi, k_bb, k_bs, k_bl, k_bt, k_ni, k_nb, k_ns, k_nl, k_nt, k_si, k_sb, k_ss, k_sl, k_st, k_li, k_lb, k_ls, k_ll, k_lt, k_ti, k_tb, k_ts, k_tl, k_tt, w_st1, w_st2, w_st3, w_st5, atI_s0, atI_s1, atI_s2, atI_s3, atI_s4, atI_s5, List.map_cons, List.map_nil, List.length_cons, List.length_nil, List.replicate, List.cons_append, List.nil_append, List.append_nil, List.getElem?_cons_zero, List.getElem?_cons_succ, List.set_cons_zero, List.set_cons_succ, Nat.sub_self, Nat.reduceAdd, Nat.reduceSub, List.replicate_zero, decide_eq_true_eq, Bool.true_eq_false, Bool.false_eq_true, if_true, if_false, reduceIte, Bool.not_eq_true', decide_eq_false_iff_not, Bool.not_true, Bool.not_false, exists_eq_left', true_and, and_true, Option.some.injEq, reduceCtorEq, decide_true, decide_false, not_true_eq_false, not_false_eq_true, sizeLine_eq, Nat.reduceLeDiff, Bool.or_false, Bool.or_true, Bool.false_or, Bool.true_or, wp1, wp2, w_par, w_par2, w_tsl, w_nopart, w_part, w_exI, isE, isT, b1, b2, b3, b4, b5, b6, e1, e2, cK, w_tyL upd_same]
      refine fun t ht => fin _ t ht _ fun G sG tG lG ht0 => ?_
      simp only [w_seq, w_next, w_ret, w_asg, w_ifs, w_drop, w_brk, w_cont, w_name, w_var, w_c, w_op, w_un, w_I, w_I0, w_U, w_eq, w_scII, w_scBB, w_scSS, w_scNN, w_zi, w_zb, w_zn, w_zs, V.int.injEq, V.bl.injEq, V.str.injEq, V.ref.injEq, w_ne, w_test, w_B, w_and, w_or, w_not, w_andV, w_orV, w_notV, w_if, w_isN, w_nil, w_cons, w_cb, w_call, w_tup, w_lst, w_sub, w_intI, w_intB, w_isTyH, w_typ, w_isH, w_ixH, w_lenH, w_absH, w_listH, w_strH, w_bm, w_chain, w_exB, w_exV, w_start, k_ii, k_ib, k_is, k_il, k_it, k_bi, k_bb, k_bs, k_bl, k_bt, k_ni, k_nb, k_ns, k_nl, k_nt, k_si, k_sb, k_ss, k_sl, k_st, k_li, k_lb, k_ls, k_ll, k_lt, k_ti, k_tb, k_ts, k_tl, k_tt, w_st1, w_st2, w_st3, w_st5, atI_s0, atI_s1, atI_s2, atI_s3, atI_s4, atI_s5, List.map_cons, List.map_nil, List.length_cons, List.length_nil, List.replicate, List.cons_append, List.nil_append, List.append_nil, List.getElem?_cons_zero, List.getElem?_cons_succ, List.set_cons_zero, List.set_cons_succ, Nat.sub_self, Nat.reduceAdd, Nat.reduceSub, List.replicate_zero, decide_eq_true_eq, Bool.true_eq_false, Bool.false_eq_true, if_true, if_false, reduceIte, Bool.not_eq_true', decide_eq_false_iff_not, Bool.not_true, Bool.not_false, exists_eq_left', true_and, and_true, Option.some.injEq, reduceCtorEq, decide_true, decide_false, not_true_eq_false, not_false_eq_true, sizeLine_eq, Nat.reduceLeDiff, Bool.or_false, Bool.or_true, Bool.false_or, Bool.true_or, wp1, wp2, w_par, w_par2, w_tsl, w_nopart, w_part, w_exI, isE, isT, e3, b7, b8, seqAt_l lG, cK]
      rw [if_neg (by decide)]
      exact ⟨_, rfl, q t G sG ht0 tG⟩
    | en =>
      have e1 : PySem.W.kitOne K (.ref A.en) (.ref A.ni) = some false := KN.ni
      have e2 : PySem.W.kitOne K (.ref A.en) (.ref A.nm) = some false := KN.nm
      have e3 : PySem.W.kitOne K (.ref A.en) (.ref A.en) = some true := KN.en
      have b1 := KN.bn
      have b2 := KN.bs
      have b3 := KN.be
      have b4 := KN.bt
      have b5 := KN.tl
      have b6 := KN.cl
      have b7 := KN.me
      have b8 := KN.ve
      simp only [Ez.adr] at *
      simp only [w_seq, w_next, w_ret, w_asg, w_ifs, w_drop, w_brk, w_cont, w_name, w_var, w_c, w_op, w_un, w_I, w_I0, w_U, w_eq, w_scII, w_scBB, w_scSS, w_scNN, w_zi, w_zb, w_zn, w_zs, V.int.injEq, V.bl.injEq, V.str.injEq, V.ref.injEq, w_ne, w_test, w_B, w_and, w_or, w_not, w_andV, w_orV, w_notV, w_if, w_isN, w_nil, w_cons, w_cb, w_call, w_tup, w_lst, w_sub, w_intI, w_intB, w_isTyH, w_typ, w_isH, w_ixH, w_lenH, w_absH, w_listH, w_strH, w_bm, w_chain, w_exB, w_exV, w_start, k_ii, k_ib, k_is, k_il, k_it, k_bi, k_bb, k_bs, k_bl, k_bt, k_ni, k_nb, k_ns, k_nl, k_nt, k_si, k_sb, k_ss, k_sl, k_st, k_li, k_lb, k_ls, k_ll, k_lt, k_ti, k_tb, k_ts, k_tl, k_tt, w_st1, w_st2, w_st3, w_st5, atI_s0, atI_s1, atI_s2, atI_s3, atI_s4, atI_s5, List.map_cons, List.map_nil, List.length_cons, List.length_nil, List.replicate, List.cons_append, List.nil_append, List.append_nil, List.getElem?_cons_zero, List.getElem?_cons_succ, List.set_cons_zero, List.set_cons_succ, Nat.sub_self, Nat.reduceAdd, Nat.reduceSub, List.replicate_zero, decide_eq_true_eq, Bool.true_eq_false, Bool.false_eq_true, if_true, if_false, reduceIte, Bool.not_eq_true', decide_eq_false_iff_not, Bool.not_true, Bool.not_false, exists_eq_left', true_and, and_true, Option.some.injEq, reduceCtorEq, decide_true, decide_false, not_true_eq_false, not_false_eq_true, sizeLine_eq, Nat.reduceLeDiff, Bool.or_false, Bool.or_true, Bool.false_or, Bool.true_or, wp1, wp2, w_par, w_par2, w_tsl, w_nopart, w_part, w_exI, isE, isT, b1, b2, b3, b4, b5, b6, e1, e2, e3, cK, w_tyL upd_same]
      refine fun t ht => fin _ t ht _ fun G sG tG lG ht0 => ?_
      simp only [w_seq, w_next, w_ret, w_asg, w_ifs, w_drop, w_brk, w_cont, w_name, w_var, w_c, w_op, w_un, w_I, w_I0, w_U, w_eq, w_scII, w_scBB, w_scSS, w_scNN, w_zi, w_zb, w_zn, w_zs, V.int.injEq, V.bl.injEq, V.str.injEq, V.ref.injEq, w_ne, w_test, w_B, w_and, w_or, w_not, w_andV, w_orV, w_notV, w_if, w_isN, w_nil, w_cons, w_cb, w_call, w_tup, w_lst, w_sub, w_intI, w_intB, w_isTyH, w_typ, w_isH, w_ixH, w_lenH, w_absH, w_listH, w_strH, w_bm, w_chain, w_exB, w_exV, w_start, k_ii, k_ib, k_is, k_il, k_it, k_bi, k_bb, k_bs, k_bl, k_bt, k_ni, k_nb, k_ns, k_nl, k_nt, k_si, k_sb, k_ss, k_sl, k_st, k_li, k_lb, k_ls, k_ll, k_lt, k_ti, k_tb, k_ts, k_tl, k_tt, w_st1, w_st2, w_st3, w_st5, atI_s0, atI_s1, atI_s2, atI_s3, atI_s4, atI_s5, List.map_cons, List.map_nil, List.length_cons, List.length_nil, List.replicate, List.cons_append, List.nil_append, List.append_nil, List.getElem?_cons_zero, List.getElem?_cons_succ, List.set_cons_zero, List.set_cons_succ, Nat.sub_self, Nat.reduceAdd, Nat.reduceSub, List.replicate_zero, decide_eq_true_eq, Bool.true_eq_false, Bool.false_eq_true, if_true, if_false, reduceIte, Bool.not_eq_true', decide_eq_false_iff_not, Bool.not_true, Bool.not_false, exists_eq_left', true_and, and_true, Option.some.injEq, reduceCtorEq, decide_true, decide_false, not_true_eq_false, not_false_eq_true, sizeLine_eq, Nat.reduceLeDiff, Bool.or_false, Bool.or_true, Bool.false_or, Bool.true_or, wp1, wp2, w_par, w_par2, w_tsl, w_nopart, w_part, w_exI, isE, isT, b7, b8, seqAt_l lG, cK]
      rw [if_neg (by decide)]
      exact ⟨_, rfl, q t G sG ht0 tG⟩
theorem ok_kind_tl (F : Fun K "_law_kind" "_law_kind" s_law_kind f fd) (Tx : Txt K mg A tk) (KN : KB K A .tl) : FnE P w K mg base 1 f fd ["error"] (SpB1 A .tl) := by
  refine okE F sc_law_kind (fun p vs H Q E h => ?_) (fun p cdv Ar outer s H vs Q E hot hr h => ?_)
  · obtain ⟨d, y, rfl, _⟩ := h
    rfl
  · obtain ⟨d, y, rfl, z, hd, q⟩ := h
    have XC : XcC K A.tl := KN.xc
    have no : PySem.W.findIn K (.ref A.tl) "bound" = some none := KN.no
    have z : ErrAt p A.tl d := z
    have hd : H d = some (.xd [("bound", y)]) := hd
    have hp : p ∈ (cxH CX0 P w K mg base ["error", "found"] "_law_kind" (defScope s_law_kind) f cdv Ar outer s H E p).pn := List.mem_singleton.mpr rfl
    refine ⟨_, (pss_cons (ps_set (i := 1) sc_law_kind.nd rfl (.inl rfl) (pe_lst pa_nil))
      (pss_cons (ps_if (pt_val (pe_callB (call_isE XC z hp) (by rfl) Tx.m_isinstance (by decide +kernel) (pa_cons (pv 0) (pa_cons (pe_glob (v := .ref A.bn) rfl Tx.g_BadNumber rfl) pa_nil)))) (pss_one ps_never) pss_nil)
      (pss_cons (ps_if (pt_val (pe_callB (call_isE XC z hp) (by rfl) Tx.m_isinstance (by decide +kernel) (pa_cons (pv 0) (pa_cons (pe_glob (v := .ref A.bs) rfl Tx.g_BadShape rfl) pa_nil)))) (pss_one ps_never) pss_nil)
      (pss_cons (ps_if (pt_val (pe_callB (call_isE XC z hp) (by rfl) Tx.m_isinstance (by decide +kernel) (pa_cons (pv 0) (pa_cons (pe_glob (v := .ref A.be) rfl Tx.g_BadElement rfl) pa_nil)))) (pss_one ps_never) pss_nil)
      (pss_cons (ps_if (pt_val (pe_callB (call_isE XC z hp) (by rfl) Tx.m_isinstance (by decide +kernel) (pa_cons (pv 0) (pa_cons (pe_glob (v := .ref A.bt) rfl Tx.g_BadText rfl) pa_nil)))) (pss_one ps_never) pss_nil)
      (pss_cons (ps_if (pt_val (pe_callB (call_isE XC z hp) (by rfl) Tx.m_isinstance (by decide +kernel) (pa_cons (pv 0) (pa_cons (pe_glob (v := .ref A.tl) rfl Tx.g_TooLarge rfl) pa_nil)))) (pss_one (ps_expr (pe_bm PySem.F.plainAttrs_list PySem.F.slot_list_append PySem.F.type_list_append mt_append (pv 1) (pa_cons (pe_tup (pa_cons pe_str (pa_cons (pe_errF XC no z hp (pv 0)) pa_nil))) pa_nil)))) pss_nil)
      (pss_cons (ps_if (pt_val (pe_callB (call_isE XC z hp) (by rfl) Tx.m_isinstance (by decide +kernel) (pa_cons (pv 0) (pa_cons (pe_glob (v := .ref A.cl) rfl Tx.g_Clash rfl) pa_nil)))) (pss_one ps_never) pss_nil)
      (pss_cons (ps_if (pt_val (pe_callB (call_isE XC z hp) (by rfl) Tx.m_isinstance (by decide +kernel) (pa_cons (pv 0) (pa_cons (pe_glob (v := .ref A.ni) rfl Tx.g_NoInverse rfl) pa_nil)))) (pss_one ps_never) pss_nil)
      (pss_cons (ps_if (pt_val (pe_callB (call_isE XC z hp) (by rfl) Tx.m_isinstance (by decide +kernel) (pa_cons (pv 0) (pa_cons (pe_glob (v := .ref A.nm) rfl Tx.g_NotMade rfl) pa_nil)))) (pss_one ps_never) pss_nil)
      (pss_cons (ps_if (pt_val (pe_callB (call_isE XC z hp) (by rfl) Tx.m_isinstance (by decide +kernel) (pa_cons (pv 0) (pa_cons (pe_glob (v := .ref A.en) rfl Tx.g_Ended rfl) pa_nil)))) (pss_one ps_never) pss_nil)
      (pss_cons (ps_if (PW.pt (pw_or (pt_cmpR op_ne (pe_callB call_lenH (by rfl) Tx.m_len (by decide +kernel) (pa_cons (pv 1) pa_nil)) pe_int (nomark _)) (pw_or (pt_not (pt_val (pe_callB (call_isE XC z hp) (by rfl) Tx.m_isinstance (by decide +kernel) (pa_cons (pv 0) (pa_cons (pe_glob (v := .ref A.me) rfl Tx.g_MendError rfl) pa_nil))))) (pw_or1 (pt_not (pt_val (pe_callB (call_isE XC z hp) (by rfl) Tx.m_isinstance (by decide +kernel) (pa_cons (pv 0) (pa_cons (pe_bltn (v := .ty "ValueError") (u := .type "ValueError") (by rfl) Tx.m_ValueError (by decide +kernel) rel_ty) pa_nil))))))))) (pss_one (ps_ret (pe_tup (pa_cons pe_str pa_nil)))) pss_nil)
      (pss_one (ps_ret (pe_ix ix_H (pv 1) pe_int (fun _ _ => rfl))))))))))))))), ?_⟩
    have isE : ∀ (G : Hp) (c : Addr) (R : VK), G d = some (.xd [("bound", y)]) → rIsE K A.tl d p.1 [.ref p.1, .ref c] G R = ∃ b, PySem.W.kitOne K (.ref A.tl) (.ref c) = some b ∧ R (.bl b) G := fun G c R e => w_isE e
    have isT : ∀ (G : Hp) (n : String) (R : VK), G d = some (.xd [("bound", y)]) → rIsE K A.tl d p.1 [.ref p.1, .ty n] G R = ∃ b, PySem.W.kitOne K (.ref A.tl) (.type n) = some b ∧ R (.bl b) G := fun G n R e => w_isEt e
    have lk : List.lookup ("bound" : Str) [(("bound" : Str), y)] = some y := rfl
    have cK : (cxH CX0 P w K mg base ["error", "found"] "_law_kind" (defScope s_law_kind) f cdv Ar outer s H E p).K = K := rfl
    clear hot hr
    have b_bn : PySem.W.kitOne K (.ref A.tl) (.ref A.bn) = some false := KN.bn
    have b_bs : PySem.W.kitOne K (.ref A.tl) (.ref A.bs) = some false := KN.bs
    have b_be : PySem.W.kitOne K (.ref A.tl) (.ref A.be) = some false := KN.be
    have b_bt : PySem.W.kitOne K (.ref A.tl) (.ref A.bt) = some false := KN.bt
    have b_tl : PySem.W.kitOne K (.ref A.tl) (.ref A.tl) = some true := KN.tl
    have b_cl : PySem.W.kitOne K (.ref A.tl) (.ref A.cl) = some false := KN.cl
    have b_ni : PySem.W.kitOne K (.ref A.tl) (.ref A.ni) = some false := KN.ni
    have b_nm : PySem.W.kitOne K (.ref A.tl) (.ref A.nm) = some false := KN.nm
    have b_en : PySem.W.kitOne K (.ref A.tl) (.ref A.en) = some false := KN.en
    have b_me : PySem.W.kitOne K (.ref A.tl) (.ref A.me) = some true := KN.me
    have b_ve : PySem.W.kitOne K (.ref A.tl) (.type "ValueError") = some true := KN.ve
    simp only [w_seq, w_next, w_ret, w_asg, w_ifs, w_drop, w_brk, w_cont, w_name, w_var, w_c, w_op, w_un, w_I, w_I0, w_U, w_eq, w_scII, w_scBB, w_scSS, w_scNN, w_zi, w_zb, w_zn, w_zs, V.int.injEq, V.bl.injEq, V.str.injEq, V.ref.injEq, w_ne, w_test, w_B, w_and, w_or, w_not, w_andV, w_orV, w_notV, w_if, w_isN, w_nil, w_cons, w_cb, w_call, w_tup, w_lst, w_sub, w_intI, w_intB, w_isTyH, w_typ, w_isH, w_ixH, w_lenH, w_absH, w_listH, w_strH, w_bm, w_chain, w_exB, w_exV, w_start, k_ii, k_ib, k_is, k_il, k_it, k_bi, k_bb, k_bs, k_bl, k_bt, k_ni, k_nb, k_ns, k_nl, k_nt, k_si, k_sb, k_ss, k_sl, k_st, k_li, k_lb, k_ls, k_ll, k_lt, k_ti, k_tb, k_ts, k_tl, k_tt, w_st1, w_st2, w_st3, w_st5, atI_s0, atI_s1, atI_s2, atI_s3, atI_s4, atI_s5, List.map_cons, List.map_nil, List.length_cons, List.length_nil, List.replicate, List.cons_append, List.nil_append, List.append_nil, List.getElem?_cons_zero, List.getElem?_cons_succ, List.set_cons_zero, List.set_cons_succ, Nat.sub_self, Nat.reduceAdd, Nat.reduceSub, List.replicate_zero, decide_eq_true_eq, Bool.true_eq_false, Bool.false_eq_true, if_true, if_false, reduceIte, Bool.not_eq_true', decide_eq_false_iff_not, Bool.not_true, Bool.not_false, exists_eq_left', true_and, and_true, Option.some.injEq, reduceCtorEq, decide_true, decide_false, not_true_eq_false, not_false_eq_true, sizeLine_eq, Nat.reduceLeDiff, Bool.or_false, Bool.or_true, Bool.false_or, Bool.true_or, wp1, wp2, w_par, w_par2, w_tsl, w_nopart, w_part, w_exI, cK]
    intro l hl
    have d1 : d ≠ l := ne_of_none hd hl
    have u1 : ∀ (G : Hp) (o : HO), upd G l o d = G d := fun G o => upd_ne d1
    have fin : ∀ (t : Addr), upd H l (.lst []) t = none → ∀ R : Hp → Prop, (∀ G : Hp, Same H G → G t = some (.tup [.str "TooLarge", y]) → G l = some (.lst [.ref t]) → H t = none → R G) →
        rAppend (.ref l) [.ref t] (upd (upd H l (.lst [])) t (.tup [.str "TooLarge", y])) fun _ G => R G := fun t ht R k => by
      have tl : t ≠ l := fun e => by
        rw [e, upd_same] at ht
        cases ht
      have ht0 : H t = none := by
        rw [upd_ne tl] at ht
        exact ht
      have e1 : upd (upd H l (.lst [])) t (.tup [.str "TooLarge", y]) l = some (.lst []) := by
        rw [upd_ne (Ne.symm tl), upd_same]
      rw [w_append e1]
      refine ⟨by decide, k _ (same_mut (same_mut (same_new hl) ht0) hl) ?_ upd_same ht0⟩
      rw [upd_ne tl, upd_same]
    simp only [w_seq, w_next, w_ret, w_asg, w_ifs, w_drop, w_brk, w_cont, w_name, w_var, w_c, w_op, w_un, w_I, w_I0, w_U, w_eq, w_scII, w_scBB, w_scSS, w_scNN, w_zi, w_zb, w_zn, w_zs, V.int.injEq, V.bl.injEq, V.str.injEq, V.ref.injEq, w_ne, w_test, w_B, w_and, w_or, w_not, w_andV, w_orV, w_notV, w_if, w_isN, w_nil, w_cons, w_cb, w_call, w_tup, w_lst, w_sub, w_intI, w_intB, w_isTyH, w_typ, w_isH, w_ixH, w_lenH, w_absH, w_listH, w_strH, w_bm, w_chain, w_exB, w_exV, w_start, k_ii, k_ib, k_is, k_il, k_it, k_bi, k_bb, k_bs, k_bl, k_bt, k_ni, k_nb, k_ns, k_nl, k_nt, k_si, k_sb, k_ss, k_sl, k_st, k_li, k_lb, k_ls, k_ll, k_lt, k_ti, k_tb, k_ts, k_tl, k_tt, w_st1, w_st2, w_st3, w_st5, atI_s0, atI_s1, atI_s2, atI_s3, atI_s4, atI_s5, List.map_cons, List.map_nil, List.length_cons, List.length_nil, List.replicate, List.cons_append, List.nil_append, List.append_nil, List.getElem?_cons_zero, List.getElem?_cons_succ, List.set_cons_zero, List.set_cons_succ, Nat.sub_self, Nat.reduceAdd, Nat.reduceSub, List.replicate_zero, decide_eq_true_eq, Bool.true_eq_false, Bool.false_eq_true, if_true, if_false, reduceIte, Bool.not_eq_true', decide_eq_false_iff_not, Bool.not_true, Bool.not_false, exists_eq_left', true_and, and_true, Option.some.injEq, reduceCtorEq, decide_true, decide_false, not_true_eq_false, not_false_eq_true, sizeLine_eq, Nat.reduceLeDiff, Bool.or_false, Bool.or_true, Bool.false_or, Bool.true_or, wp1, wp2, w_par, w_par2, w_tsl, w_nopart, w_part, w_exI, isE, isT, u1, hd, b_bn, b_bs, b_be, b_bt, b_tl, w_errF, cK, w_tyL upd_same]
    refine ⟨_, y, rfl, lk, fun t ht => fin t ht _ fun G sG tG lG ht0 => ?_⟩
    have dG := sG _ _ hd
    simp only [w_seq, w_next, w_ret, w_asg, w_ifs, w_drop, w_brk, w_cont, w_name, w_var, w_c, w_op, w_un, w_I, w_I0, w_U, w_eq, w_scII, w_scBB, w_scSS, w_scNN, w_zi, w_zb, w_zn, w_zs, V.int.injEq, V.bl.injEq, V.str.injEq, V.ref.injEq, w_ne, w_test, w_B, w_and, w_or, w_not, w_andV, w_orV, w_notV, w_if, w_isN, w_nil, w_cons, w_cb, w_call, w_tup, w_lst, w_sub, w_intI, w_intB, w_isTyH, w_typ, w_isH, w_ixH, w_lenH, w_absH, w_listH, w_strH, w_bm, w_chain, w_exB, w_exV, w_start, k_ii, k_ib, k_is, k_il, k_it, k_bi, k_bb, k_bs, k_bl, k_bt, k_ni, k_nb, k_ns, k_nl, k_nt, k_si, k_sb, k_ss, k_sl, k_st, k_li, k_lb, k_ls, k_ll, k_lt, k_ti, k_tb, k_ts, k_tl, k_tt, w_st1, w_st2, w_st3, w_st5, atI_s0, atI_s1, atI_s2, atI_s3, atI_s4, atI_s5, List.map_cons, List.map_nil, List.length_cons, List.length_nil, List.replicate, List.cons_append, List.nil_append, List.append_nil, List.getElem?_cons_zero, List.getElem?_cons_succ, List.set_cons_zero, List.set_cons_succ, Nat.sub_self, Nat.reduceAdd, Nat.reduceSub, List.replicate_zero, decide_eq_true_eq, Bool.true_eq_false, Bool.false_eq_true, if_true, if_false, reduceIte, Bool.not_eq_true', decide_eq_false_iff_not, Bool.not_true, Bool.not_false, exists_eq_left', true_and, and_true, Option.some.injEq, reduceCtorEq, decide_true, decide_false, not_true_eq_false, not_false_eq_true, sizeLine_eq, Nat.reduceLeDiff, Bool.or_false, Bool.or_true, Bool.false_or, Bool.true_or, wp1, wp2, w_par, w_par2, w_tsl, w_nopart, w_part, w_exI, isE, isT, dG, b_cl, b_ni, b_nm, b_en, b_me, b_ve, seqAt_l lG, w_errF, cK]
    rw [if_neg (by decide)]
    exact ⟨_, rfl, q t G sG ht0 tG⟩
theorem ok_kind_cl (F : Fun K "_law_kind" "_law_kind" s_law_kind f fd) (Tx : Txt K mg A tk) (KN : KB K A .cl) : FnE P w K mg base 1 f fd ["error"] (SpB1 A .cl) := by
  refine okE F sc_law_kind (fun p vs H Q E h => ?_) (fun p cdv Ar outer s H vs Q E hot hr h => ?_)
  · obtain ⟨d, y, rfl, _⟩ := h
    rfl
  · obtain ⟨d, y, rfl, z, hd, q⟩ := h
    have XC : XcC K A.cl := KN.xc
    have no : PySem.W.findIn K (.ref A.cl) "moment" = some none := KN.no
    have z : ErrAt p A.cl d := z
    have hd : H d = some (.xd [("moment", y)]) := hd
    have hp : p ∈ (cxH CX0 P w K mg base ["error", "found"] "_law_kind" (defScope s_law_kind) f cdv Ar outer s H E p).pn := List.mem_singleton.mpr rfl
    refine ⟨_, (pss_cons (ps_set (i := 1) sc_law_kind.nd rfl (.inl rfl) (pe_lst pa_nil))
      (pss_cons (ps_if (pt_val (pe_callB (call_isE XC z hp) (by rfl) Tx.m_isinstance (by decide +kernel) (pa_cons (pv 0) (pa_cons (pe_glob (v := .ref A.bn) rfl Tx.g_BadNumber rfl) pa_nil)))) (pss_one ps_never) pss_nil)
      (pss_cons (ps_if (pt_val (pe_callB (call_isE XC z hp) (by rfl) Tx.m_isinstance (by decide +kernel) (pa_cons (pv 0) (pa_cons (pe_glob (v := .ref A.bs) rfl Tx.g_BadShape rfl) pa_nil)))) (pss_one ps_never) pss_nil)
      (pss_cons (ps_if (pt_val (pe_callB (call_isE XC z hp) (by rfl) Tx.m_isinstance (by decide +kernel) (pa_cons (pv 0) (pa_cons (pe_glob (v := .ref A.be) rfl Tx.g_BadElement rfl) pa_nil)))) (pss_one ps_never) pss_nil)
      (pss_cons (ps_if (pt_val (pe_callB (call_isE XC z hp) (by rfl) Tx.m_isinstance (by decide +kernel) (pa_cons (pv 0) (pa_cons (pe_glob (v := .ref A.bt) rfl Tx.g_BadText rfl) pa_nil)))) (pss_one ps_never) pss_nil)
      (pss_cons (ps_if (pt_val (pe_callB (call_isE XC z hp) (by rfl) Tx.m_isinstance (by decide +kernel) (pa_cons (pv 0) (pa_cons (pe_glob (v := .ref A.tl) rfl Tx.g_TooLarge rfl) pa_nil)))) (pss_one ps_never) pss_nil)
      (pss_cons (ps_if (pt_val (pe_callB (call_isE XC z hp) (by rfl) Tx.m_isinstance (by decide +kernel) (pa_cons (pv 0) (pa_cons (pe_glob (v := .ref A.cl) rfl Tx.g_Clash rfl) pa_nil)))) (pss_one (ps_expr (pe_bm PySem.F.plainAttrs_list PySem.F.slot_list_append PySem.F.type_list_append mt_append (pv 1) (pa_cons (pe_tup (pa_cons pe_str (pa_cons (pe_errF XC no z hp (pv 0)) pa_nil))) pa_nil)))) pss_nil)
      (pss_cons (ps_if (pt_val (pe_callB (call_isE XC z hp) (by rfl) Tx.m_isinstance (by decide +kernel) (pa_cons (pv 0) (pa_cons (pe_glob (v := .ref A.ni) rfl Tx.g_NoInverse rfl) pa_nil)))) (pss_one ps_never) pss_nil)
      (pss_cons (ps_if (pt_val (pe_callB (call_isE XC z hp) (by rfl) Tx.m_isinstance (by decide +kernel) (pa_cons (pv 0) (pa_cons (pe_glob (v := .ref A.nm) rfl Tx.g_NotMade rfl) pa_nil)))) (pss_one ps_never) pss_nil)
      (pss_cons (ps_if (pt_val (pe_callB (call_isE XC z hp) (by rfl) Tx.m_isinstance (by decide +kernel) (pa_cons (pv 0) (pa_cons (pe_glob (v := .ref A.en) rfl Tx.g_Ended rfl) pa_nil)))) (pss_one ps_never) pss_nil)
      (pss_cons (ps_if (PW.pt (pw_or (pt_cmpR op_ne (pe_callB call_lenH (by rfl) Tx.m_len (by decide +kernel) (pa_cons (pv 1) pa_nil)) pe_int (nomark _)) (pw_or (pt_not (pt_val (pe_callB (call_isE XC z hp) (by rfl) Tx.m_isinstance (by decide +kernel) (pa_cons (pv 0) (pa_cons (pe_glob (v := .ref A.me) rfl Tx.g_MendError rfl) pa_nil))))) (pw_or1 (pt_not (pt_val (pe_callB (call_isE XC z hp) (by rfl) Tx.m_isinstance (by decide +kernel) (pa_cons (pv 0) (pa_cons (pe_bltn (v := .ty "ValueError") (u := .type "ValueError") (by rfl) Tx.m_ValueError (by decide +kernel) rel_ty) pa_nil))))))))) (pss_one (ps_ret (pe_tup (pa_cons pe_str pa_nil)))) pss_nil)
      (pss_one (ps_ret (pe_ix ix_H (pv 1) pe_int (fun _ _ => rfl))))))))))))))), ?_⟩
    have isE : ∀ (G : Hp) (c : Addr) (R : VK), G d = some (.xd [("moment", y)]) → rIsE K A.cl d p.1 [.ref p.1, .ref c] G R = ∃ b, PySem.W.kitOne K (.ref A.cl) (.ref c) = some b ∧ R (.bl b) G := fun G c R e => w_isE e
    have isT : ∀ (G : Hp) (n : String) (R : VK), G d = some (.xd [("moment", y)]) → rIsE K A.cl d p.1 [.ref p.1, .ty n] G R = ∃ b, PySem.W.kitOne K (.ref A.cl) (.type n) = some b ∧ R (.bl b) G := fun G n R e => w_isEt e
    have lk : List.lookup ("moment" : Str) [(("moment" : Str), y)] = some y := rfl
    have cK : (cxH CX0 P w K mg base ["error", "found"] "_law_kind" (defScope s_law_kind) f cdv Ar outer s H E p).K = K := rfl
    clear hot hr
    have b_bn : PySem.W.kitOne K (.ref A.cl) (.ref A.bn) = some false := KN.bn
    have b_bs : PySem.W.kitOne K (.ref A.cl) (.ref A.bs) = some false := KN.bs
    have b_be : PySem.W.kitOne K (.ref A.cl) (.ref A.be) = some false := KN.be
    have b_bt : PySem.W.kitOne K (.ref A.cl) (.ref A.bt) = some false := KN.bt
    have b_tl : PySem.W.kitOne K (.ref A.cl) (.ref A.tl) = some false := KN.tl
    have b_cl : PySem.W.kitOne K (.ref A.cl) (.ref A.cl) = some true := KN.cl
    have b_ni : PySem.W.kitOne K (.ref A.cl) (.ref A.ni) = some false := KN.ni
    have b_nm : PySem.W.kitOne K (.ref A.cl) (.ref A.nm) = some false := KN.nm
    have b_en : PySem.W.kitOne K (.ref A.cl) (.ref A.en) = some false := KN.en
    have b_me : PySem.W.kitOne K (.ref A.cl) (.ref A.me) = some true := KN.me
    have b_ve : PySem.W.kitOne K (.ref A.cl) (.type "ValueError") = some true := KN.ve
    simp only [w_seq, w_next, w_ret, w_asg, w_ifs, w_drop, w_brk, w_cont, w_name, w_var, w_c, w_op, w_un, w_I, w_I0, w_U, w_eq, w_scII, w_scBB, w_scSS, w_scNN, w_zi, w_zb, w_zn, w_zs, V.int.injEq, V.bl.injEq, V.str.injEq, V.ref.injEq, w_ne, w_test, w_B, w_and, w_or, w_not, w_andV, w_orV, w_notV, w_if, w_isN, w_nil, w_cons, w_cb, w_call, w_tup, w_lst, w_sub, w_intI, w_intB, w_isTyH, w_typ, w_isH, w_ixH, w_lenH, w_absH, w_listH, w_strH, w_bm, w_chain, w_exB, w_exV, w_start, k_ii, k_ib, k_is, k_il, k_it, k_bi, k_bb, k_bs, k_bl, k_bt, k_ni, k_nb, k_ns, k_nl, k_nt, k_si, k_sb, k_ss, k_sl, k_st, k_li, k_lb, k_ls, k_ll, k_lt, k_ti, k_tb, k_ts, k_tl, k_tt, w_st1, w_st2, w_st3, w_st5, atI_s0, atI_s1, atI_s2, atI_s3, atI_s4, atI_s5, List.map_cons, List.map_nil, List.length_cons, List.length_nil, List.replicate, List.cons_append, List.nil_append, List.append_nil, List.getElem?_cons_zero, List.getElem?_cons_succ, List.set_cons_zero, List.set_cons_succ, Nat.sub_self, Nat.reduceAdd, Nat.reduceSub, List.replicate_zero, decide_eq_true_eq, Bool.true_eq_false, Bool.false_eq_true, if_true, if_false, reduceIte, Bool.not_eq_true', decide_eq_false_iff_not, Bool.not_true, Bool.not_false, exists_eq_left', true_and, and_true, Option.some.injEq, reduceCtorEq, decide_true, decide_false, not_true_eq_false, not_false_eq_true, sizeLine_eq, Nat.reduceLeDiff, Bool.or_false, Bool.or_true, Bool.false_or, Bool.true_or, wp1, wp2, w_par, w_par2, w_tsl, w_nopart, w_part, w_exI, cK]
    intro l hl
    have d1 : d ≠ l := ne_of_none hd hl
    have u1 : ∀ (G : Hp) (o : HO), upd G l o d = G d := fun G o => upd_ne d1
    have fin : ∀ (t : Addr), upd H l (.lst []) t = none → ∀ R : Hp → Prop, (∀ G : Hp, Same H G → G t = some (.tup [.str "Clash", y]) → G l = some (.lst [.ref t]) → H t = none → R G) →
        rAppend (.ref l) [.ref t] (upd (upd H l (.lst [])) t (.tup [.str "Clash", y])) fun _ G => R G := fun t ht R k => by
      have tl : t ≠ l := fun e => by
        rw [e, upd_same] at ht
        cases ht
      have ht0 : H t = none := by
        rw [upd_ne tl] at ht
        exact ht
      have e1 : upd (upd H l (.lst [])) t (.tup [.str "Clash", y]) l = some (.lst []) := by
        rw [upd_ne (Ne.symm tl), upd_same]
      rw [w_append e1]
      refine ⟨by decide, k _ (same_mut (same_mut (same_new hl) ht0) hl) ?_ upd_same ht0⟩
      rw [upd_ne tl, upd_same]
    simp only [w_seq, w_next, w_ret, w_asg, w_ifs, w_drop, w_brk, w_cont, w_name, w_var, w_c, w_op, w_un, w_I, w_I0, w_U, w_eq, w_scII, w_scBB, w_scSS, w_scNN, w_zi, w_zb, w_zn, w_zs, V.int.injEq, V.bl.injEq, V.str.injEq, V.ref.injEq, w_ne, w_test, w_B, w_and, w_or, w_not, w_andV, w_orV, w_notV, w_if, w_isN, w_nil, w_cons, w_cb, w_call, w_tup, w_lst, w_sub, w_intI, w_intB, w_isTyH, w_typ, w_isH, w_ixH, w_lenH, w_absH, w_listH, w_strH, w_bm, w_chain, w_exB, w_exV, w_start, k_ii, k_ib, k_is, k_il, k_it, k_bi, k_bb, k_bs, k_bl, k_bt, k_ni, k_nb, k_ns, k_nl, k_nt, k_si, k_sb, k_ss, k_sl, k_st, k_li, k_lb, k_ls, k_ll, k_lt, k_ti, k_tb, k_ts, k_tl, k_tt, w_st1, w_st2, w_st3, w_st5, atI_s0, atI_s1, atI_s2, atI_s3, atI_s4, atI_s5, List.map_cons, List.map_nil, List.length_cons, List.length_nil, List.replicate, List.cons_append, List.nil_append, List.append_nil, List.getElem?_cons_zero, List.getElem?_cons_succ, List.set_cons_zero, List.set_cons_succ, Nat.sub_self, Nat.reduceAdd, Nat.reduceSub, List.replicate_zero, decide_eq_true_eq, Bool.true_eq_false, Bool.false_eq_true, if_true, if_false, reduceIte, Bool.not_eq_true', decide_eq_false_iff_not, Bool.not_true, Bool.not_false, exists_eq_left', true_and, and_true, Option.some.injEq, reduceCtorEq, decide_true, decide_false, not_true_eq_false, not_false_eq_true, sizeLine_eq, Nat.reduceLeDiff, Bool.or_false, Bool.or_true, Bool.false_or, Bool.true_or, wp1, wp2, w_par, w_par2, w_tsl, w_nopart, w_part, w_exI, isE, isT, u1, hd, b_bn, b_bs, b_be, b_bt, b_tl, b_cl, w_errF, cK, w_tyL upd_same]
    refine ⟨_, y, rfl, lk, fun t ht => fin t ht _ fun G sG tG lG ht0 => ?_⟩
    have dG := sG _ _ hd
    simp only [w_seq, w_next, w_ret, w_asg, w_ifs, w_drop, w_brk, w_cont, w_name, w_var, w_c, w_op, w_un, w_I, w_I0, w_U, w_eq, w_scII, w_scBB, w_scSS, w_scNN, w_zi, w_zb, w_zn, w_zs, V.int.injEq, V.bl.injEq, V.str.injEq, V.ref.injEq, w_ne, w_test, w_B, w_and, w_or, w_not, w_andV, w_orV, w_notV, w_if, w_isN, w_nil, w_cons, w_cb, w_call, w_tup, w_lst, w_sub, w_intI, w_intB, w_isTyH, w_typ, w_isH, w_ixH, w_lenH, w_absH, w_listH, w_strH, w_bm, w_chain, w_exB, w_exV, w_start, k_ii, k_ib, k_is, k_il, k_it, k_bi, k_bb, k_bs, k_bl, k_bt, k_ni, k_nb, k_ns, k_nl, k_nt, k_si, k_sb, k_ss, k_sl, k_st, k_li, k_lb, k_ls, k_ll, k_lt, k_ti, k_tb, k_ts, k_tl, k_tt, w_st1, w_st2, w_st3, w_st5, atI_s0, atI_s1, atI_s2, atI_s3, atI_s4, atI_s5, List.map_cons, List.map_nil, List.length_cons, List.length_nil, List.replicate, List.cons_append, List.nil_append, List.append_nil, List.getElem?_cons_zero, List.getElem?_cons_succ, List.set_cons_zero, List.set_cons_succ, Nat.sub_self, Nat.reduceAdd, Nat.reduceSub, List.replicate_zero, decide_eq_true_eq, Bool.true_eq_false, Bool.false_eq_true, if_true, if_false, reduceIte, Bool.not_eq_true', decide_eq_false_iff_not, Bool.not_true, Bool.not_false, exists_eq_left', true_and, and_true, Option.some.injEq, reduceCtorEq, decide_true, decide_false, not_true_eq_false, not_false_eq_true, sizeLine_eq, Nat.reduceLeDiff, Bool.or_false, Bool.or_true, Bool.false_or, Bool.true_or, wp1, wp2, w_par, w_par2, w_tsl, w_nopart, w_part, w_exI, isE, isT, dG, b_ni, b_nm, b_en, b_me, b_ve, seqAt_l lG, w_errF, cK]
    rw [if_neg (by decide)]
    exact ⟨_, rfl, q t G sG ht0 tG⟩
theorem ok_kind_bt (F : Fun K "_law_kind" "_law_kind" s_law_kind f fd) (Tx : Txt K mg A tk) (KN : KB K A .bt) : FnE P w K mg base 1 f fd ["error"] (SpB1 A .bt) := by
  refine okE F sc_law_kind (fun p vs H Q E h => ?_) (fun p cdv Ar outer s H vs Q E hot hr h => ?_)
  · obtain ⟨d, y, rfl, _⟩ := h
    rfl
  · obtain ⟨d, y, rfl, z, hd, q⟩ := h
    have XC : XcC K A.bt := KN.xc
    have no : PySem.W.findIn K (.ref A.bt) "line" = some none := KN.no
    have z : ErrAt p A.bt d := z
    have hd : H d = some (.xd [("line", y)]) := hd
    have hp : p ∈ (cxH CX0 P w K mg base ["error", "found"] "_law_kind" (defScope s_law_kind) f cdv Ar outer s H E p).pn := List.mem_singleton.mpr rfl
    refine ⟨_, (pss_cons (ps_set (i := 1) sc_law_kind.nd rfl (.inl rfl) (pe_lst pa_nil))
      (pss_cons (ps_if (pt_val (pe_callB (call_isE XC z hp) (by rfl) Tx.m_isinstance (by decide +kernel) (pa_cons (pv 0) (pa_cons (pe_glob (v := .ref A.bn) rfl Tx.g_BadNumber rfl) pa_nil)))) (pss_one ps_never) pss_nil)
      (pss_cons (ps_if (pt_val (pe_callB (call_isE XC z hp) (by rfl) Tx.m_isinstance (by decide +kernel) (pa_cons (pv 0) (pa_cons (pe_glob (v := .ref A.bs) rfl Tx.g_BadShape rfl) pa_nil)))) (pss_one ps_never) pss_nil)
      (pss_cons (ps_if (pt_val (pe_callB (call_isE XC z hp) (by rfl) Tx.m_isinstance (by decide +kernel) (pa_cons (pv 0) (pa_cons (pe_glob (v := .ref A.be) rfl Tx.g_BadElement rfl) pa_nil)))) (pss_one ps_never) pss_nil)
      (pss_cons (ps_if (pt_val (pe_callB (call_isE XC z hp) (by rfl) Tx.m_isinstance (by decide +kernel) (pa_cons (pv 0) (pa_cons (pe_glob (v := .ref A.bt) rfl Tx.g_BadText rfl) pa_nil)))) (pss_one (ps_expr (pe_bm PySem.F.plainAttrs_list PySem.F.slot_list_append PySem.F.type_list_append mt_append (pv 1) (pa_cons (pe_tup (pa_cons pe_str (pa_cons (pe_errF XC no z hp (pv 0)) pa_nil))) pa_nil)))) pss_nil)
      (pss_cons (ps_if (pt_val (pe_callB (call_isE XC z hp) (by rfl) Tx.m_isinstance (by decide +kernel) (pa_cons (pv 0) (pa_cons (pe_glob (v := .ref A.tl) rfl Tx.g_TooLarge rfl) pa_nil)))) (pss_one ps_never) pss_nil)
      (pss_cons (ps_if (pt_val (pe_callB (call_isE XC z hp) (by rfl) Tx.m_isinstance (by decide +kernel) (pa_cons (pv 0) (pa_cons (pe_glob (v := .ref A.cl) rfl Tx.g_Clash rfl) pa_nil)))) (pss_one ps_never) pss_nil)
      (pss_cons (ps_if (pt_val (pe_callB (call_isE XC z hp) (by rfl) Tx.m_isinstance (by decide +kernel) (pa_cons (pv 0) (pa_cons (pe_glob (v := .ref A.ni) rfl Tx.g_NoInverse rfl) pa_nil)))) (pss_one ps_never) pss_nil)
      (pss_cons (ps_if (pt_val (pe_callB (call_isE XC z hp) (by rfl) Tx.m_isinstance (by decide +kernel) (pa_cons (pv 0) (pa_cons (pe_glob (v := .ref A.nm) rfl Tx.g_NotMade rfl) pa_nil)))) (pss_one ps_never) pss_nil)
      (pss_cons (ps_if (pt_val (pe_callB (call_isE XC z hp) (by rfl) Tx.m_isinstance (by decide +kernel) (pa_cons (pv 0) (pa_cons (pe_glob (v := .ref A.en) rfl Tx.g_Ended rfl) pa_nil)))) (pss_one ps_never) pss_nil)
      (pss_cons (ps_if (PW.pt (pw_or (pt_cmpR op_ne (pe_callB call_lenH (by rfl) Tx.m_len (by decide +kernel) (pa_cons (pv 1) pa_nil)) pe_int (nomark _)) (pw_or (pt_not (pt_val (pe_callB (call_isE XC z hp) (by rfl) Tx.m_isinstance (by decide +kernel) (pa_cons (pv 0) (pa_cons (pe_glob (v := .ref A.me) rfl Tx.g_MendError rfl) pa_nil))))) (pw_or1 (pt_not (pt_val (pe_callB (call_isE XC z hp) (by rfl) Tx.m_isinstance (by decide +kernel) (pa_cons (pv 0) (pa_cons (pe_bltn (v := .ty "ValueError") (u := .type "ValueError") (by rfl) Tx.m_ValueError (by decide +kernel) rel_ty) pa_nil))))))))) (pss_one (ps_ret (pe_tup (pa_cons pe_str pa_nil)))) pss_nil)
      (pss_one (ps_ret (pe_ix ix_H (pv 1) pe_int (fun _ _ => rfl))))))))))))))), ?_⟩
    have isE : ∀ (G : Hp) (c : Addr) (R : VK), G d = some (.xd [("line", y)]) → rIsE K A.bt d p.1 [.ref p.1, .ref c] G R = ∃ b, PySem.W.kitOne K (.ref A.bt) (.ref c) = some b ∧ R (.bl b) G := fun G c R e => w_isE e
    have isT : ∀ (G : Hp) (n : String) (R : VK), G d = some (.xd [("line", y)]) → rIsE K A.bt d p.1 [.ref p.1, .ty n] G R = ∃ b, PySem.W.kitOne K (.ref A.bt) (.type n) = some b ∧ R (.bl b) G := fun G n R e => w_isEt e
    have lk : List.lookup ("line" : Str) [(("line" : Str), y)] = some y := rfl
    have cK : (cxH CX0 P w K mg base ["error", "found"] "_law_kind" (defScope s_law_kind) f cdv Ar outer s H E p).K = K := rfl
    clear hot hr
    have b_bn : PySem.W.kitOne K (.ref A.bt) (.ref A.bn) = some false := KN.bn
    have b_bs : PySem.W.kitOne K (.ref A.bt) (.ref A.bs) = some false := KN.bs
    have b_be : PySem.W.kitOne K (.ref A.bt) (.ref A.be) = some false := KN.be
    have b_bt : PySem.W.kitOne K (.ref A.bt) (.ref A.bt) = some true := KN.bt
    have b_tl : PySem.W.kitOne K (.ref A.bt) (.ref A.tl) = some false := KN.tl
    have b_cl : PySem.W.kitOne K (.ref A.bt) (.ref A.cl) = some false := KN.cl
    have b_ni : PySem.W.kitOne K (.ref A.bt) (.ref A.ni) = some false := KN.ni
    have b_nm : PySem.W.kitOne K (.ref A.bt) (.ref A.nm) = some false := KN.nm
    have b_en : PySem.W.kitOne K (.ref A.bt) (.ref A.en) = some false := KN.en
    have b_me : PySem.W.kitOne K (.ref A.bt) (.ref A.me) = some true := KN.me
    have b_ve : PySem.W.kitOne K (.ref A.bt) (.type "ValueError") = some true := KN.ve
    simp only [w_seq, w_next, w_ret, w_asg, w_ifs, w_drop, w_brk, w_cont, w_name, w_var, w_c, w_op, w_un, w_I, w_I0, w_U, w_eq, w_scII, w_scBB, w_scSS, w_scNN, w_zi, w_zb, w_zn, w_zs, V.int.injEq, V.bl.injEq, V.str.injEq, V.ref.injEq, w_ne, w_test, w_B, w_and, w_or, w_not, w_andV, w_orV, w_notV, w_if, w_isN, w_nil, w_cons, w_cb, w_call, w_tup, w_lst, w_sub, w_intI, w_intB, w_isTyH, w_typ, w_isH, w_ixH, w_lenH, w_absH, w_listH, w_strH, w_bm, w_chain, w_exB, w_exV, w_start, k_ii, k_ib, k_is, k_il, k_it, k_bi, k_bb, k_bs, k_bl, k_bt, k_ni, k_nb, k_ns, k_nl, k_nt, k_si, k_sb, k_ss, k_sl, k_st, k_li, k_lb, k_ls, k_ll, k_lt, k_ti, k_tb, k_ts, k_tl, k_tt, w_st1, w_st2, w_st3, w_st5, atI_s0, atI_s1, atI_s2, atI_s3, atI_s4, atI_s5, List.map_cons, List.map_nil, List.length_cons, List.length_nil, List.replicate, List.cons_append, List.nil_append, List.append_nil, List.getElem?_cons_zero, List.getElem?_cons_succ, List.set_cons_zero, List.set_cons_succ, Nat.sub_self, Nat.reduceAdd, Nat.reduceSub, List.replicate_zero, decide_eq_true_eq, Bool.true_eq_false, Bool.false_eq_true, if_true, if_false, reduceIte, Bool.not_eq_true', decide_eq_false_iff_not, Bool.not_true, Bool.not_false, exists_eq_left', true_and, and_true, Option.some.injEq, reduceCtorEq, decide_true, decide_false, not_true_eq_false, not_false_eq_true, sizeLine_eq, Nat.reduceLeDiff, Bool.or_false, Bool.or_true, Bool.false_or, Bool.true_or, wp1, wp2, w_par, w_par2, w_tsl, w_nopart, w_part, w_exI, cK]
    intro l hl
    have d1 : d ≠ l := ne_of_none hd hl
    have u1 : ∀ (G : Hp) (o : HO), upd G l o d = G d := fun G o => upd_ne d1
    have fin : ∀ (t : Addr), upd H l (.lst []) t = none → ∀ R : Hp → Prop, (∀ G : Hp, Same H G → G t = some (.tup [.str "BadText", y]) → G l = some (.lst [.ref t]) → H t = none → R G) →
        rAppend (.ref l) [.ref t] (upd (upd H l (.lst [])) t (.tup [.str "BadText", y])) fun _ G => R G := fun t ht R k => by
      have tl : t ≠ l := fun e => by
        rw [e, upd_same] at ht
        cases ht
      have ht0 : H t = none := by
        rw [upd_ne tl] at ht
        exact ht
      have e1 : upd (upd H l (.lst [])) t (.tup [.str "BadText", y]) l = some (.lst []) := by
        rw [upd_ne (Ne.symm tl), upd_same]
      rw [w_append e1]
      refine ⟨by decide, k _ (same_mut (same_mut (same_new hl) ht0) hl) ?_ upd_same ht0⟩
      rw [upd_ne tl, upd_same]
    simp only [w_seq, w_next, w_ret, w_asg, w_ifs, w_drop, w_brk, w_cont, w_name, w_var, w_c, w_op, w_un, w_I, w_I0, w_U, w_eq, w_scII, w_scBB, w_scSS, w_scNN, w_zi, w_zb, w_zn, w_zs, V.int.injEq, V.bl.injEq, V.str.injEq, V.ref.injEq, w_ne, w_test, w_B, w_and, w_or, w_not, w_andV, w_orV, w_notV, w_if, w_isN, w_nil, w_cons, w_cb, w_call, w_tup, w_lst, w_sub, w_intI, w_intB, w_isTyH, w_typ, w_isH, w_ixH, w_lenH, w_absH, w_listH, w_strH, w_bm, w_chain, w_exB, w_exV, w_start, k_ii, k_ib, k_is, k_il, k_it, k_bi, k_bb, k_bs, k_bl, k_bt, k_ni, k_nb, k_ns, k_nl, k_nt, k_si, k_sb, k_ss, k_sl, k_st, k_li, k_lb, k_ls, k_ll, k_lt, k_ti, k_tb, k_ts, k_tl, k_tt, w_st1, w_st2, w_st3, w_st5, atI_s0, atI_s1, atI_s2, atI_s3, atI_s4, atI_s5, List.map_cons, List.map_nil, List.length_cons, List.length_nil, List.replicate, List.cons_append, List.nil_append, List.append_nil, List.getElem?_cons_zero, List.getElem?_cons_succ, List.set_cons_zero, List.set_cons_succ, Nat.sub_self, Nat.reduceAdd, Nat.reduceSub, List.replicate_zero, decide_eq_true_eq, Bool.true_eq_false, Bool.false_eq_true, if_true, if_false, reduceIte, Bool.not_eq_true', decide_eq_false_iff_not, Bool.not_true, Bool.not_false, exists_eq_left', true_and, and_true, Option.some.injEq, reduceCtorEq, decide_true, decide_false, not_true_eq_false, not_false_eq_true, sizeLine_eq, Nat.reduceLeDiff, Bool.or_false, Bool.or_true, Bool.false_or, Bool.true_or, wp1, wp2, w_par, w_par2, w_tsl, w_nopart, w_part, w_exI, isE, isT, u1, hd, b_bn, b_bs, b_be, b_bt, w_errF, cK, w_tyL upd_same]
    refine ⟨_, y, rfl, lk, fun t ht => fin t ht _ fun G sG tG lG ht0 => ?_⟩
    have dG := sG _ _ hd
    simp only [w_seq, w_next, w_ret, w_asg, w_ifs, w_drop, w_brk, w_cont, w_name, w_var, w_c, w_op, w_un, w_I, w_I0, w_U, w_eq, w_scII, w_scBB, w_scSS, w_scNN, w_zi, w_zb, w_zn, w_zs, V.int.injEq, V.bl.injEq, V.str.injEq, V.ref.injEq, w_ne, w_test, w_B, w_and, w_or, w_not, w_andV, w_orV, w_notV, w_if, w_isN, w_nil, w_cons, w_cb, w_call, w_tup, w_lst, w_sub, w_intI, w_intB, w_isTyH, w_typ, w_isH, w_ixH, w_lenH, w_absH, w_listH, w_strH, w_bm, w_chain, w_exB, w_exV, w_start, k_ii, k_ib, k_is, k_il, k_it, k_bi, k_bb, k_bs, k_bl, k_bt, k_ni, k_nb, k_ns, k_nl, k_nt, k_si, k_sb, k_ss, k_sl, k_st, k_li, k_lb, k_ls, k_ll, k_lt, k_ti, k_tb, k_ts, k_tl, k_tt, w_st1, w_st2, w_st3, w_st5, atI_s0, atI_s1, atI_s2, atI_s3, atI_s4, atI_s5, List.map_cons, List.map_nil, List.length_cons, List.length_nil, List.replicate, List.cons_append, List.nil_append, List.append_nil, List.getElem?_cons_zero, List.getElem?_cons_succ, List.set_cons_zero, List.set_cons_succ, Nat.sub_self, Nat.reduceAdd, Nat.reduceSub, List.replicate_zero, decide_eq_true_eq, Bool.true_eq_false, Bool.false_eq_true, if_true, if_false, reduceIte, Bool.not_eq_true', decide_eq_false_iff_not, Bool.not_true, Bool.not_false, exists_eq_left', true_and, and_true, Option.some.injEq, reduceCtorEq, decide_true, decide_false, not_true_eq_false, not_false_eq_true, sizeLine_eq, Nat.reduceLeDiff, Bool.or_false, Bool.or_true, Bool.false_or, Bool.true_or, wp1, wp2, w_par, w_par2, w_tsl, w_nopart, w_part, w_exI, isE, isT, dG, b_tl, b_cl, b_ni, b_nm, b_en, b_me, b_ve, seqAt_l lG, w_errF, cK]
    rw [if_neg (by decide)]
    exact ⟨_, rfl, q t G sG ht0 tG⟩
theorem ok_kindB (F : Fun K "_law_kind" "_law_kind" s_law_kind f fd) (Tx : Txt K mg A tk) : ∀ c, blAl c = true → KB K A c → FnE P w K mg base 1 f fd ["error"] (SpB1 A c)
  | .bn, h, _ => absurd h (by decide)
  | .bs, h, _ => absurd h (by decide)
  | .be, h, _ => absurd h (by decide)
  | .bt, _, k => ok_kind_bt F Tx k
  | .tl, _, k => ok_kind_tl F Tx k
  | .cl, _, k => ok_kind_cl F Tx k
theorem ok_law_kind (F : Fun K "_law_kind" "_law_kind" s_law_kind f fd) (Tx : Txt K mg A tk)  (KO : KOk K A ecAl) (KH : ∀ z, zlAl z = true → KZ K A z) (KBs : ∀ c, blAl c = true → KB K A c) : FnE P w K mg base 1 f fd ["error"] (SpB A ecAl zlAl blAl) := FnE.or (FnE.or ((ok_kind0 F Tx).imp fun p vs H Q E h => kind_spec KO h) ⟨fun p vs H Q E ⟨z, hz, h⟩ => (ok_kindZ (P := P) (w := w) (base := base) F Tx z (KH z hz)).len p vs H Q E h, fun p Ar outer s H args us vs Q E a b c d e f ⟨z, hz, h⟩ => (ok_kindZ (P := P) (w := w) (base := base) F Tx z (KH z hz)).run p Ar outer s H args us vs Q E a b c d e f h⟩)
  ⟨fun p vs H Q E ⟨c, hc, h⟩ => (ok_kindB (P := P) (w := w) (base := base) F Tx c hc (KBs c hc)).len p vs H Q E h, fun p Ar outer s H args us vs Q E a b c d e f ⟨c', hc, h⟩ => (ok_kindB (P := P) (w := w) (base := base) F Tx c' hc (KBs c' hc)).run p Ar outer s H args us vs Q E a b c d e f h⟩
end
end Mt
namespace Mt
open PySem PySem.Spec PyProof.Rows L2 L2H
section
variable {P : Program} {w : World} {K : PySem.W.Frag} {mg : Str → Option Value} {base : Heap} {f : Addr} {fd : FuncData} {A : Ad} {tk : Nat → Tok}
theorem ok_law_flags (F : Fun K "_law_flags" "_law_flags" s_law_flags f fd) (Tx : Txt K mg A tk) (C_law_take : Cal P w K mg base "_law_take" 2 ["store", "many"] (SpU A 2 c_law_take)) :
    FnOk P w K mg base CX0 3 f fd ["store", "beats"] (SpU A 2 c_law_flags) := by
  refine F.ok sc_law_flags (fun vs H Q E h => h.len) (fun cdv Ar outer s H vs Q E hr h => ?_)
  obtain ⟨st, P0, ds, k, XA, h1, h2, h3, hc, h5, h6⟩ := h
  refine ⟨_, (pss_cons (ps_set (i := 2) sc_law_flags.nd rfl (.inr rfl) (p_call C_law_take hr (pa_cons (pv 0) (pa_cons pe_int pa_nil)) (by omega)))
      (pss_cons (ps_if (pt_cmpR op_lt (pv 2) pe_int (nomark _)) (pss_one (ps_ret (pe_lc (own := [("k", 5)]) (g := gName 5) rfl sc_law_flags.nd (pi_range1 (by rfl) Tx.m_range (pa_cons (pv 1) pa_nil)) (blkOk_by (N := ["store", "beats", "way", "found", "flag", "k"]) (sc := defScope s_law_flags) (by decide +kernel)) (fun _ _ _ _ _ => pg_name (i := 5) sc_law_flags.nd rfl (.inl rfl)) (fun _ _ _ _ _ => pts_nil) (fun _ _ _ _ _ => (pv 2))))) pss_nil)
      (pss_cons (ps_if (pt_cmpR op_gt (pv 2) pe_int (nomark _)) (pss_one (ps_ret (pe_lc (own := [("k", 5)]) (g := gName 5) rfl sc_law_flags.nd (pi_range1 (by rfl) Tx.m_range (pa_cons (pv 1) pa_nil)) (blkOk_by (N := ["store", "beats", "way", "found", "flag", "k"]) (sc := defScope s_law_flags) (by decide +kernel)) (fun _ _ _ _ _ => pg_name (i := 5) sc_law_flags.nd rfl (.inl rfl)) (fun _ _ _ _ _ => pts_nil) (fun _ _ _ _ _ => (p_call C_law_take hr (pa_cons (pv 0) (pa_cons pe_int pa_nil)) (by omega)))))) pss_nil)
      (pss_cons (ps_set (i := 3) sc_law_flags.nd rfl (.inl rfl) (pe_lst pa_nil))
      (pss_cons (ps_set (i := 4) sc_law_flags.nd rfl (.inl rfl) (p_call C_law_take hr (pa_cons (pv 0) (pa_cons pe_int pa_nil)) (by omega)))
      (pss_cons (ps_for PassesOwn.never rfl (pi_range1 (by rfl) Tx.m_range (pa_cons (pv 1) pa_nil)) (pg_name (i := 5) sc_law_flags.nd rfl (.inl rfl)) (pss_cons (ps_expr (pe_bm PySem.F.plainAttrs_list PySem.F.slot_list_append PySem.F.type_list_append mt_append (pv 3) (pa_cons (pv 4) pa_nil)))
      (pss_one (ps_if (pt_cmpR op_eq (p_call C_law_take hr (pa_cons (pv 0) (pa_cons pe_int pa_nil)) (by omega)) pe_int (nomark _)) (pss_one (ps_set (i := 4) sc_law_flags.nd rfl (.inl rfl) (pe_op op_sub pe_int (pv 4)))) pss_nil))))
      (pss_one (ps_ret (pv 3))))))))), ?_⟩
  refine run0 (A := A) (ms := ?ms) (XA := XA) h1 h2 h5 ?r ?u
  case r => exact (rs_seq (rs_asg (re_call (ra_cons re_var (ra_cons re_int ra_nil))) rg_name)
      (rs_seq (rs_if (rt_test (re_op ro_bool re_var re_int)) (rs_ret (re_lc (vs := [5]) (is := [5]) (ric_of (ri_rng1 (ra_cons re_var ra_nil))) rg_name rt_yes re_var)) rs_next)
      (rs_seq (rs_if (rt_test (re_op ro_bool re_var re_int)) (rs_ret (re_lc (vs := [5]) (is := [5]) (ric_of (ri_rng1 (ra_cons re_var ra_nil))) rg_name rt_yes (re_call (ra_cons re_var (ra_cons re_int ra_nil))))) rs_next)
      (rs_seq (rs_own (row_lst ra_nil))
      (rs_seq (rs_asg (re_call (ra_cons re_var (ra_cons re_int ra_nil))) rg_name)
      (rs_seq (rs_for (ri_rng1 (ra_cons re_var ra_nil)) rg_name (rs_seq (rs_app re_var)
      (rs_if (rt_test (re_op ro_eq (re_call (ra_cons re_var (ra_cons re_int ra_nil))) re_int)) (rs_asg (re_op ro_int re_int re_var) rg_name) rs_next)))
      (rs_frz 3 (rs_ret re_var))))))))
  case u =>
    clear h1 h2 h5 h6 hr
    obtain ⟨n, rfl, hn, hk⟩ := hc
    (simp! only [])
    refine ⟨6, rfl, by decide, fun w w0 w1 => ?_⟩
    (simp! only [])
    refine ite2 (fun h => ⟨by omega, by omega, ?_⟩) (fun h => ite2 (fun h2 => ⟨by omega, by omega, ?_⟩) (fun h2 => ⟨2, rfl, by decide, fun t t0 t1 => ⟨by omega, by omega, ?_⟩⟩))
    · refine ⟨fun i acc => acc = (List.replicate i (decide (w = 1))).map flagT, rfl, fun i x acc hx ha => ?_, fun acc ha => ?_⟩
      · (simp! only [])
        subst ha
        have ew : T.int w = flagT (decide (w = 1)) := by rcases (by omega : w = 0 ∨ w = 1) with rfl | rfl <;> rfl
        rw [ew, List.map_replicate, ← List.replicate_succ, List.replicate_succ']
      · rw [rngT_len, Int.toNat_natCast] at ha
        subst ha
        exact hk _ List.length_replicate
    · refine ⟨fun i acc => ∃ fs : List Bool, fs.length = i ∧ acc = fs.map flagT, ⟨[], rfl, rfl⟩, fun i x acc hx ⟨fs, hl, ha⟩ => ?_, fun acc ⟨fs, hl, ha⟩ => ?_⟩
      · (simp! only [])
        refine ⟨2, rfl, by decide, fun v v0 v1 => ?_⟩
        (simp! only [])
        subst ha
        refine ⟨fs ++ [decide (v = 1)], by rw [List.length_append, hl]; rfl, ?_⟩
        rw [List.map_append]
        rcases (by omega : v = 0 ∨ v = 1) with rfl | rfl <;> rfl
      · rw [rngT_len, Int.toNat_natCast] at hl
        subst ha
        exact hk fs hl
    · refine ⟨fun i env => ∃ (fs : List Bool) (t : Int) (z5 : Option Sl), fs.length = i ∧ 0 ≤ t ∧ t ≤ 1 ∧ env = [some (Sl.d .sto), some (Sl.d (.int n)), some (Sl.d (.int w)), some (Sl.own (fs.map flagT)), some (Sl.d (.int t)), z5], ⟨[], t, none, rfl, t0, by omega, rfl⟩, ?_, ?_⟩
      · rintro i v env hv ⟨fs, t, z5, hl, t0, t1, rfl⟩
        obtain ⟨hi, rfl⟩ := rng_at hv
        (simp! only [])
        have ef : fs.map flagT ++ [T.int t] = (fs ++ [decide (t = 1)]).map flagT := by
          rw [List.map_append]
          rcases (by omega : t = 0 ∨ t = 1) with rfl | rfl <;> rfl
        rw [ef]
        have hl2 : (fs ++ [decide (t = 1)]).length = i + 1 := by rw [List.length_append, hl]; rfl
        refine ⟨by rw [List.length_map]; omega, 3, rfl, by decide, fun u u0 u1 => ?_⟩
        (simp! only [])
        exact ite2 (fun _ => ⟨_, 1 - t, _, hl2, by omega, by omega, rfl⟩) (fun _ => ⟨_, t, _, hl2, t0, t1, rfl⟩)
      · rintro env ⟨fs, t, z5, hl, t0, t1, rfl⟩
        rw [rngT_len, Int.toNat_natCast] at hl
        (simp! only [])
        exact hk fs hl
end
end Mt
namespace Mt
open PySem PySem.Spec PyProof.Rows L2 L2H
section
variable {P : Program} {w : World} {K : PySem.W.Frag} {mg : Str → Option Value} {base : Heap} {f : Addr} {fd : FuncData} {A : Ad} {tk : Nat → Tok}
theorem ok_law_pattern (F : Fun K "_law_pattern" "_law_pattern" s_law_pattern f fd) (Tx : Txt K mg A tk) (C_law_flags : Cal P w K mg base "_law_flags" 3 ["store", "beats"] (SpU A 2 c_law_flags)) (C_law_small : Cal P w K mg base "_law_small" 4 ["store", "low", "usual", "high"] (SpU A 4 c_law_small)) :
    FnOk P w K mg base CX0 5 f fd ["store", "usual", "most"] (SpU A 3 c_law_pattern) := by
  refine F.ok sc_law_pattern (fun vs H Q E h => h.len) (fun cdv Ar outer s H vs Q E hr h => ?_)
  obtain ⟨st, P0, ds, k, XA, h1, h2, h3, hc, h5, h6⟩ := h
  refine ⟨_, (pss_one (ps_ret (p_call C_law_flags hr (pa_cons (pv 0) (pa_cons (p_call C_law_small hr (pa_cons (pv 0) (pa_cons pe_int (pa_cons (pv 1) (pa_cons (pv 2) pa_nil)))) (by omega)) pa_nil)) (by omega)))), ?_⟩
  refine run0 (A := A) (ms := ?ms) (XA := XA) h1 h2 h5 ?r ?u
  case r => exact (rs_ret (re_call (ra_cons re_var (ra_cons (re_call (ra_cons re_var (ra_cons re_int (ra_cons re_var (ra_cons re_var ra_nil))))) ra_nil))))
  case u =>
    clear h1 h2 h5 h6 hr
    obtain ⟨us, mo, rfl, h1, h2, hk⟩ := hc
    (simp! only [])
    refine ⟨0, us, mo, rfl, by omega, by omega, by decide, by omega, fun n n0 n1 => ?_⟩
    obtain ⟨n, rfl⟩ := Int.eq_ofNat_of_zero_le n0
    exact ⟨n, rfl, by omega, fun fs hl => hk fs (by omega)⟩
end
end Mt
namespace Mt
open PySem PySem.Spec PyProof.Rows L2 L2H
section
variable {P : Program} {w : World} {K : PySem.W.Frag} {mg : Str → Option Value} {base : Heap} {f : Addr} {fd : FuncData} {A : Ad} {tk : Nat → Tok}
theorem ok_law_dots (F : Fun K "_law_dots" "_law_dots" s_law_dots f fd) (Tx : Txt K mg A tk)  :
    FnOk P w K mg base CX0 1 f fd ["pattern"] (SpU A 1 c_law_dots) := by
  refine F.ok sc_law_dots (fun vs H Q E h => h.len) (fun cdv Ar outer s H vs Q E hr h => ?_)
  obtain ⟨st, P0, ds, k, XA, h1, h2, h3, hc, h5, h6⟩ := h
  refine ⟨_, (pss_one (ps_ret (pe_join pe_str (pe_lc (own := [("flag", 1)]) (g := gName 1) rfl sc_law_dots.nd (pi_list (pv 0)) (blkOk_by (N := ["pattern", "flag"]) (sc := defScope s_law_dots) (by decide +kernel)) (fun _ _ _ _ _ => pg_name (i := 1) sc_law_dots.nd rfl (.inl rfl)) (fun _ _ _ _ _ => pts_nil) (fun _ _ _ _ _ => (pe_ix ix_str pe_str (pv 1) (fun _ _ => rfl))))))), ?_⟩
  refine run0 (A := A) (ms := ?ms) (XA := XA) h1 h2 h5 ?r ?u
  case r => exact (rs_ret (re_join re_str (re_lc (vs := [1]) (is := [1]) ric_var rg_name rt_yes (re_op ro_ixS re_str re_var))))
  case u =>
    clear h1 h2 h5 h6 hr
    obtain ⟨fs, rfl, hl, hk⟩ := hc
    (simp! only [])
    refine ⟨_, rfl, _, Or.inr rfl, ?_⟩
    refine lc_of (G := fun b : Bool => T.str (if b = true then Str.ofString "x" else Str.ofString ".")) (fun b hb r hr => ?_) ?_
    · (simp! only [])
      cases b
      · exact ⟨_, 0, 46, rfl, rfl, by decide, rfl, hr⟩
      · exact ⟨_, 1, 120, rfl, rfl, by decide, rfl, hr⟩
    refine ⟨fs.map fun b => if b = true then Str.ofString "x" else Str.ofString ".", by rw [List.map_map]; rfl, ?_, ?_⟩
    · rw [ones_sum (fun y hy => by
        obtain ⟨b, _, rfl⟩ := List.mem_map.mp hy
        cases b <;> rfl), List.length_map, show (Str.ofString "").length = 0 from rfl]
      omega
    · rw [join_flags]
      exact hk
end
end Mt
namespace Mt
open PySem PySem.Spec PyProof.Rows L2 L2H
section
variable {P : Program} {w : World} {K : PySem.W.Frag} {mg : Str → Option Value} {base : Heap} {f : Addr} {fd : FuncData} {A : Ad} {tk : Nat → Tok}
theorem ok_law_not_dots (F : Fun K "_law_not_dots" "_law_not_dots" s_law_not_dots f fd) (Tx : Txt K mg A tk) (C_law_dots : Cal P w K mg base "_law_dots" 1 ["pattern"] (SpU A 1 c_law_dots)) (C_law_take : Cal P w K mg base "_law_take" 2 ["store", "many"] (SpU A 2 c_law_take)) :
    FnOk P w K mg base CX0 3 f fd ["store", "pattern"] (SpU A 2 c_law_not_dots) := by
  refine F.ok sc_law_not_dots (fun vs H Q E h => h.len) (fun cdv Ar outer s H vs Q E hr h => ?_)
  obtain ⟨st, P0, ds, k, XA, h1, h2, h3, hc, h5, h6⟩ := h
  refine ⟨_, (pss_cons (ps_set (i := 2) sc_law_not_dots.nd rfl (.inl rfl) (p_call C_law_dots hr (pa_cons (pv 1) pa_nil) (by omega)))
      (pss_cons (ps_set (i := 3) sc_law_not_dots.nd rfl (.inl rfl) (p_call C_law_take hr (pa_cons (pv 0) (pa_cons pe_int pa_nil)) (by omega)))
      (pss_cons (ps_if (pt_cmpR op_eq (pv 3) pe_int (nomark _)) (pss_one (ps_ret (pe_ix ix_H (pe_lst (pa_cons pe_non (pa_cons pe_int (pa_cons (pe_callTy call_listH (by rfl) Tx.m_list (by decide +kernel) (pa_cons (pv 1) pa_nil)) (pa_cons (pe_lst (pa_cons (pv 2) pa_nil)) (pa_cons (pe_tup pa_nil) (pa_cons pe_bl pa_nil))))))) (p_call C_law_take hr (pa_cons (pv 0) (pa_cons pe_int pa_nil)) (by omega)) (fun _ _ => rfl)))) pss_nil)
      (pss_cons (ps_if (pt_cmpR op_eq (pv 3) pe_int (nomark _)) (pss_one (ps_ret (pe_op op_catS (pv 2) (pe_op op_mulS pe_str (pe_op op_sub pe_int (pe_callB call_lenS (by rfl) Tx.m_len (by decide +kernel) (pa_cons (pv 2) pa_nil))))))) pss_nil)
      (pss_cons (ps_set (i := 4) sc_law_not_dots.nd rfl (.inl rfl) (p_call C_law_take hr (pa_cons (pv 0) (pa_cons (pe_op op_add (pe_callB call_lenS (by rfl) Tx.m_len (by decide +kernel) (pa_cons (pv 2) pa_nil)) pe_int) pa_nil)) (by omega)))
      (pss_one (ps_ret (pe_op op_catS (pe_op op_catS (pe_slice sl_str (pv 2) po_none (po_some (pv 4))) (pe_ix ix_H (pe_lst (pa_cons pe_str (pa_cons pe_str (pa_cons pe_str (pa_cons pe_str (pa_cons pe_str (pa_cons pe_str (pa_cons pe_str (pa_cons pe_str pa_nil))))))))) (p_call C_law_take hr (pa_cons (pv 0) (pa_cons pe_int pa_nil)) (by omega)) (fun _ _ => rfl))) (pe_slice sl_str (pv 2) (po_some (pv 4)) po_none))))))))), ?_⟩
  refine run0 (A := A) (ms := ?ms) (XA := XA) h1 h2 h5 ?r ?u
  case r => exact (rs_seq (rs_asg (re_call (ra_cons re_var ra_nil)) rg_name)
      (rs_seq (rs_asg (re_call (ra_cons re_var (ra_cons re_int ra_nil))) rg_name)
      (rs_seq (rs_if (rt_test (re_op ro_eq re_var re_int)) (rs_ret (re_op ro_ix (re_lst (ra_cons re_non (ra_cons re_int (ra_cons (re_own (row_list (ra_cons re_var ra_nil))) (ra_cons (re_lst (ra_cons re_var ra_nil)) (ra_cons (re_tup ra_nil) (ra_cons re_bl ra_nil))))))) (re_call (ra_cons re_var (ra_cons re_int ra_nil))))) rs_next)
      (rs_seq (rs_if (rt_test (re_op ro_eq re_var re_int)) (rs_ret (re_op ro_catS re_var (re_op ro_mulS re_str (re_op ro_int re_int (re_cb rcb_lenS (ra_cons re_var ra_nil)))))) rs_next)
      (rs_seq (rs_asg (re_call (ra_cons re_var (ra_cons (re_op ro_int (re_cb rcb_lenS (ra_cons re_var ra_nil)) re_int) ra_nil))) rg_name)
      (rs_ret (re_op ro_catS (re_op ro_catS (re_slS re_var ro_no (ro_part re_var)) (re_op ro_ix (re_lst (ra_cons re_str (ra_cons re_str (ra_cons re_str (ra_cons re_str (ra_cons re_str (ra_cons re_str (ra_cons re_str (ra_cons re_str ra_nil))))))))) (re_call (ra_cons re_var (ra_cons re_int ra_nil))))) (re_slS re_var (ro_part re_var) ro_no))))))))
  case u =>
    clear h1 h2 h5 h6 hr
    obtain ⟨fs, rfl, hl, hk⟩ := hc
    have tl := textF_len fs
    (simp! only [mSlS])
    refine ⟨fs, rfl, by omega, ?_⟩
    (simp! only [])
    refine ⟨6, rfl, by decide, fun x x0 x1 => ?_⟩
    (simp! only [])
    refine ite2 (fun h => ?_) (fun h => ?_)
    · refine ⟨6, rfl, by decide, fun u u0 u1 => ?_⟩
      (simp! only [])
      have okf : okTs 2 (fs.map flagT) = true := okTs_of fun e he => by
        obtain ⟨b, _, rfl⟩ := List.mem_map.mp he
        rfl
      rcases (by omega : u = 0 ∨ u = 1 ∨ u = 2 ∨ u = 3 ∨ u = 4 ∨ u = 5) with rfl | rfl | rfl | rfl | rfl | rfl
      · exact ⟨_, rfl, hk _ rfl (fun z e => nomatch e)⟩
      · exact ⟨_, rfl, hk _ rfl (fun z e => nomatch e)⟩
      · exact ⟨_, rfl, hk _ (by rw [okT]; exact okf) (fun z e => nomatch e)⟩
      · exact ⟨_, rfl, hk _ rfl (fun z e => nomatch e)⟩
      · exact ⟨_, rfl, hk _ rfl (fun z e => nomatch e)⟩
      · exact ⟨_, rfl, hk _ rfl (fun z e => nomatch e)⟩
    refine ite2 (fun h1 => ?_) (fun h1 => ?_)
    · refine ⟨textF fs, rfl, by omega, ?_⟩
      (simp! only [])
      refine ⟨120, _, rfl, rfl, by omega, by omega, ?_⟩
      have l2 : (⟨(List.replicate ((801 : Int) - ((textF fs).length : Int)).toNat 120).toArray⟩ : Str).length = ((801 : Int) - ((textF fs).length : Int)).toNat := by rw [str_len]; simp
      refine ⟨_, _, rfl, rfl, by omega, hk _ rfl fun z e => ?_⟩
      cases e
      refine ⟨by rw [cat_len]; omega, fun fs' hf e => ?_⟩
      have := congrArg Str.length e
      rw [cat_len, textF_len fs', l2] at this
      omega
    · refine ⟨textF fs, rfl, by omega, ?_⟩
      (simp! only [])
      refine ⟨_, rfl, by omega, fun y y0 y1 => ?_⟩
      obtain ⟨n, rfl⟩ := Int.eq_ofNat_of_zero_le y0
      refine ⟨n, rfl, textF fs, rfl, by omega, ?_⟩
      refine ⟨8, rfl, by decide, fun u u0 u1 => ?_⟩
      (simp! only [])
      have fin : ∀ c : Nat, c ≠ 46 → c ≠ 120 → oCatS (T.str (cutS (textF fs) none (some (n : Int)))) (T.str ⟨#[c]⟩) fun d => ∃ z', T.str (textF fs) = T.str z' ∧ z'.length < 1000000 ∧ oCatS d (T.str (cutS z' (some (n : Int)) none)) k := fun c h1 h2 => ins_sign2 (by omega) (by omega) h1 h2 fun y hy => hk _ rfl fun z e => by
        cases e
        exact hy
      rcases (by omega : u = 0 ∨ u = 1 ∨ u = 2 ∨ u = 3 ∨ u = 4 ∨ u = 5 ∨ u = 6 ∨ u = 7) with rfl | rfl | rfl | rfl | rfl | rfl | rfl | rfl
      · exact ⟨_, rfl, fin 88 (by decide) (by decide)⟩
      · exact ⟨_, rfl, fin 48 (by decide) (by decide)⟩
      · exact ⟨_, rfl, fin 32 (by decide) (by decide)⟩
      · exact ⟨_, rfl, fin 10 (by decide) (by decide)⟩
      · exact ⟨_, rfl, fin 44 (by decide) (by decide)⟩
      · exact ⟨_, rfl, fin 9 (by decide) (by decide)⟩
      · exact ⟨_, rfl, fin 49 (by decide) (by decide)⟩
      · exact ⟨_, rfl, fin 111 (by decide) (by decide)⟩
end
end Mt
namespace Mt
open PySem PySem.Spec PyProof.Rows L2 L2H
section
variable {P : Program} {w : World} {K : PySem.W.Frag} {mg : Str → Option Value} {base : Heap} {f : Addr} {fd : FuncData} {A : Ad} {tk : Nat → Tok}
theorem ok_law_asked_read (F : Fun K "_law_asked_read" "_law_asked_read" s_law_asked_read f fd) (Tx : Txt K mg A tk) (C_law_kind : CalE P w K mg base "_law_kind" 1 ["error"] (SpB A ecAl zlAl blAl)) (C_read_pattern : CalX P w K mg base "read_pattern" 3 ["text"] (SpF A 1 c_read_pattern)) (AO : AllOf K A (.ref A.me)) :
    FnOk P w K mg base CX0 4 f fd ["text"] (SpF A 1 c_law_asked_read) := by
  refine F.ok sc_law_asked_read (fun vs H Q E h => h.len) (fun cdv Ar outer s H vs Q E hr h => ?_)
  obtain ⟨st, P0, ds, k, XA, h1, h2, h3, hc, h5, h6⟩ := h
  refine ⟨_, (pss_cons (p_tryR (i := 1) (Wout := fun _ _ _ _ => False) rfl rfl sc_law_asked_read.nd rfl rfl ⟨rfl, by decide, .inl Tx.g_MendError⟩ takesN (fun W pn xe tk po => (pss_one (ps_set (i := 2) sc_law_asked_read.nd rfl (.inl rfl) (p_callX C_read_pattern hr tk (pa_cons (pv 0) pa_nil) (by omega))))) (fun a oe cls d pn hz hf => (pss_one (ps_ret (p_callG C_law_kind hr hz hf (pa_cons (pv 1) pa_nil))))))
      (pss_one (ps_ret (pe_tup (pa_cons pe_str (pa_cons (pv 2) pa_nil)))))), ?_⟩
  refine runF0 (A := A) (ms := ?ms) (XA := XA) h1 h2 h5 ?r ?u
  case r => exact (rs_seq (rs_tryR (fun W => (rs_tr (rot_callX (ra_cons re_var ra_nil)))) rh_kindB)
      (rs_retP re_str))
  case u =>
    clear h1 h2 h5 h6 hr
    obtain ⟨v, rfl, hr⟩ := hc
    (simp! only [])
    refine ⟨v, rfl, readC_mono (fun fs _ h => h) (fun e he => ?_) hr⟩
    match e, he with
    | .arg .bn pl, h => exact ⟨AO.bn, Or.inl (Or.inl ⟨.bn, pl, rfl, rfl, rfl, h⟩)⟩
    | .arg .bs pl, h => exact ⟨AO.bs, Or.inl (Or.inl ⟨.bs, pl, rfl, rfl, rfl, h⟩)⟩
    | .arg .be pl, h => exact ⟨AO.be, Or.inl (Or.inl ⟨.be, pl, rfl, rfl, rfl, h⟩)⟩
    | .arg .bt pl, h => exact ⟨AO.bt, Or.inr ⟨.bt, pl, rfl, rfl, h⟩⟩
end
end Mt
namespace Mt
open PySem PySem.Spec PyProof.Rows L2 L2H
section
variable {P : Program} {w : World} {K : PySem.W.Frag} {mg : Str → Option Value} {base : Heap} {f : Addr} {fd : FuncData} {A : Ad} {tk : Nat → Tok}
theorem ok_law_asked_text (F : Fun K "_law_asked_text" "_law_asked_text" s_law_asked_text f fd) (Tx : Txt K mg A tk) (C_law_copy : Cal P w K mg base "_law_copy" 8 ["value"] (SpF A 1 (c_law_copy 7))) (C_law_kind : CalE P w K mg base "_law_kind" 1 ["error"] (SpB A ecAl zlAl blAl)) (C_law_same : Cal P w K mg base "_law_same" 8 ["left", "right"] (SpU A 2 (c_law_same 7))) (C_pattern_text : CalX P w K mg base "pattern_text" 6 ["pattern"] (SpU A 1 c_pattern_text)) (AO : AllOf K A (.ref A.me)) :
    FnOk P w K mg base CX0 9 f fd ["flags"] (SpU A 1 c_law_asked_text) := by
  refine F.ok sc_law_asked_text (fun vs H Q E h => h.len) (fun cdv Ar outer s H vs Q E hr h => ?_)
  obtain ⟨st, P0, ds, k, XA, h1, h2, h3, hc, h5, h6⟩ := h
  refine ⟨_, (pss_cons (ps_set (i := 1) sc_law_asked_text.nd rfl (.inl rfl) (p_call C_law_copy.data hr (pa_cons (pv 0) pa_nil) (by omega)))
      (pss_cons (p_tryR (i := 2) (Wout := fun _ _ _ _ => False) rfl rfl sc_law_asked_text.nd rfl rfl ⟨rfl, by decide, .inl Tx.g_MendError⟩ takesN (fun W pn xe tk po => (pss_one (ps_set (i := 3) sc_law_asked_text.nd rfl (.inl rfl) (p_callX C_pattern_text hr tk (pa_cons (pv 1) pa_nil) (by omega))))) (fun a oe cls d pn hz hf => (pss_one (ps_ret (p_callG C_law_kind hr hz hf (pa_cons (pv 2) pa_nil))))))
      (pss_cons (ps_if (pt_not (pt_val (p_call C_law_same hr (pa_cons (pv 1) (pa_cons (pv 0) pa_nil)) (by omega)))) (pss_one (ps_ret (pe_tup (pa_cons pe_str (pa_cons pe_non pa_nil))))) pss_nil)
      (pss_one (ps_ret (pe_tup (pa_cons pe_str (pa_cons (pv 3) pa_nil)))))))), ?_⟩
  refine run0 (A := A) (ms := ?ms) (XA := XA) h1 h2 h5 ?r ?u
  case r => exact (rs_seq (rs_asg (re_call (ra_cons re_var ra_nil)) rg_name)
      (rs_seq (rs_tryR (fun W => (rs_asg (re_callX (ra_cons re_var ra_nil)) rg_name)) rh_kindB)
      (rs_seq (rs_if (rt_not (rt_B (re_call (ra_cons re_var (ra_cons re_var ra_nil))))) (rs_ret (re_tup (ra_cons re_str (ra_cons re_non ra_nil)))) rs_next)
      (rs_ret (re_tup (ra_cons re_str (ra_cons re_var ra_nil)))))))
  case u =>
    clear h1 h2 h5 h6 hr
    obtain ⟨v, rfl, ov, hr⟩ := hc
    (simp! only [])
    refine ⟨v, rfl, okT_le ov (by decide), ?_⟩
    dsimp only
    rw [toO_t]
    have sk : ∀ d : T, k d → c_law_same 7 [v, v] (fun d' => isB d' fun c => if c = false then k (T.tup [T.str (Str.ofString "changed"), T.non]) else k d) (fun _ => False) := fun d h => same_yes rfl (okT_le ov (by decide)) (by
      (simp! only [])
      exact h)
    refine ⟨v, rfl, patC_mono (fun fs _ h => sk _ h) (fun e he => ?_) hr⟩
    match e, he with
    | .arg .bn pl, h => exact ⟨AO.bn, Or.inl (Or.inl ⟨.bn, pl, rfl, rfl, rfl, h⟩)⟩
    | .arg .bs pl, h => exact ⟨AO.bs, Or.inl (Or.inl ⟨.bs, pl, rfl, rfl, rfl, h⟩)⟩
    | .arg .be pl, h => exact ⟨AO.be, Or.inl (Or.inl ⟨.be, pl, rfl, rfl, rfl, h⟩)⟩
    | .arg .bt pl, h => exact ⟨AO.bt, Or.inr ⟨.bt, pl, rfl, rfl, h⟩⟩
end
end Mt
namespace Mt
open PySem PySem.Spec PyProof.Rows L2 L2H
section
variable {P : Program} {w : World} {K : PySem.W.Frag} {mg : Str → Option Value} {base : Heap} {f : Addr} {fd : FuncData} {A : Ad} {tk : Nat → Tok}
theorem ok_law_asked_round (F : Fun K "_law_asked_round" "_law_asked_round" s_law_asked_round f fd) (Tx : Txt K mg A tk) (C_law_kind : CalE P w K mg base "_law_kind" 1 ["error"] (SpB A ecAl zlAl blAl)) (C_round_pattern : CalX P w K mg base "round_pattern" 4 ["lost", "heard", "beats"] (SpF A 3 c_round_pattern)) (AO : AllOf K A (.ref A.me)) :
    FnOk P w K mg base CX0 5 f fd ["out", "back", "beats"] (SpF A 3 c_law_asked_round) := by
  refine F.ok sc_law_asked_round (fun vs H Q E h => h.len) (fun cdv Ar outer s H vs Q E hr h => ?_)
  obtain ⟨st, P0, ds, k, XA, h1, h2, h3, hc, h5, h6⟩ := h
  refine ⟨_, (pss_cons (p_tryR (i := 3) (Wout := fun _ _ _ _ => False) rfl rfl sc_law_asked_round.nd rfl rfl ⟨rfl, by decide, .inl Tx.g_MendError⟩ takesN (fun W pn xe tk po => (pss_one (ps_set (i := 4) sc_law_asked_round.nd rfl (.inl rfl) (p_callX C_round_pattern hr tk (pa_cons (pv 0) (pa_cons (pv 1) (pa_cons (pv 2) pa_nil))) (by omega))))) (fun a oe cls d pn hz hf => (pss_one (ps_ret (p_callG C_law_kind hr hz hf (pa_cons (pv 3) pa_nil))))))
      (pss_one (ps_ret (pe_tup (pa_cons pe_str (pa_cons (pv 4) pa_nil)))))), ?_⟩
  refine runF0 (A := A) (ms := ?ms) (XA := XA) h1 h2 h5 ?r ?u
  case r => exact (rs_seq (rs_tryR (fun W => (rs_tr (rot_callX (ra_cons re_var (ra_cons re_var (ra_cons re_var ra_nil)))))) rh_kindB)
      (rs_retP re_str))
  case u =>
    clear h1 h2 h5 h6 hr
    obtain ⟨x, y, z, rfl, hr⟩ := hc
    (simp! only [])
    refine ⟨x, y, z, rfl, roundC_mono (fun _ _ _ h => h) (fun e he => ?_) hr⟩
    match e, he with
    | .arg .bn pl, h => exact ⟨AO.bn, Or.inl (Or.inl ⟨.bn, pl, rfl, rfl, rfl, h⟩)⟩
    | .arg .bs pl, h => exact ⟨AO.bs, Or.inl (Or.inl ⟨.bs, pl, rfl, rfl, rfl, h⟩)⟩
    | .arg .be pl, h => exact ⟨AO.be, Or.inl (Or.inl ⟨.be, pl, rfl, rfl, rfl, h⟩)⟩
    | .arg .bt pl, h => exact ⟨AO.bt, Or.inr ⟨.bt, pl, rfl, rfl, h⟩⟩
end
end Mt
namespace Mt
open PySem PySem.Spec PyProof.Rows L2 L2H
section
variable {P : Program} {w : World} {K : PySem.W.Frag} {mg : Str → Option Value} {base : Heap} {f : Addr} {fd : FuncData} {A : Ad} {tk : Nat → Tok}
theorem ok_law_round_trip (F : Fun K "_law_round_trip" "_law_round_trip" s_law_round_trip f fd) (Tx : Txt K mg A tk) (C_law_apart : Cal P w K mg base "_law_apart" 8 ["value"] SpApart) (C_law_asked_read : Cal P w K mg base "_law_asked_read" 4 ["text"] (SpF A 1 c_law_asked_read)) (C_law_asked_text : Cal P w K mg base "_law_asked_text" 9 ["flags"] (SpU A 1 c_law_asked_text)) (C_law_same : Cal P w K mg base "_law_same" 8 ["left", "right"] (SpU A 2 (c_law_same 7))) :
    FnOk P w K mg base CX0 10 f fd ["flags"] (SpU A 1 c_law_round_trip) := by
  refine F.ok sc_law_round_trip (fun vs H Q E h => h.len) (fun cdv Ar outer s H vs Q E hr h => ?_)
  obtain ⟨st, P0, ds, k, XA, h1, h2, h3, hc, h5, h6⟩ := h
  refine ⟨_, (pss_cons (ps_set (i := 1) sc_law_round_trip.nd rfl (.inl rfl) (pe_join pe_str (pe_lc (own := [("flag", 4)]) (g := gName 4) rfl sc_law_round_trip.nd (pi_list (pv 0)) (blkOk_by (N := ["flags", "text", "told", "back", "flag"]) (sc := defScope s_law_round_trip) (by decide +kernel)) (fun _ _ _ _ _ => pg_name (i := 4) sc_law_round_trip.nd rfl (.inl rfl)) (fun _ _ _ _ _ => pts_nil) (fun _ _ _ _ _ => (pe_ix ix_str pe_str (pv 4) (fun _ _ => rfl))))))
      (pss_cons (ps_set (i := 2) sc_law_round_trip.nd rfl (.inl rfl) (p_call C_law_asked_text hr (pa_cons (pv 0) pa_nil) (by omega)))
      (pss_cons (ps_if (pt_not (pt_val (p_call C_law_same hr (pa_cons (pv 2) (pa_cons (pe_tup (pa_cons pe_str (pa_cons (pv 1) pa_nil))) pa_nil)) (by omega)))) (pss_one (ps_ret pe_bl)) pss_nil)
      (pss_cons (ps_set (i := 3) sc_law_round_trip.nd rfl (.inl rfl) (p_call C_law_asked_read hr (pa_cons (pe_ix ix_H (pv 2) pe_int (fun _ _ => rfl)) pa_nil) (by omega)))
      (pss_cons (ps_if (pt_not (pt_val (p_call C_law_same hr (pa_cons (pv 3) (pa_cons (pe_tup (pa_cons pe_str (pa_cons (pv 0) pa_nil))) pa_nil)) (by omega)))) (pss_one (ps_ret pe_bl)) pss_nil)
      (pss_cons (ps_if (PW.pt (pw_or (pt_not (pt_val (p_call C_law_apart hr (pa_cons (pe_ix ix_H (pv 3) pe_int (fun _ _ => rfl)) pa_nil) (by omega)))) (pw_or1 (pt_not (pt_val (p_call C_law_same hr (pa_cons (p_call C_law_asked_read.data hr (pa_cons (pv 1) pa_nil) (by omega)) (pa_cons (pe_tup (pa_cons pe_str (pa_cons (pv 0) pa_nil))) pa_nil)) (by omega))))))) (pss_one (ps_ret pe_bl)) pss_nil)
      (pss_one (ps_ret (p_call C_law_same hr (pa_cons (p_call C_law_asked_read.data hr (pa_cons (pe_op op_catS (pv 1) pe_str) pa_nil) (by omega)) (pa_cons (pe_tup (pa_cons pe_str (pa_cons pe_int pa_nil))) pa_nil)) (by omega)))))))))), ?_⟩
  refine run0 (A := A) (ms := ?ms) (XA := XA) h1 h2 h5 ?r ?u
  case r => exact (rs_seq (rs_asg (re_join re_str (re_lc (vs := [4]) (is := [4]) ric_var rg_name rt_yes (re_op ro_ixS re_str re_var))) rg_name)
      (rs_seq (rs_asg (re_call (ra_cons re_var ra_nil)) rg_name)
      (rs_seq (rs_if (rt_not (rt_B (re_call (ra_cons re_var (ra_cons (re_tup (ra_cons re_str (ra_cons re_var ra_nil))) ra_nil))))) (rs_ret re_bl) rs_next)
      (rs_seq (rs_tr (rot_call (ra_cons (re_op ro_ix re_var re_int) ra_nil)))
      (rs_seq (rs_if (rt_not (rt_lend 3 (rt_B (re_call (ra_cons re_var (ra_cons (re_tup (ra_cons re_str (ra_cons re_var ra_nil))) ra_nil)))))) (rs_ret re_bl) rs_next)
      (rs_seq (rs_ifX (rtx_or (rtx_not (rtx_apart (rp_ix rp_var re_int))) (rtx_of (rt_not (rt_B (re_call (ra_cons (re_call (ra_cons re_var ra_nil)) (ra_cons (re_tup (ra_cons re_str (ra_cons re_var ra_nil))) ra_nil))))))) (rs_ret re_bl) rs_next)
      (rs_ret (re_call (ra_cons (re_call (ra_cons (re_op ro_catS re_var re_str) ra_nil)) (ra_cons (re_tup (ra_cons re_str (ra_cons re_int ra_nil))) ra_nil))))))))))
  case u =>
    clear h1 h2 h5 h6 hr
    obtain ⟨fs, rfl, hl, hk⟩ := hc
    have okf : okT 6 (T.lst (fs.map flagT)) = true := flags_ok fs 5
    have okd := flags_told fs
    have ft := flagsO_t fs
    have good : ∀ (k : List Bool → Prop) (XA : Ex → Prop), k fs → readC (.str (textF fs)) k XA := fun k XA h => ⟨⟨_, rfl⟩, fun z e => by
      cases e
      rw [textF_len]
      omega, fun fs' _ e => by
      rw [← textF_inj (T.str.inj e)]
      exact h, fun h2 => absurd rfl (h2 fs hl)⟩
    have goodp : ∀ (k : List Bool → Prop) (XA : Ex → Prop), k fs → patC (.lst (fs.map flagT)) k XA := fun k XA h => by
      refine ⟨⟨_, rfl⟩, ?_, fun h2 => ?_, fun _ es e h2 => ?_, fun fs' e _ => ?_⟩
      · exact flags_items fs
      · simp [shapeB] at h2
        omega
      · cases e
        rw [flags_all] at h2
        cases h2
      · rw [← flagsT_inj (T.lst.inj e)]
        exact h
    (simp! only [])
    refine ⟨_, rfl, _, Or.inr rfl, ?_⟩
    refine lc_of (G := fun b : Bool => T.str (if b = true then Str.ofString "x" else Str.ofString ".")) (fun b hb r hr => ?_) ?_
    · (simp! only [])
      cases b
      · exact ⟨_, 0, 46, rfl, rfl, by decide, rfl, hr⟩
      · exact ⟨_, 1, 120, rfl, rfl, by decide, rfl, hr⟩
    refine ⟨fs.map fun b => if b = true then Str.ofString "x" else Str.ofString ".", by rw [List.map_map]; rfl, ?_, ?_⟩
    · rw [ones_sum (fun y hy => by
        obtain ⟨b, _, rfl⟩ := List.mem_map.mp hy
        cases b <;> rfl), List.length_map, show (Str.ofString "").length = 0 from rfl]
      omega
    rw [join_flags]
    refine ⟨_, rfl, okf, goodp _ _ ?_⟩
    refine same_yes rfl rfl ?_
    (simp! only [atI_c0, atI_c1, atI_c2, atI_c3, atI_c4, atI_c5])
    refine ⟨_, rfl, good _ _ ?_⟩
    (simp! only [ft])
    refine same_yes rfl okd ?_
    (simp! only [])
    refine ⟨1, _, 1, flagsO fs, rfl, rfl, rfl, rfl, ?_, ?_, ?_, ?_⟩
    · rw [flagsO_row]
      exact rowO_noL (by rw [List.length_map]; omega)
    · rw [flagsO_row]
      exact rowO_dep _ 5
    · rw [flagsO_row, rowO_cnt]
      decide
    refine ⟨_, rfl, good _ _ ?_⟩
    (simp! only [ft])
    refine same_yes rfl okd ?_
    (simp! only [])
    have tl := textF_len fs
    have n1 : (Str.ofString "\n").length = 1 := rfl
    refine ⟨_, _, rfl, rfl, by omega, ?_⟩
    have odd : OddT (textF fs ++ Str.ofString "\n") := odd_sign (c := 10) (by rw [cat_len]; omega) (by rw [cat_list]; exact List.mem_append_right _ (List.mem_singleton.mpr rfl)) (by decide) (by decide)
    refine ⟨_, rfl, ⟨_, rfl⟩, fun z e => ?_, fun fs' h e => absurd (T.str.inj e) (odd.2 fs' h), fun _ => ?_⟩
    · cases e
      exact odd.1
    · dsimp only [kindX]
      (simp! only [])
      exact same_yes rfl rfl hk
end
end Mt
namespace Mt
open PySem PySem.Spec PyProof.Rows L2 L2H
section
variable {P : Program} {w : World} {K : PySem.W.Frag} {mg : Str → Option Value} {base : Heap} {f : Addr} {fd : FuncData} {A : Ad} {tk : Nat → Tok}
theorem ok_law_bad_texts (F : Fun K "_law_bad_texts" "_law_bad_texts" s_law_bad_texts f fd) (Tx : Txt K mg A tk) (C_law_asked_read : Cal P w K mg base "_law_asked_read" 4 ["text"] (SpF A 1 c_law_asked_read)) (C_law_asked_text : Cal P w K mg base "_law_asked_text" 9 ["flags"] (SpU A 1 c_law_asked_text)) (C_law_not_dots : Cal P w K mg base "_law_not_dots" 3 ["store", "pattern"] (SpU A 2 c_law_not_dots)) (C_law_not_upto : Cal P w K mg base "_law_not_upto" 4 ["store", "size", "row", "most"] (SpU A 4 c_law_not_upto)) (C_law_same : Cal P w K mg base "_law_same" 8 ["left", "right"] (SpU A 2 (c_law_same 7))) (C_law_strange : Cal P w K mg base "_law_strange" 5 ["store", "most"] (SpU A 2 c_law_strange)) :
    FnOk P w K mg base CX0 10 f fd ["store", "flags"] (SpU A 2 c_law_bad_texts) := by
  refine F.ok sc_law_bad_texts (fun vs H Q E h => h.len) (fun cdv Ar outer s H vs Q E hr h => ?_)
  obtain ⟨st, P0, ds, k, XA, h1, h2, h3, hc, h5, h6⟩ := h
  refine ⟨_, (pss_cons (ps_for PassesOwn.never rfl (pi_range1 (by rfl) Tx.m_range (pa_cons pe_int pa_nil)) (pg_name (i := 2) sc_law_bad_texts.nd rfl (.inl rfl)) (pss_one (ps_if (pt_not (pt_val (p_call C_law_same hr (pa_cons (p_call C_law_asked_read.data hr (pa_cons (p_call C_law_not_dots hr (pa_cons (pv 0) (pa_cons (pv 1) pa_nil)) (by omega)) pa_nil) (by omega)) (pa_cons (pe_tup (pa_cons pe_str (pa_cons pe_int pa_nil))) pa_nil)) (by omega)))) (pss_one (ps_ret pe_bl)) pss_nil)))
      (pss_cons (ps_asg (p_call C_law_not_upto hr (pa_cons (pv 0) (pa_cons pe_int (pa_cons (pv 1) (pa_cons pe_int pa_nil)))) (by omega)) (pg_tup rfl (pgs_cons (pg_name (i := 3) sc_law_bad_texts.nd rfl (.inl rfl)) (pgs_cons (pg_name (i := 4) sc_law_bad_texts.nd rfl (.inl rfl)) pgs_nil))))
      (pss_cons (ps_if (pt_not (pt_val (p_call C_law_same hr (pa_cons (p_call C_law_asked_text hr (pa_cons (pv 3) pa_nil) (by omega)) (pa_cons (pe_tup (pa_cons (pv 4) (pa_cons pe_str pa_nil))) pa_nil)) (by omega)))) (pss_one (ps_ret pe_bl)) pss_nil)
      (pss_one (ps_ret (p_call C_law_same hr (pa_cons (p_call C_law_asked_read.data hr (pa_cons (p_call C_law_strange hr (pa_cons (pv 0) (pa_cons pe_int pa_nil)) (by omega)) pa_nil) (by omega)) (pa_cons (pe_tup (pa_cons pe_str (pa_cons pe_int pa_nil))) pa_nil)) (by omega))))))), ?_⟩
  refine run0 (A := A) (ms := ?ms) (XA := XA) h1 h2 h5 ?r ?u
  case r => exact (rs_seq (rs_for (ri_rng1 (ra_cons re_int ra_nil)) rg_name (rs_if (rt_not (rt_B (re_call (ra_cons (re_call (ra_cons (re_call (ra_cons re_var (ra_cons re_var ra_nil))) ra_nil)) (ra_cons (re_tup (ra_cons re_str (ra_cons re_int ra_nil))) ra_nil))))) (rs_ret re_bl) rs_next))
      (rs_seq (rs_asg (re_call (ra_cons re_var (ra_cons re_int (ra_cons re_var (ra_cons re_int ra_nil))))) (rg_tup (n := 2) (rgs_cons rg_name (rgs_cons rg_name rgs_nil))))
      (rs_seq (rs_if (rt_not (rt_B (re_call (ra_cons (re_call (ra_cons re_var ra_nil)) (ra_cons (re_tup (ra_cons re_var (ra_cons re_str ra_nil))) ra_nil))))) (rs_ret re_bl) rs_next)
      (rs_ret (re_call (ra_cons (re_call (ra_cons (re_call (ra_cons re_var (ra_cons re_int ra_nil))) ra_nil)) (ra_cons (re_tup (ra_cons re_str (ra_cons re_int ra_nil))) ra_nil)))))))
  case u =>
    clear h1 h2 h5 h6 hr
    obtain ⟨fs, rfl, hl, hk⟩ := hc
    have bad : ∀ (v : T) (kk : OT → Prop) (k' : List Bool → Prop), (∃ n, tyT v = some n) → (∀ z, v = .str z → OddT z) → kk (.d (.tup [.str "BadText", .int 1])) → readC v k' (kindX kk) := fun v kk k' tv hz h => ⟨tv, fun z e => (hz z e).1, fun fs' hf e => absurd rfl ((hz _ e).2 fs' hf), fun _ => h⟩
    (simp! only [])
    refine ⟨by decide, by decide, ?_⟩
    refine ⟨fun i env => ∃ z2 : Option Sl, env = [some (Sl.d T.sto), some (Sl.d (T.lst (fs.map flagT))), z2, none, none], ⟨_, rfl⟩, ?_, ?_⟩
    · rintro i x env hx ⟨z2, rfl⟩
      (simp! only [])
      refine ⟨fs, rfl, hl, fun v ov hz => ?_⟩
      refine ⟨v, rfl, bad v _ _ (okT_ty ov) hz ?_⟩
      (simp! only [])
      refine same_yes rfl rfl ?_
      (simp! only [])
      exact ⟨_, rfl⟩
    · rintro env ⟨z2, rfl⟩
      (simp! only [])
      refine ⟨2, _, 800, rfl, by decide, by decide, ?_, by rw [List.length_map]; exact hl, by decide, fun v name hb => ?_⟩
      · refine okTs_of fun e he => ?_
        obtain ⟨b, _, rfl⟩ := List.mem_map.mp he
        rfl
      (simp! only [])
      obtain ⟨ov, tv, hb⟩ := hb
      refine ⟨v, rfl, okT_le ov (by decide), tv, ?_, fun hs => ?_, fun hs es e h2 => ?_, fun fs' e hf => ?_⟩
      · intro es e x hx
        subst e
        rw [okT] at ov
        exact okT_ty (okTs_mem ov hx)
      · rcases hb with ⟨rfl, _⟩ | ⟨_, h, _⟩
        · dsimp only [kindY]
          (simp! only [])
          refine same_yes rfl rfl ?_
          (simp! only [])
          refine ⟨5, rfl, by decide, by decide, fun z hz => ⟨_, rfl, bad _ _ _ ⟨_, rfl⟩ (fun y e => by cases e; exact hz) ?_⟩⟩
          (simp! only [])
          exact same_yes rfl rfl hk
        · have h : shapeB v 800 false = true := h
          rw [h] at hs
          cases hs
      · rcases hb with ⟨_, h⟩ | ⟨rfl, _⟩
        · have h : shapeB v 800 false = false := h
          rw [h] at hs
          cases hs
        · dsimp only [kindY]
          (simp! only [])
          refine same_yes rfl rfl ?_
          (simp! only [])
          refine ⟨5, rfl, by decide, by decide, fun z hz => ⟨_, rfl, bad _ _ _ ⟨_, rfl⟩ (fun y e => by cases e; exact hz) ?_⟩⟩
          (simp! only [])
          exact same_yes rfl rfl hk
      · subst e
        rcases hb with ⟨_, h⟩ | ⟨_, _, es, e, h⟩
        · simp [shapeB] at h
          omega
        · cases e
          rw [show (2 : Int) - 1 = 1 from rfl, flags_all] at h
          cases h
end
end Mt
namespace Mt
open PySem PySem.Spec PyProof.Rows L2 L2H
section
variable {P : Program} {w : World} {K : PySem.W.Frag} {mg : Str → Option Value} {base : Heap} {f : Addr} {fd : FuncData} {A : Ad} {tk : Nat → Tok}
theorem ok_law_repeats (F : Fun K "_law_repeats" "_law_repeats" s_law_repeats f fd) (Tx : Txt K mg A tk)  :
    FnOk P w K mg base CX0 1 f fd ["out", "back", "flags"] (SpU A 3 c_law_repeats) := by
  refine F.ok sc_law_repeats (fun vs H Q E h => h.len) (fun cdv Ar outer s H vs Q E hr h => ?_)
  obtain ⟨st, P0, ds, k, XA, h1, h2, h3, hc, h5, h6⟩ := h
  refine ⟨_, (pss_cons (ps_for PassesOwn.never rfl (pi_range1 (by rfl) Tx.m_range (pa_cons (pe_callB call_lenH (by rfl) Tx.m_len (by decide +kernel) (pa_cons (pv 2) pa_nil)) pa_nil)) (pg_name (i := 3) sc_law_repeats.nd rfl (.inl rfl)) (pss_one (ps_if (pt_cmpR op_lt (pv 3) (pe_op op_add (pv 0) (pv 1)) (nomark _)) (pss_one (ps_if (pt_cmpR op_ne (pe_ix ix_H (pv 2) (pv 3) (fun _ _ => rfl)) (pe_callTy call_intH (by rfl) Tx.m_int (by decide +kernel) (pa_cons (pe_cmpR op_lt (pv 3) (pv 0) (nomark _)) pa_nil)) (nomark _)) (pss_one (ps_ret pe_bl)) pss_nil)) (pss_one (ps_if (pt_cmpR op_ne (pe_ix ix_H (pv 2) (pv 3) (fun _ _ => rfl)) (pe_ix ix_H (pv 2) (pe_op op_sub (pe_op op_sub (pv 3) (pv 0)) (pv 1)) (fun _ _ => rfl)) (nomark _)) (pss_one (ps_ret pe_bl)) pss_nil)))))
      (pss_one (ps_ret pe_bl))), ?_⟩
  refine run0 (A := A) (ms := ?ms) (XA := XA) h1 h2 h5 ?r ?u
  case r => exact (rs_seq (rs_for (ri_rng1 (ra_cons (re_cb rcb_len (ra_cons re_var ra_nil)) ra_nil)) rg_name (rs_if (rt_test (re_op ro_bool re_var (re_op ro_int re_var re_var))) (rs_if (rt_test (re_op ro_ne (re_op ro_ix re_var re_var) (re_cb rcb_int (ra_cons (re_op ro_bool re_var re_var) ra_nil)))) (rs_ret re_bl) rs_next) (rs_if (rt_test (re_op ro_ne (re_op ro_ix re_var re_var) (re_op ro_ix re_var (re_op ro_int (re_op ro_int re_var re_var) re_var)))) (rs_ret re_bl) rs_next)))
      (rs_ret re_bl))
  case u =>
    clear h1 h2 h5 h6 hr
    obtain ⟨l, h, n, rfl, l0, l1, h0, h1, lh, hn, hk⟩ := hc
    have ll : ((roundB l h n).map flagT).length = n := by rw [List.length_map, roundB, List.length_map, List.length_range]
    have at_ : ∀ k : Nat, k < n → atI ((roundB l h n).map flagT) (k : Int) = some (flagT (decide (((k : Nat) : Int).fmod (l + h) < l))) := fun k hk => atI_nat (by rw [List.getElem?_map, roundB, List.getElem?_map, List.getElem?_range hk]; rfl)
    (simp! only [])
    rw [ll]
    intro _
    refine ⟨by omega, by omega, ?_⟩
    rw [Int.toNat_natCast]
    refine ⟨fun i env => ∃ z3 : Option Sl, env = [some (Sl.d (T.int l)), some (Sl.d (T.int h)), some (Sl.d (T.lst (List.map flagT (roundB l h n)))), z3], ⟨_, rfl⟩, ?_, fun env _ => hk⟩
    rintro i x env hx ⟨z3, rfl⟩
    obtain ⟨hi, rfl⟩ := rng_at hx
    rw [Int.zero_add]
    (simp! only [at_ i hi])
    refine ite2 (fun g => ?_) (fun g => ?_)
    · have e : ((i : Nat) : Int).fmod (l + h) = i := by
        rw [Int.fmod_eq_emod_of_nonneg _ (by omega)]
        exact Int.emod_eq_of_lt (by omega) g
      rw [e]
      refine ⟨true, ?_, ?_⟩
      · by_cases p : (i : Int) < l
        · rw [decide_eq_true p, if_pos p]
          rfl
        · rw [decide_eq_false p, if_neg p]
          rfl
      · rw [if_neg (by decide)]
        exact ⟨_, rfl⟩
    · have hj : i - (l + h).toNat < n := by omega
      have ej : (i : Int) - l - h = ((i - (l + h).toNat : Nat) : Int) := by omega
      have e : ((i : Nat) : Int).fmod (l + h) = ((i - (l + h).toNat : Nat) : Int).fmod (l + h) := by
        rw [Int.fmod_eq_emod_of_nonneg _ (by omega), Int.fmod_eq_emod_of_nonneg _ (by omega), show ((i : Nat) : Int) = ((i - (l + h).toNat : Nat) : Int) + (l + h) by omega]
        simp
      rw [ej]
      (simp! only [at_ _ hj])
      rw [e]
      refine ⟨true, ?_, ?_⟩
      · cases decide ((((i - (l + h).toNat : Nat) : Nat) : Int).fmod (l + h) < l) <;> rfl
      · rw [if_neg (by decide)]
        exact ⟨_, rfl⟩
end
end Mt
namespace Mt
open PySem PySem.Spec PyProof.Rows L2 L2H
section
variable {P : Program} {w : World} {K : PySem.W.Frag} {mg : Str → Option Value} {base : Heap} {f : Addr} {fd : FuncData} {A : Ad} {tk : Nat → Tok}
theorem ok_law_round_right (F : Fun K "_law_round_right" "_law_round_right" s_law_round_right f fd) (Tx : Txt K mg A tk) (C_law_apart : Cal P w K mg base "_law_apart" 8 ["value"] SpApart) (C_law_asked_round : Cal P w K mg base "_law_asked_round" 5 ["out", "back", "beats"] (SpF A 3 c_law_asked_round)) (C_law_is_int : Cal P w K mg base "_law_is_int" 1 ["value"] (SpU A 1 c_law_is_int)) (C_law_repeats : Cal P w K mg base "_law_repeats" 1 ["out", "back", "flags"] (SpU A 3 c_law_repeats)) (C_law_round_trip : Cal P w K mg base "_law_round_trip" 10 ["flags"] (SpU A 1 c_law_round_trip)) (C_law_same : Cal P w K mg base "_law_same" 8 ["left", "right"] (SpU A 2 (c_law_same 7))) :
    FnOk P w K mg base CX0 11 f fd ["out", "back", "beats"] (SpU A 3 c_law_round_right) := by
  refine F.ok sc_law_round_right (fun vs H Q E h => h.len) (fun cdv Ar outer s H vs Q E hr h => ?_)
  obtain ⟨st, P0, ds, k, XA, h1, h2, h3, hc, h5, h6⟩ := h
  refine ⟨_, (pss_cons (ps_set (i := 3) sc_law_round_right.nd rfl (.inl rfl) (p_call C_law_asked_round hr (pa_cons (pv 0) (pa_cons (pv 1) (pa_cons (pv 2) pa_nil))) (by omega)))
      (pss_cons (ps_if (PW.pt (pw_or (pt_not (pt_val (p_call C_law_same hr (pa_cons (pe_ix ix_H (pv 3) pe_int (fun _ _ => rfl)) (pa_cons pe_str pa_nil)) (by omega)))) (pw_or (pt_not (pt_val (pe_callB call_isH (by rfl) Tx.m_isinstance (by decide +kernel) (pa_cons (pe_ix ix_H (pv 3) pe_int (fun _ _ => rfl)) (pa_cons (pe_bltn (v := .ty "list") (u := .type "list") (by rfl) Tx.m_list (by decide +kernel) rel_ty) pa_nil))))) (pw_or1 (pt_cmpR op_ne (pe_callB call_lenH (by rfl) Tx.m_len (by decide +kernel) (pa_cons (pe_ix ix_H (pv 3) pe_int (fun _ _ => rfl)) pa_nil)) (pv 2) (nomark _)))))) (pss_one (ps_ret pe_bl)) pss_nil)
      (pss_cons (ps_set (i := 4) sc_law_round_right.nd rfl (.inl rfl) (pe_callTy call_listH (by rfl) Tx.m_list (by decide +kernel) (pa_cons (pe_ix ix_H (pv 3) pe_int (fun _ _ => rfl)) pa_nil)))
      (pss_cons (ps_if (PW.pt (pw_or (pt_cmpR (op_neD hr.units) (pe_lc (own := [("flag", 5)]) (g := gName 5) rfl sc_law_round_right.nd (pi_list (pv 4)) (blkOk_by (N := ["out", "back", "beats", "told", "kept", "flag"]) (sc := defScope s_law_round_right) (by decide +kernel)) (fun _ _ _ _ _ => pg_name (i := 5) sc_law_round_right.nd rfl (.inl rfl)) (fun _ _ _ _ _ => (pts_one (pt_not (pt_val (p_call C_law_is_int hr (pa_cons (pv 5) pa_nil) (by omega)))))) (fun _ _ _ _ _ => (pv 5))) (pe_lst pa_nil) (nomark _)) (pw_or1 (pt_not (pt_val (p_call C_law_repeats hr (pa_cons (pv 0) (pa_cons (pv 1) (pa_cons (pv 4) pa_nil))) (by omega))))))) (pss_one (ps_ret pe_bl)) pss_nil)
      (pss_cons (ps_if (PW.pt (pw_or (pt_not (pt_val (p_call C_law_apart hr (pa_cons (pe_ix ix_H (pv 3) pe_int (fun _ _ => rfl)) pa_nil) (by omega)))) (pw_or1 (pt_not (pt_val (p_call C_law_same hr (pa_cons (p_call C_law_asked_round.data hr (pa_cons (pv 0) (pa_cons (pv 1) (pa_cons (pv 2) pa_nil))) (by omega)) (pa_cons (pe_tup (pa_cons pe_str (pa_cons (pv 4) pa_nil))) pa_nil)) (by omega))))))) (pss_one (ps_ret pe_bl)) pss_nil)
      (pss_one (ps_ret (p_call C_law_round_trip hr (pa_cons (pv 4) pa_nil) (by omega))))))))), ?_⟩
  refine run0 (A := A) (ms := ?ms) (XA := XA) h1 h2 h5 ?r ?u
  case r => exact (rs_seq (rs_tr (rot_call (ra_cons re_var (ra_cons re_var (ra_cons re_var ra_nil)))))
      (rs_seq (rs_if (rt_or (rt_not (rt_lend 3 (rt_B (re_call (ra_cons (re_op ro_ix re_var re_int) (ra_cons re_str ra_nil)))))) (rt_or (rt_not (rt_lend 3 (rt_B (re_cb rcb_is1 (ra_cons (re_op ro_ix re_var re_int) (ra_cons re_ty ra_nil)))))) (rt_test (re_op ro_ne (re_lend 3 (re_cb rcb_len (ra_cons (re_op ro_ix re_var re_int) ra_nil))) re_var)))) (rs_ret re_bl) rs_next)
      (rs_seq (rs_asg (re_own (row_lend 3 (row_list (ra_cons (re_op ro_ix re_var re_int) ra_nil)))) rg_name)
      (rs_seq (rs_if (rt_or (rt_test (re_op ro_neD (re_lc (vs := [5]) (is := [5]) ric_var rg_name (rt_not (rt_B (re_call (ra_cons re_var ra_nil)))) re_var) (re_lst ra_nil))) (rt_not (rt_B (re_call (ra_cons re_var (ra_cons re_var (ra_cons re_var ra_nil))))))) (rs_ret re_bl) rs_next)
      (rs_seq (rs_ifX (rtx_or (rtx_not (rtx_apart (rp_ix rp_var re_int))) (rtx_of (rt_not (rt_B (re_call (ra_cons (re_call (ra_cons re_var (ra_cons re_var (ra_cons re_var ra_nil)))) (ra_cons (re_tup (ra_cons re_str (ra_cons re_var ra_nil))) ra_nil))))))) (rs_ret re_bl) rs_next)
      (rs_ret (re_call (ra_cons re_var ra_nil))))))))
  case u =>
    clear h1 h2 h5 h6 hr
    obtain ⟨l, h, n, rfl, l0, l1, h0, h1, lh, hn, hk⟩ := hc
    have rl := roundB_len l h n
    have ft := flagsO_t (roundB l h n)
    have okd := flags_told (roundB l h n)
    (simp! only [])
    refine ⟨_, _, _, rfl, roundC_ok l0 l1 h0 h1 lh hn ?_⟩
    (simp! only [ft])
    refine ⟨_, atI_c0, ?_⟩
    refine same_yes rfl rfl ?_
    (simp! only [])
    refine ⟨_, atI_c1, ?_⟩
    (simp! only [])
    refine ⟨_, atI_c1, _, rfl, ?_⟩
    rw [List.length_map, rl]
    intro _
    rw [if_neg (by simp)]
    have sc : ((roundB l h n).map flagT).all scalT = true := by
      rw [List.all_eq_true]
      intro e he
      obtain ⟨b, _, rfl⟩ := List.mem_map.mp he
      rfl
    refine ⟨_, atI_c1, _, rfl, sc, _, Or.inr rfl, ?_⟩
    refine ⟨fun i acc => acc = [], rfl, fun i x acc hx ha => ?_, fun acc ha => ?_⟩
    · subst ha
      obtain ⟨b, _, rfl⟩ := List.mem_map.mp (List.mem_of_getElem? hx)
      (simp! only [])
      refine ⟨_, _, rfl, rfl, ?_⟩
      show isB (T.bl true) _
      exact ⟨true, rfl, by simp⟩
    subst ha
    (simp! only [])
    refine oNeD_same (n := 1) (m := 1) rfl rfl ?_
    rw [show (!sameT (T.lst []) (T.lst [])) = false from rfl]
    (simp! only [])
    refine ⟨l, h, n, rfl, l0, l1, h0, h1, lh, hn, ?_⟩
    (simp! only [])
    refine ⟨1, _, 1, flagsO (roundB l h n), rfl, rfl, rfl, rfl, ?_, ?_, ?_, ?_⟩
    · rw [flagsO_row]
      exact rowO_noL (by rw [List.length_map]; omega)
    · rw [flagsO_row]
      exact rowO_dep _ 5
    · rw [flagsO_row, rowO_cnt]
      decide
    refine ⟨_, _, _, rfl, roundC_ok l0 l1 h0 h1 lh hn ?_⟩
    (simp! only [ft])
    refine same_yes rfl okd ?_
    (simp! only [])
    exact ⟨_, rfl, by omega, hk⟩
end
end Mt
namespace Mt
open PySem PySem.Spec PyProof.Rows L2 L2H
section
variable {P : Program} {w : World} {K : PySem.W.Frag} {mg : Str → Option Value} {base : Heap} {f : Addr} {fd : FuncData} {A : Ad} {tk : Nat → Tok}
theorem ok_law_bad_rounds (F : Fun K "_law_bad_rounds" "_law_bad_rounds" s_law_bad_rounds f fd) (Tx : Txt K mg A tk) (C_law_asked_round : Cal P w K mg base "_law_asked_round" 5 ["out", "back", "beats"] (SpF A 3 c_law_asked_round)) (C_law_not_number : Cal P w K mg base "_law_not_number" 3 ["store", "low", "high"] (SpU A 3 c_law_not_number)) (C_law_same : Cal P w K mg base "_law_same" 8 ["left", "right"] (SpU A 2 (c_law_same 7))) (C_law_take : Cal P w K mg base "_law_take" 2 ["store", "many"] (SpU A 2 c_law_take)) :
    FnOk P w K mg base CX0 9 f fd ["store", "out", "back"] (SpU A 3 c_law_bad_rounds) := by
  refine F.ok sc_law_bad_rounds (fun vs H Q E h => h.len) (fun cdv Ar outer s H vs Q E hr h => ?_)
  obtain ⟨st, P0, ds, k, XA, h1, h2, h3, hc, h5, h6⟩ := h
  refine ⟨_, (pss_cons (ps_for PassesOwn.never rfl (pi_range1 (by rfl) Tx.m_range (pa_cons pe_int pa_nil)) (pg_name (i := 3) sc_law_bad_rounds.nd rfl (.inl rfl)) (pss_cons (ps_set (i := 4) sc_law_bad_rounds.nd rfl (.inl rfl) (p_call C_law_not_number hr (pa_cons (pv 0) (pa_cons pe_int (pa_cons pe_int pa_nil))) (by omega)))
      (pss_cons (ps_set (i := 5) sc_law_bad_rounds.nd rfl (.inl rfl) (pe_ix ix_H (pe_lst (pa_cons (pv 2) (pa_cons (p_call C_law_not_number hr (pa_cons (pv 0) (pa_cons pe_int (pa_cons pe_int pa_nil))) (by omega)) pa_nil))) (pv 3) (fun _ _ => rfl)))
      (pss_cons (ps_set (i := 6) sc_law_bad_rounds.nd rfl (.inl rfl) (pe_ix ix_H (pe_lst (pa_cons (p_call C_law_not_number hr (pa_cons (pv 0) (pa_cons pe_int (pa_cons pe_int pa_nil))) (by omega)) (pa_cons pe_int (pa_cons pe_int pa_nil)))) (p_call C_law_take hr (pa_cons (pv 0) (pa_cons pe_int pa_nil)) (by omega)) (fun _ _ => rfl)))
      (pss_cons (ps_if (pt_not (pt_val (p_call C_law_same hr (pa_cons (p_call C_law_asked_round.data hr (pa_cons (pv 4) (pa_cons (pv 5) (pa_cons (pv 6) pa_nil))) (by omega)) (pa_cons (pe_tup (pa_cons pe_str (pa_cons pe_str pa_nil))) pa_nil)) (by omega)))) (pss_one (ps_ret pe_bl)) pss_nil)
      (pss_cons (ps_if (pt_not (pt_val (p_call C_law_same hr (pa_cons (p_call C_law_asked_round.data hr (pa_cons (pe_ix ix_H (pe_lst (pa_cons (pv 1) (pa_cons pe_int pa_nil))) (pv 3) (fun _ _ => rfl)) (pa_cons (pv 4) (pa_cons (pv 6) pa_nil))) (by omega)) (pa_cons (pe_tup (pa_cons pe_str (pa_cons pe_str pa_nil))) pa_nil)) (by omega)))) (pss_one (ps_ret pe_bl)) pss_nil)
      (pss_one (ps_if (pt_not (pt_val (p_call C_law_same hr (pa_cons (p_call C_law_asked_round.data hr (pa_cons pe_int (pa_cons pe_int (pa_cons (pv 6) pa_nil))) (by omega)) (pa_cons (pe_tup (pa_cons pe_str (pa_cons pe_str pa_nil))) pa_nil)) (by omega)))) (pss_one (ps_ret pe_bl)) pss_nil))))))))
      (pss_one (ps_ret (p_call C_law_same hr (pa_cons (p_call C_law_asked_round.data hr (pa_cons (pv 1) (pa_cons (pe_callB (call_max2H rfl) (by rfl) Tx.m_max (by decide +kernel) (pa_cons pe_int (pa_cons (pv 2) pa_nil))) (pa_cons (p_call C_law_not_number hr (pa_cons (pv 0) (pa_cons pe_int (pa_cons pe_int pa_nil))) (by omega)) pa_nil))) (by omega)) (pa_cons (pe_tup (pa_cons pe_str (pa_cons pe_str pa_nil))) pa_nil)) (by omega))))), ?_⟩
  refine run0 (A := A) (ms := ?ms) (XA := XA) h1 h2 h5 ?r ?u
  case r => exact (rs_seq (rs_for (ri_rng1 (ra_cons re_int ra_nil)) rg_name (rs_seq (rs_asg (re_call (ra_cons re_var (ra_cons re_int (ra_cons re_int ra_nil)))) rg_name)
      (rs_seq (rs_asg (re_op ro_ix (re_lst (ra_cons re_var (ra_cons (re_call (ra_cons re_var (ra_cons re_int (ra_cons re_int ra_nil)))) ra_nil))) re_var) rg_name)
      (rs_seq (rs_asg (re_op ro_ix (re_lst (ra_cons (re_call (ra_cons re_var (ra_cons re_int (ra_cons re_int ra_nil)))) (ra_cons re_int (ra_cons re_int ra_nil)))) (re_call (ra_cons re_var (ra_cons re_int ra_nil)))) rg_name)
      (rs_seq (rs_if (rt_not (rt_B (re_call (ra_cons (re_call (ra_cons re_var (ra_cons re_var (ra_cons re_var ra_nil)))) (ra_cons (re_tup (ra_cons re_str (ra_cons re_str ra_nil))) ra_nil))))) (rs_ret re_bl) rs_next)
      (rs_seq (rs_if (rt_not (rt_B (re_call (ra_cons (re_call (ra_cons (re_op ro_ix (re_lst (ra_cons re_var (ra_cons re_int ra_nil))) re_var) (ra_cons re_var (ra_cons re_var ra_nil)))) (ra_cons (re_tup (ra_cons re_str (ra_cons re_str ra_nil))) ra_nil))))) (rs_ret re_bl) rs_next)
      (rs_if (rt_not (rt_B (re_call (ra_cons (re_call (ra_cons re_int (ra_cons re_int (ra_cons re_var ra_nil)))) (ra_cons (re_tup (ra_cons re_str (ra_cons re_str ra_nil))) ra_nil))))) (rs_ret re_bl) rs_next)))))))
      (rs_ret (re_call (ra_cons (re_call (ra_cons re_var (ra_cons (re_cb rcb_max2 (ra_cons re_int (ra_cons re_var ra_nil))) (ra_cons (re_call (ra_cons re_var (ra_cons re_int (ra_cons re_int ra_nil)))) ra_nil)))) (ra_cons (re_tup (ra_cons re_str (ra_cons re_str ra_nil))) ra_nil)))))
  case u =>
    clear h1 h2 h5 h6 hr
    obtain ⟨l, h, rfl, l0, l1, h0, h1, lh, hk⟩ := hc
    (simp! only [])
    refine ⟨by decide, by decide, ?_⟩
    refine ⟨fun i env => ∃ z3 z4 z5 z6 : Option Sl, env = [some (Sl.d T.sto), some (Sl.d (T.int l)), some (Sl.d (T.int h)), z3, z4, z5, z6], ⟨_, _, _, _, rfl⟩, ?_, ?_⟩
    · rintro i x env hx ⟨z3, z4, z5, z6, rfl⟩
      obtain ⟨hi, rfl⟩ := rng_at hx
      rw [Int.zero_add]
      (simp! only [])
      refine ⟨0, 8, rfl, by decide, by decide, by decide, fun b nb tb ob wb => ?_⟩
      dsimp only
      refine ⟨0, 8, rfl, by decide, by decide, by decide, fun b2 nb2 tb2 ob2 wb2 => ?_⟩
      have i2 : i = 0 ∨ i = 1 := by
        have : i < 2 := hi
        omega
      have pk : ∀ (a c : T) (na nc : String), tyT a = some na → tyT c = some nc → ∃ t nt, atI [a, c] (i : Int) = some t ∧ tyT t = some nt := fun a c na nc ha hc => by
        rcases i2 with rfl | rfl
        · exact ⟨a, na, rfl, ha⟩
        · exact ⟨c, nc, rfl, hc⟩
      obtain ⟨t1, n1, e1, y1⟩ := pk (T.int h) b2 _ _ rfl tb2
      refine ⟨t1, e1, ?_⟩
      refine ⟨0, 800, rfl, by decide, by decide, by decide, fun b3 nb3 tb3 ob3 wb3 => ?_⟩
      refine ⟨3, rfl, by decide, fun u u0 u1 => ?_⟩
      obtain ⟨t2, n2, e2, y2⟩ : ∃ t nt, atI [b3, T.int 800, T.int 3] u = some t ∧ tyT t = some nt := by
        rcases (by omega : u = 0 ∨ u = 1 ∨ u = 2) with rfl | rfl | rfl
        · exact ⟨_, _, rfl, tb3⟩
        · exact ⟨_, _, rfl, rfl⟩
        · exact ⟨_, _, rfl, rfl⟩
      (simp! only [])
      refine ⟨t2, e2, ?_⟩
      refine ⟨_, _, _, rfl, ⟨⟨nb, tb⟩, ⟨n1, y1⟩, ⟨n2, y2⟩⟩, fun _ => ?_, fun l' e g0 g1 => ?_⟩
      rotate_left
      · subst e
        simp [wholeT] at wb
        omega
      dsimp only [kindX]
      (simp! only [])
      refine same_yes rfl rfl ?_
      (simp! only [])
      obtain ⟨m, em, m0, m1⟩ : ∃ m : Int, atI [T.int l, T.int 0] (i : Int) = some (T.int m) ∧ 0 ≤ m ∧ m ≤ 8 := by
        rcases i2 with rfl | rfl
        · exact ⟨l, rfl, l0, l1⟩
        · exact ⟨0, rfl, by decide, by decide⟩
      refine ⟨_, em, ?_⟩
      have wl : ∀ (m : Int) (v : T), wholeT v 0 8 = false → wholeT v (if m = 0 then 1 else 0) 8 = false := fun m v hv => by
        by_cases z : m = 0
        · rw [if_pos z]
          cases v with
          | int i =>
            simp [wholeT] at hv ⊢
            omega
          | _ => rfl
        · rw [if_neg z]
          exact hv
      have badh : ∀ (m : Int) (v z : T) (nv nz : String) (kk : OT → Prop), 0 ≤ m → m ≤ 8 → tyT v = some nv → tyT z = some nz → wholeT v (if m = 0 then 1 else 0) 8 = false → kk (.d (.tup [.str "BadNumber", .str "heard"])) → c_law_asked_round [.int m, v, z] kk fun _ => False := fun m v z nv nz kk m0 m1 tv tz wv hkk => by
        refine ⟨_, _, _, rfl, ⟨⟨_, rfl⟩, ⟨_, tv⟩, ⟨_, tz⟩⟩, fun w => ?_, fun l' e _ _ => ?_⟩
        · simp [wholeT] at w
          omega
        · cases e
          refine ⟨fun _ => hkk, fun h' e c0 c1 c2 => ?_⟩
          subst e
          by_cases z : m = 0
          · have := c2 z
            rw [if_pos z] at wv
            simp [wholeT] at wv
            omega
          · rw [if_neg z] at wv
            simp [wholeT] at wv
            omega
      refine badh m b t2 _ _ _ m0 m1 tb y2 (wl m b wb) ?_
      (simp! only [])
      refine same_yes rfl rfl ?_
      (simp! only [])
      refine badh 0 (T.int 0) t2 _ _ _ (by decide) (by decide) rfl y2 rfl ?_
      (simp! only [])
      refine same_yes rfl rfl ?_
      (simp! only [])
      exact ⟨_, _, _, _, rfl⟩
    · rintro env ⟨z3, z4, z5, z6, rfl⟩
      (simp! only [])
      refine ⟨0, 800, rfl, by decide, by decide, by decide, fun b nb tb ob wb => ?_⟩
      refine ⟨_, _, _, rfl, ⟨⟨_, rfl⟩, ⟨_, rfl⟩, ⟨nb, tb⟩⟩, fun w => ?_, fun l' e _ _ => ?_⟩
      · simp [wholeT] at w
        omega
      · cases e
        refine ⟨fun w => ?_, fun h' e c0 c1 c2 => ?_⟩
        · by_cases z : l = 0
          · rw [if_pos z] at w
            simp [wholeT] at w
            omega
          · rw [if_neg z] at w
            simp [wholeT] at w
            omega
        · cases e
          refine ⟨fun _ => ?_, fun n' e _ => ?_⟩
          · dsimp only [kindX]
            (simp! only [])
            exact same_yes rfl rfl hk
          · subst e
            simp [wholeT] at wb
            omega
end
end Mt
namespace Mt
open PySem PySem.Spec PyProof.Rows L2 L2H
section
variable {P : Program} {w : World} {K : PySem.W.Frag} {mg : Str → Option Value} {base : Heap} {f : Addr} {fd : FuncData} {A : Ad} {tk : Nat → Tok}
theorem ok_law (F : Fun K "law" "law" s_law f fd) (Tx : Txt K mg A tk) (C_law_bad_rounds : Cal P w K mg base "_law_bad_rounds" 9 ["store", "out", "back"] (SpU A 3 c_law_bad_rounds)) (C_law_bad_texts : Cal P w K mg base "_law_bad_texts" 10 ["store", "flags"] (SpU A 2 c_law_bad_texts)) (C_law_edge : Cal P w K mg base "_law_edge" 3 ["store", "low", "high"] (SpU A 3 c_law_edge)) (C_law_pattern : Cal P w K mg base "_law_pattern" 5 ["store", "usual", "most"] (SpU A 3 c_law_pattern)) (C_law_round_right : Cal P w K mg base "_law_round_right" 11 ["out", "back", "beats"] (SpU A 3 c_law_round_right)) (C_law_round_trip : Cal P w K mg base "_law_round_trip" 10 ["flags"] (SpU A 1 c_law_round_trip)) (C_law_small : Cal P w K mg base "_law_small" 4 ["store", "low", "usual", "high"] (SpU A 4 c_law_small)) (C_law_store : Cal P w K mg base "_law_store" 1 ["script"] (sp_store K)) (C_law_take : Cal P w K mg base "_law_take" 2 ["store", "many"] (SpU A 2 c_law_take)) : FnOk P w K mg base CX0 12 f fd ["script"] (sp_law K) := by
  refine F.ok sc_law (fun vs H Q E h => ?_) (fun cdv Ar outer s H vs Q E hr h => ?_)
  · obtain ⟨a, ns, rfl, _⟩ := h
    rfl
  · refine ⟨_, (pss_cons (ps_set (i := 1) sc_law.nd rfl (.inl rfl) (p_call C_law_store hr (pa_cons (pv 0) pa_nil) (by omega)))
      (pss_cons (ps_set (i := 2) sc_law.nd rfl (.inl rfl) (p_call C_law_pattern hr (pa_cons (pv 1) (pa_cons pe_int (pa_cons pe_int pa_nil))) (by omega)))
      (pss_cons (ps_if (PW.pt (pw_or (pt_not (pt_val (p_call C_law_round_trip hr (pa_cons (pv 2) pa_nil) (by omega)))) (pw_or (pt_not (pt_val (p_call C_law_bad_texts hr (pa_cons (pv 1) (pa_cons (pv 2) pa_nil)) (by omega)))) (pw_or1 (pt_not (pt_val (p_call C_law_round_trip hr (pa_cons (pe_lst pa_nil) pa_nil) (by omega)))))))) (pss_one (ps_ret pe_bl)) pss_nil)
      (pss_cons (ps_set (i := 3) sc_law.nd rfl (.inl rfl) (p_call C_law_edge hr (pa_cons (pv 1) (pa_cons pe_int (pa_cons pe_int pa_nil))) (by omega)))
      (pss_cons (ps_set (i := 4) sc_law.nd rfl (.inl rfl) (p_call C_law_edge hr (pa_cons (pv 1) (pa_cons (pe_callTy call_intH (by rfl) Tx.m_int (by decide +kernel) (pa_cons (pe_cmpR op_eq (pv 3) pe_int (nomark _)) pa_nil)) (pa_cons pe_int pa_nil))) (by omega)))
      (pss_cons (ps_set (i := 5) sc_law.nd rfl (.inl rfl) (p_call C_law_small hr (pa_cons (pv 1) (pa_cons pe_int (pa_cons pe_int (pa_cons pe_int pa_nil)))) (by omega)))
      (pss_cons (ps_if (PW.pt (pw_or (pt_not (pt_val (p_call C_law_round_right hr (pa_cons (pv 3) (pa_cons (pv 4) (pa_cons (pv 5) pa_nil))) (by omega)))) (pw_or1 (pt_not (pt_val (p_call C_law_bad_rounds hr (pa_cons (pv 1) (pa_cons (pv 3) (pa_cons (pv 4) pa_nil))) (by omega))))))) (pss_one (ps_ret pe_bl)) pss_nil)
      (pss_one (ps_ret (p_call C_law_round_right hr (pa_cons (pe_callB (call_max2H rfl) (by rfl) Tx.m_max (by decide +kernel) (pa_cons pe_int (pa_cons (pv 4) pa_nil))) (pa_cons (pv 3) (pa_cons (pe_ix ix_H (pe_lst (pa_cons (pv 5) (pa_cons pe_int pa_nil))) (pe_callTy call_intH (by rfl) Tx.m_int (by decide +kernel) (pa_cons (pe_cmpR op_eq (p_call C_law_take hr (pa_cons (pv 1) (pa_cons pe_int pa_nil)) (by omega)) pe_int (nomark _)) pa_nil)) (fun _ _ => rfl)) pa_nil))) (by omega))))))))))), ?_⟩
    refine run_law2 (A := A) (ms := ?ms) (E' := ET) rfl h ?r ?u
    case r => exact (rs_seq (rs_asg (re_call (ra_cons re_var (ra_cons re_int (ra_cons re_int ra_nil)))) rg_name)
      (rs_seq (rs_if (rt_or (rt_not (rt_B (re_call (ra_cons re_var ra_nil)))) (rt_or (rt_not (rt_B (re_call (ra_cons re_var (ra_cons re_var ra_nil))))) (rt_not (rt_B (re_call (ra_cons (re_lst ra_nil) ra_nil)))))) (rs_ret re_bl) rs_next)
      (rs_seq (rs_asg (re_call (ra_cons re_var (ra_cons re_int (ra_cons re_int ra_nil)))) rg_name)
      (rs_seq (rs_asg (re_call (ra_cons re_var (ra_cons (re_cb rcb_int (ra_cons (re_op ro_eq re_var re_int) ra_nil)) (ra_cons re_int ra_nil)))) rg_name)
      (rs_seq (rs_asg (re_call (ra_cons re_var (ra_cons re_int (ra_cons re_int (ra_cons re_int ra_nil))))) rg_name)
      (rs_seq (rs_if (rt_or (rt_not (rt_B (re_call (ra_cons re_var (ra_cons re_var (ra_cons re_var ra_nil)))))) (rt_not (rt_B (re_call (ra_cons re_var (ra_cons re_var (ra_cons re_var ra_nil))))))) (rs_ret re_bl) rs_next)
      (rs_ret (re_call (ra_cons (re_cb rcb_max2 (ra_cons re_int (ra_cons re_var ra_nil))) (ra_cons re_var (ra_cons (re_op ro_ix (re_lst (ra_cons re_var (ra_cons re_int ra_nil))) (re_cb rcb_int (ra_cons (re_op ro_eq (re_call (ra_cons re_var (ra_cons re_int ra_nil))) re_int) ra_nil))) ra_nil)))))))))))
    case u =>
      clear h hr
      (simp! only [])
      refine ⟨9, 800, rfl, by decide, by decide, fun fs hl => ?_⟩
      refine ⟨fs, rfl, hl, ?_⟩
      (simp! only [])
      refine ⟨fs, rfl, hl, ?_⟩
      (simp! only [])
      refine ⟨[], rfl, by decide, ?_⟩
      (simp! only [])
      refine ⟨0, 8, rfl, by decide, by decide, fun l l0 l1 => ?_⟩
      (simp! only [])
      have hb : (if l = 0 then (1 : Int) else 0) ≤ 8 ∧ 0 ≤ (if l = 0 then (1 : Int) else 0) := by
        split <;> decide
      refine ⟨_, 8, rfl, hb.1, by omega, fun h h0 h1 => ?_⟩
      have lh : l = 0 → 1 ≤ h := fun z => by
        rw [if_pos z] at h0
        exact h0
      have h0' : 0 ≤ h := by omega
      refine ⟨0, 30, 800, rfl, by decide, by decide, by decide, by decide, fun n n0 n1 => ?_⟩
      obtain ⟨n, rfl⟩ := Int.eq_ofNat_of_zero_le n0
      refine ⟨l, h, n, rfl, l0, l1, h0', h1, lh, by omega, ?_⟩
      (simp! only [])
      refine ⟨l, h, rfl, l0, l1, h0', h1, lh, ?_⟩
      (simp! only [])
      refine ⟨16, rfl, by decide, fun u u0 u1 => ?_⟩
      (simp! only [])
      by_cases z : u = 0
      · rw [if_pos z]
        exact ⟨_, rfl, max 1 h, l, 800, rfl, by omega, by omega, l0, l1, fun e => by omega, by decide, rfl⟩
      · rw [if_neg z]
        exact ⟨_, rfl, max 1 h, l, n, rfl, by omega, by omega, l0, l1, fun e => by omega, by omega, rfl⟩
end
end Mt
namespace Mt
open PySem PySem.Spec PyProof.Rows L2 L2H
theorem all_mk {P : Program} {w : World} {K : PySem.W.Frag} {h : Heap} {mg : Str → Option Value} {fa : Addr} (X : K.In h) (G : h.Ns mainGlobals mg) (hfa : mg "law" = some (.ref fa))
    {bn bs be bt tl cl ni nm en me fI_bn fI_bs fI_be fI_bt N_bn N_bs N_be N_bt : Addr} {t0 t1 : Tok}
    {nm_bn q_bn : Str} {bs_bn bm_bn : List Value} {sn_bn : List Str} {sub_bn : List Value} {ab_bn : Bool} {col_bn : Option Bool} {dd_bn : Option Addr} {e0_bn e1_bn e2_bn e3_bn e5_bn : Option Value}
    {nm_bs q_bs : Str} {bs_bs bm_bs : List Value} {sn_bs : List Str} {sub_bs : List Value} {ab_bs : Bool} {col_bs : Option Bool} {dd_bs : Option Addr} {e0_bs e1_bs e2_bs e3_bs e5_bs : Option Value}
    {nm_be q_be : Str} {bs_be bm_be : List Value} {sn_be : List Str} {sub_be : List Value} {ab_be : Bool} {col_be : Option Bool} {dd_be : Option Addr} {e0_be e1_be e2_be e3_be e5_be : Option Value}
    {nm_bt q_bt : Str} {bs_bt bm_bt : List Value} {sn_bt : List Str} {sub_bt : List Value} {ab_bt : Bool} {col_bt : Option Bool} {dd_bt : Option Addr} {e0_bt e1_bt e2_bt e3_bt e5_bt : Option Value}
    (g_BadNumber : PySem.W.nsIn K mainGlobals "BadNumber" = some (some (.ref bn)))
    (g_BadShape : PySem.W.nsIn K mainGlobals "BadShape" = some (some (.ref bs)))
    (g_BadElement : PySem.W.nsIn K mainGlobals "BadElement" = some (some (.ref be)))
    (g_BadText : PySem.W.nsIn K mainGlobals "BadText" = some (some (.ref bt)))
    (g_TooLarge : PySem.W.nsIn K mainGlobals "TooLarge" = some (some (.ref tl)))
    (g_Clash : PySem.W.nsIn K mainGlobals "Clash" = some (some (.ref cl)))
    (g_NoInverse : PySem.W.nsIn K mainGlobals "NoInverse" = some (some (.ref ni)))
    (g_NotMade : PySem.W.nsIn K mainGlobals "NotMade" = some (some (.ref nm)))
    (g_Ended : PySem.W.nsIn K mainGlobals "Ended" = some (some (.ref en)))
    (g_MendError : PySem.W.nsIn K mainGlobals "MendError" = some (some (.ref me)))
    (g_MOST_BEATS : PySem.W.nsIn K mainGlobals "MOST_BEATS" = some (some (.int 800 t0)))
    (g_MOST_ROUND : PySem.W.nsIn K mainGlobals "MOST_ROUND" = some (some (.int 8 t1)))
    (z_ValueError : PySem.W.nsIn K mainGlobals "ValueError" = some none)
    (z_abs : PySem.W.nsIn K mainGlobals "abs" = some none)
    (z_all : PySem.W.nsIn K mainGlobals "all" = some none)
    (z_bool : PySem.W.nsIn K mainGlobals "bool" = some none)
    (z_int : PySem.W.nsIn K mainGlobals "int" = some none)
    (z_isinstance : PySem.W.nsIn K mainGlobals "isinstance" = some none)
    (z_len : PySem.W.nsIn K mainGlobals "len" = some none)
    (z_list : PySem.W.nsIn K mainGlobals "list" = some none)
    (z_max : PySem.W.nsIn K mainGlobals "max" = some none)
    (z_range : PySem.W.nsIn K mainGlobals "range" = some none)
    (z_str : PySem.W.nsIn K mainGlobals "str" = some none)
    (z_tuple : PySem.W.nsIn K mainGlobals "tuple" = some none)
    (z_type : PySem.W.nsIn K mainGlobals "type" = some none)
    (xL_bn : K.lookup bn = some (excClassObj nm_bn q_bn bn N_bn bs_bn bm_bn true sn_bn sub_bn ab_bn col_bn dd_bn e0_bn e1_bn e2_bn e3_bn e5_bn "ValueError.__new__"))
    (xR_bn : PySem.HandSPX.refsVE bm_bn = true)
    (sa_bn : PySem.W.findIn K (.ref bn) "__setattr__" = some (some (.builtin "object.__setattr__")))
    (exC_bn : PySem.W.subIn K (.ref bn) (.type "BaseException") = some true)
    (tyC_bn : PySem.W.typeIn K (.ref bn) = some (.type "type"))
    (kC_bn : PySem.W.keepIn K (.ref bn) = true)
    (noA_bn : PySem.W.findIn K (.ref bn) "argument" = some none)
    (i1_bn : PySem.W.findIn K (.ref bn) "__init__" = some (some (.ref fI_bn)))
    (i2_bn : PySem.W.typeIn K (.ref fI_bn) = some (.type "function"))
    (i3_bn : ∃ fd, Fun K "__init__" "BadNumber.__init__" s_BadNumber___init__ fI_bn fd)
    (ic_bn : (PySem.W.clsIn K bn).isSome = true)
    (ga_bn : PySem.W.findIn K (.ref bn) "__getattribute__" = some (some (.builtin "BaseException.__getattribute__")))
    (gg_bn : PySem.W.findIn K (.ref bn) "__getattr__" = some none)
    (hd_bn : PySem.W.hasDictIn K bn = true)
    (ca_bn : PySem.W.findIn K (.ref bn) "__class__" = some (some (.builtin "object.__class__")))
    (cm_bn : PySem.W.mroIn K bn (.type "object") = some true)
    (q_bn_bn : PySem.W.kitOne K (.ref bn) (.ref bn) = some true)
    (q_bn_bs : PySem.W.kitOne K (.ref bn) (.ref bs) = some false)
    (q_bn_be : PySem.W.kitOne K (.ref bn) (.ref be) = some false)
    (q_bn_bt : PySem.W.kitOne K (.ref bn) (.ref bt) = some false)
    (q_bn_tl : PySem.W.kitOne K (.ref bn) (.ref tl) = some false)
    (q_bn_cl : PySem.W.kitOne K (.ref bn) (.ref cl) = some false)
    (q_bn_ni : PySem.W.kitOne K (.ref bn) (.ref ni) = some false)
    (q_bn_nm : PySem.W.kitOne K (.ref bn) (.ref nm) = some false)
    (q_bn_en : PySem.W.kitOne K (.ref bn) (.ref en) = some false)
    (q_bn_me : PySem.W.kitOne K (.ref bn) (.ref me) = some true)
    (q_bn_ve : PySem.W.kitOne K (.ref bn) (.type "ValueError") = some true)
    (xL_bs : K.lookup bs = some (excClassObj nm_bs q_bs bs N_bs bs_bs bm_bs true sn_bs sub_bs ab_bs col_bs dd_bs e0_bs e1_bs e2_bs e3_bs e5_bs "ValueError.__new__"))
    (xR_bs : PySem.HandSPX.refsVE bm_bs = true)
    (sa_bs : PySem.W.findIn K (.ref bs) "__setattr__" = some (some (.builtin "object.__setattr__")))
    (exC_bs : PySem.W.subIn K (.ref bs) (.type "BaseException") = some true)
    (tyC_bs : PySem.W.typeIn K (.ref bs) = some (.type "type"))
    (kC_bs : PySem.W.keepIn K (.ref bs) = true)
    (noA_bs : PySem.W.findIn K (.ref bs) "argument" = some none)
    (i1_bs : PySem.W.findIn K (.ref bs) "__init__" = some (some (.ref fI_bs)))
    (i2_bs : PySem.W.typeIn K (.ref fI_bs) = some (.type "function"))
    (i3_bs : ∃ fd, Fun K "__init__" "BadShape.__init__" s_BadShape___init__ fI_bs fd)
    (ic_bs : (PySem.W.clsIn K bs).isSome = true)
    (ga_bs : PySem.W.findIn K (.ref bs) "__getattribute__" = some (some (.builtin "BaseException.__getattribute__")))
    (gg_bs : PySem.W.findIn K (.ref bs) "__getattr__" = some none)
    (hd_bs : PySem.W.hasDictIn K bs = true)
    (ca_bs : PySem.W.findIn K (.ref bs) "__class__" = some (some (.builtin "object.__class__")))
    (cm_bs : PySem.W.mroIn K bs (.type "object") = some true)
    (q_bs_bn : PySem.W.kitOne K (.ref bs) (.ref bn) = some false)
    (q_bs_bs : PySem.W.kitOne K (.ref bs) (.ref bs) = some true)
    (q_bs_be : PySem.W.kitOne K (.ref bs) (.ref be) = some false)
    (q_bs_bt : PySem.W.kitOne K (.ref bs) (.ref bt) = some false)
    (q_bs_tl : PySem.W.kitOne K (.ref bs) (.ref tl) = some false)
    (q_bs_cl : PySem.W.kitOne K (.ref bs) (.ref cl) = some false)
    (q_bs_ni : PySem.W.kitOne K (.ref bs) (.ref ni) = some false)
    (q_bs_nm : PySem.W.kitOne K (.ref bs) (.ref nm) = some false)
    (q_bs_en : PySem.W.kitOne K (.ref bs) (.ref en) = some false)
    (q_bs_me : PySem.W.kitOne K (.ref bs) (.ref me) = some true)
    (q_bs_ve : PySem.W.kitOne K (.ref bs) (.type "ValueError") = some true)
    (xL_be : K.lookup be = some (excClassObj nm_be q_be be N_be bs_be bm_be true sn_be sub_be ab_be col_be dd_be e0_be e1_be e2_be e3_be e5_be "ValueError.__new__"))
    (xR_be : PySem.HandSPX.refsVE bm_be = true)
    (sa_be : PySem.W.findIn K (.ref be) "__setattr__" = some (some (.builtin "object.__setattr__")))
    (exC_be : PySem.W.subIn K (.ref be) (.type "BaseException") = some true)
    (tyC_be : PySem.W.typeIn K (.ref be) = some (.type "type"))
    (kC_be : PySem.W.keepIn K (.ref be) = true)
    (noA_be : PySem.W.findIn K (.ref be) "argument" = some none)
    (i1_be : PySem.W.findIn K (.ref be) "__init__" = some (some (.ref fI_be)))
    (i2_be : PySem.W.typeIn K (.ref fI_be) = some (.type "function"))
    (i3_be : ∃ fd, Fun K "__init__" "BadElement.__init__" s_BadElement___init__ fI_be fd)
    (ic_be : (PySem.W.clsIn K be).isSome = true)
    (ga_be : PySem.W.findIn K (.ref be) "__getattribute__" = some (some (.builtin "BaseException.__getattribute__")))
    (gg_be : PySem.W.findIn K (.ref be) "__getattr__" = some none)
    (hd_be : PySem.W.hasDictIn K be = true)
    (ca_be : PySem.W.findIn K (.ref be) "__class__" = some (some (.builtin "object.__class__")))
    (cm_be : PySem.W.mroIn K be (.type "object") = some true)
    (q_be_bn : PySem.W.kitOne K (.ref be) (.ref bn) = some false)
    (q_be_bs : PySem.W.kitOne K (.ref be) (.ref bs) = some false)
    (q_be_be : PySem.W.kitOne K (.ref be) (.ref be) = some true)
    (q_be_bt : PySem.W.kitOne K (.ref be) (.ref bt) = some false)
    (q_be_tl : PySem.W.kitOne K (.ref be) (.ref tl) = some false)
    (q_be_cl : PySem.W.kitOne K (.ref be) (.ref cl) = some false)
    (q_be_ni : PySem.W.kitOne K (.ref be) (.ref ni) = some false)
    (q_be_nm : PySem.W.kitOne K (.ref be) (.ref nm) = some false)
    (q_be_en : PySem.W.kitOne K (.ref be) (.ref en) = some false)
    (q_be_me : PySem.W.kitOne K (.ref be) (.ref me) = some true)
    (q_be_ve : PySem.W.kitOne K (.ref be) (.type "ValueError") = some true)
    (xL_bt : K.lookup bt = some (excClassObj nm_bt q_bt bt N_bt bs_bt bm_bt true sn_bt sub_bt ab_bt col_bt dd_bt e0_bt e1_bt e2_bt e3_bt e5_bt "ValueError.__new__"))
    (xR_bt : PySem.HandSPX.refsVE bm_bt = true)
    (sa_bt : PySem.W.findIn K (.ref bt) "__setattr__" = some (some (.builtin "object.__setattr__")))
    (exC_bt : PySem.W.subIn K (.ref bt) (.type "BaseException") = some true)
    (tyC_bt : PySem.W.typeIn K (.ref bt) = some (.type "type"))
    (kC_bt : PySem.W.keepIn K (.ref bt) = true)
    (noA_bt : PySem.W.findIn K (.ref bt) "line" = some none)
    (i1_bt : PySem.W.findIn K (.ref bt) "__init__" = some (some (.ref fI_bt)))
    (i2_bt : PySem.W.typeIn K (.ref fI_bt) = some (.type "function"))
    (i3_bt : ∃ fd, Fun K "__init__" "BadText.__init__" s_BadText___init__ fI_bt fd)
    (ic_bt : (PySem.W.clsIn K bt).isSome = true)
    (ga_bt : PySem.W.findIn K (.ref bt) "__getattribute__" = some (some (.builtin "BaseException.__getattribute__")))
    (gg_bt : PySem.W.findIn K (.ref bt) "__getattr__" = some none)
    (hd_bt : PySem.W.hasDictIn K bt = true)
    (ca_bt : PySem.W.findIn K (.ref bt) "__class__" = some (some (.builtin "object.__class__")))
    (cm_bt : PySem.W.mroIn K bt (.type "object") = some true)
    (q_bt_bn : PySem.W.kitOne K (.ref bt) (.ref bn) = some false)
    (q_bt_bs : PySem.W.kitOne K (.ref bt) (.ref bs) = some false)
    (q_bt_be : PySem.W.kitOne K (.ref bt) (.ref be) = some false)
    (q_bt_bt : PySem.W.kitOne K (.ref bt) (.ref bt) = some true)
    (q_bt_tl : PySem.W.kitOne K (.ref bt) (.ref tl) = some false)
    (q_bt_cl : PySem.W.kitOne K (.ref bt) (.ref cl) = some false)
    (q_bt_ni : PySem.W.kitOne K (.ref bt) (.ref ni) = some false)
    (q_bt_nm : PySem.W.kitOne K (.ref bt) (.ref nm) = some false)
    (q_bt_en : PySem.W.kitOne K (.ref bt) (.ref en) = some false)
    (q_bt_me : PySem.W.kitOne K (.ref bt) (.ref me) = some true)
    (q_bt_ve : PySem.W.kitOne K (.ref bt) (.type "ValueError") = some true)
    (cn : PySem.W.specialIn K (.builtin "object.__class__") "__get__" = some (some (.builtin "getset_descriptor.__get__")))
    (ct : PySem.W.takesIn K (.builtin "object.__class__") = some true)
    (x1 : PySem.W.subIn K (.ref me) (.type "BaseException") = some true)
    (x2 : PySem.W.isClsIn K me = true)
    (x3 : PySem.W.typeIn K (.ref me) = some (.type "type"))
    (x4_bn : PySem.W.subIn K (.ref bn) (.ref me) = some true)
    (x4_bs : PySem.W.subIn K (.ref bs) (.ref me) = some true)
    (x4_be : PySem.W.subIn K (.ref be) (.ref me) = some true)
    (x4_bt : PySem.W.subIn K (.ref bt) (.ref me) = some true)
    (x4_tl : PySem.W.subIn K (.ref tl) (.ref me) = some true)
    (x4_cl : PySem.W.subIn K (.ref cl) (.ref me) = some true)
    (x4_ni : PySem.W.subIn K (.ref ni) (.ref me) = some true)
    (x4_nm : PySem.W.subIn K (.ref nm) (.ref me) = some true)
    (x4_en : PySem.W.subIn K (.ref en) (.ref me) = some true)
    (x4_me : PySem.W.subIn K (.ref me) (.ref me) = some true)
    (D_is_whole : Dn K "is_whole" s_is_whole)
    (D_check_number : Dn K "check_number" s_check_number)
    (D_check_element : Dn K "check_element" s_check_element)
    (D_check_list : Dn K "check_list" s_check_list)
    (D_check_entries : Dn K "check_entries" s_check_entries)
    (D_check_pattern : ∃ f fd, PySem.W.nsIn K mainGlobals "check_pattern" = some (some (.ref f)) ∧ Fun K "check_pattern" "check_pattern" s_check_pattern f fd ∧ FunD K "check_pattern" "check_pattern" (defArgs s_check_pattern) (defBody s_check_pattern) (defScope s_check_pattern) [] [("exact", .bl false)] f fd)
    (D_round_pattern : Dn K "round_pattern" s_round_pattern)
    (D_pattern_text : Dn K "pattern_text" s_pattern_text)
    (D_read_pattern : Dn K "read_pattern" s_read_pattern)
    (D_law_mixed : Dn K "_law_mixed" s_law_mixed)
    (D_law_store : Dn K "_law_store" s_law_store)
    (D_law_take : Dn K "_law_take" s_law_take)
    (D_law_edge : Dn K "_law_edge" s_law_edge)
    (D_law_small : Dn K "_law_small" s_law_small)
    (D_law_is_int : Dn K "_law_is_int" s_law_is_int)
    (D_law_same : Dn K "_law_same" s_law_same)
    (D_law_copy : Dn K "_law_copy" s_law_copy)
    (D_law_lists : Dn K "_law_lists" s_law_lists)
    (D_law_apart : Dn K "_law_apart" s_law_apart)
    (D_law_char : Dn K "_law_char" s_law_char)
    (D_law_text : Dn K "_law_text" s_law_text)
    (D_law_strange : Dn K "_law_strange" s_law_strange)
    (D_law_not_number : Dn K "_law_not_number" s_law_not_number)
    (D_law_not_list : Dn K "_law_not_list" s_law_not_list)
    (D_law_not_upto : Dn K "_law_not_upto" s_law_not_upto)
    (D_law_kind : Dn K "_law_kind" s_law_kind)
    (D_law_flags : Dn K "_law_flags" s_law_flags)
    (D_law_pattern : Dn K "_law_pattern" s_law_pattern)
    (D_law_dots : Dn K "_law_dots" s_law_dots)
    (D_law_not_dots : Dn K "_law_not_dots" s_law_not_dots)
    (D_law_asked_read : Dn K "_law_asked_read" s_law_asked_read)
    (D_law_asked_text : Dn K "_law_asked_text" s_law_asked_text)
    (D_law_asked_round : Dn K "_law_asked_round" s_law_asked_round)
    (D_law_round_trip : Dn K "_law_round_trip" s_law_round_trip)
    (D_law_bad_texts : Dn K "_law_bad_texts" s_law_bad_texts)
    (D_law_repeats : Dn K "_law_repeats" s_law_repeats)
    (D_law_round_right : Dn K "_law_round_right" s_law_round_right)
    (D_law_bad_rounds : Dn K "_law_bad_rounds" s_law_bad_rounds)
    (D_law : Dn K "law" s_law)
    : ∃ fd : FuncData, (∀ (s : Shared) (v : Value), BindsTo s fd ⟨[v], []⟩ [("script", v)]) ∧ ∀ base : Heap, K.In base → base.Ns mainGlobals mg → FnOk P w K mg base CX0 12 fa fd ["script"] (sp_law K) := by
  obtain ⟨f_law, fd_law, g_law, F_law⟩ := D_law
  have m_law := PySem.W.mg_of X G g_law
  cases hfa.symm.trans m_law
  let A : Ad := ⟨bn, bs, be, bt, tl, cl, ni, nm, en, me⟩
  let tk : Nat → Tok := fun n => match n with | 0 => t0 | 1 => t1 | _ => default
  have Tx : Txt K mg A tk := { m_ValueError := PySem.W.mg_none_of X G z_ValueError, m_abs := PySem.W.mg_none_of X G z_abs, m_all := PySem.W.mg_none_of X G z_all, m_bool := PySem.W.mg_none_of X G z_bool, m_int := PySem.W.mg_none_of X G z_int, m_isinstance := PySem.W.mg_none_of X G z_isinstance, m_len := PySem.W.mg_none_of X G z_len, m_list := PySem.W.mg_none_of X G z_list, m_max := PySem.W.mg_none_of X G z_max, m_range := PySem.W.mg_none_of X G z_range, m_str := PySem.W.mg_none_of X G z_str, m_tuple := PySem.W.mg_none_of X G z_tuple, m_type := PySem.W.mg_none_of X G z_type, g_BadNumber := PySem.W.mg_of X G g_BadNumber, g_BadShape := PySem.W.mg_of X G g_BadShape, g_BadElement := PySem.W.mg_of X G g_BadElement, g_BadText := PySem.W.mg_of X G g_BadText, g_TooLarge := PySem.W.mg_of X G g_TooLarge, g_Clash := PySem.W.mg_of X G g_Clash, g_NoInverse := PySem.W.mg_of X G g_NoInverse, g_NotMade := PySem.W.mg_of X G g_NotMade, g_Ended := PySem.W.mg_of X G g_Ended, g_MendError := PySem.W.mg_of X G g_MendError, g_MOST_BEATS := PySem.W.mg_of X G g_MOST_BEATS, g_MOST_ROUND := PySem.W.mg_of X G g_MOST_ROUND }
  have OX_bn : OexC K bn := { cls := ⟨nm_bn, q_bn, N_bn, bs_bn, bm_bn, sn_bn, sub_bn, ab_bn, col_bn, dd_bn, e0_bn, e1_bn, e2_bn, e3_bn, e5_bn, xL_bn, xR_bn⟩, sa := sa_bn, exC := exC_bn, tyC := tyC_bn, kC := kC_bn }
  obtain ⟨fdI_bn, FI_bn⟩ := i3_bn
  have bI_bn := FI_bn.binds (ps := ["self", "argument"]) fun _ _ _ _ _ _ us hl => match us, hl with | [_, _], _ => rfl
  have OX_bs : OexC K bs := { cls := ⟨nm_bs, q_bs, N_bs, bs_bs, bm_bs, sn_bs, sub_bs, ab_bs, col_bs, dd_bs, e0_bs, e1_bs, e2_bs, e3_bs, e5_bs, xL_bs, xR_bs⟩, sa := sa_bs, exC := exC_bs, tyC := tyC_bs, kC := kC_bs }
  obtain ⟨fdI_bs, FI_bs⟩ := i3_bs
  have bI_bs := FI_bs.binds (ps := ["self", "argument"]) fun _ _ _ _ _ _ us hl => match us, hl with | [_, _], _ => rfl
  have OX_be : OexC K be := { cls := ⟨nm_be, q_be, N_be, bs_be, bm_be, sn_be, sub_be, ab_be, col_be, dd_be, e0_be, e1_be, e2_be, e3_be, e5_be, xL_be, xR_be⟩, sa := sa_be, exC := exC_be, tyC := tyC_be, kC := kC_be }
  obtain ⟨fdI_be, FI_be⟩ := i3_be
  have bI_be := FI_be.binds (ps := ["self", "argument"]) fun _ _ _ _ _ _ us hl => match us, hl with | [_, _], _ => rfl
  have OX_bt : OexC K bt := { cls := ⟨nm_bt, q_bt, N_bt, bs_bt, bm_bt, sn_bt, sub_bt, ab_bt, col_bt, dd_bt, e0_bt, e1_bt, e2_bt, e3_bt, e5_bt, xL_bt, xR_bt⟩, sa := sa_bt, exC := exC_bt, tyC := tyC_bt, kC := kC_bt }
  obtain ⟨fdI_bt, FI_bt⟩ := i3_bt
  have bI_bt := FI_bt.binds (ps := ["self", "line"]) fun _ _ _ _ _ _ us hl => match us, hl with | [_, _], _ => rfl
  have KO : KOk K A ecAl := { bn := (fun _ => { xc := { ic := ic_bn, ga := ga_bn, gg := gg_bn, exC := exC_bn, hd := hd_bn, ca := ca_bn, cn := cn, ct := ct, cm := cm_bn }, no := noA_bn, kk := { bn := q_bn_bn, bs := q_bn_bs, be := q_bn_be, bt := q_bn_bt, tl := q_bn_tl, cl := q_bn_cl, ni := q_bn_ni, nm := q_bn_nm, en := q_bn_en, me := q_bn_me, ve := q_bn_ve } }), bs := (fun _ => { xc := { ic := ic_bs, ga := ga_bs, gg := gg_bs, exC := exC_bs, hd := hd_bs, ca := ca_bs, cn := cn, ct := ct, cm := cm_bs }, no := noA_bs, kk := { bn := q_bs_bn, bs := q_bs_bs, be := q_bs_be, bt := q_bs_bt, tl := q_bs_tl, cl := q_bs_cl, ni := q_bs_ni, nm := q_bs_nm, en := q_bs_en, me := q_bs_me, ve := q_bs_ve } }), be := (fun _ => { xc := { ic := ic_be, ga := ga_be, gg := gg_be, exC := exC_be, hd := hd_be, ca := ca_be, cn := cn, ct := ct, cm := cm_be }, no := noA_be, kk := { bn := q_be_bn, bs := q_be_bs, be := q_be_be, bt := q_be_bt, tl := q_be_tl, cl := q_be_cl, ni := q_be_ni, nm := q_be_nm, en := q_be_en, me := q_be_me, ve := q_be_ve } }) }
  have KB_bt : KB K A .bt := { xc := { ic := ic_bt, ga := ga_bt, gg := gg_bt, exC := exC_bt, hd := hd_bt, ca := ca_bt, cn := cn, ct := ct, cm := cm_bt }, no := noA_bt, bn := q_bt_bn, bs := q_bt_bs, be := q_bt_be, bt := q_bt_bt, tl := q_bt_tl, cl := q_bt_cl, ni := q_bt_ni, nm := q_bt_nm, en := q_bt_en, me := q_bt_me, ve := q_bt_ve }
  have KBs : ∀ c, blAl c = true → KB K A c := fun c hc => match c, hc with | .bt, _ => KB_bt
  have KH : ∀ z, zlAl z = true → KZ K A z := fun z hz => by cases z <;> cases hz
  have AO : AllOf K A (.ref A.me) := { bn := exm_sub x1 x2 x3 x4_bn, bs := exm_sub x1 x2 x3 x4_bs, be := exm_sub x1 x2 x3 x4_be, bt := exm_sub x1 x2 x3 x4_bt, tl := exm_sub x1 x2 x3 x4_tl, cl := exm_sub x1 x2 x3 x4_cl, ni := exm_sub x1 x2 x3 x4_ni, nm := exm_sub x1 x2 x3 x4_nm, en := exm_sub x1 x2 x3 x4_en }
  obtain ⟨f_is_whole, fd_is_whole, g_is_whole, F_is_whole⟩ := D_is_whole
  have m_is_whole := PySem.W.mg_of X G g_is_whole
  have b_is_whole := F_is_whole.binds (ps := ["value", "low", "high"]) fun _ _ _ _ _ _ us hl => match us, hl with | [_, _, _], _ => rfl
  obtain ⟨f_check_number, fd_check_number, g_check_number, F_check_number⟩ := D_check_number
  have m_check_number := PySem.W.mg_of X G g_check_number
  have b_check_number := F_check_number.binds (ps := ["value", "low", "high", "argument"]) fun _ _ _ _ _ _ us hl => match us, hl with | [_, _, _, _], _ => rfl
  obtain ⟨f_check_element, fd_check_element, g_check_element, F_check_element⟩ := D_check_element
  have m_check_element := PySem.W.mg_of X G g_check_element
  have b_check_element := F_check_element.binds (ps := ["value", "size", "argument"]) fun _ _ _ _ _ _ us hl => match us, hl with | [_, _, _], _ => rfl
  obtain ⟨f_check_list, fd_check_list, g_check_list, F_check_list⟩ := D_check_list
  have m_check_list := PySem.W.mg_of X G g_check_list
  obtain ⟨f_check_entries, fd_check_entries, g_check_entries, F_check_entries⟩ := D_check_entries
  have m_check_entries := PySem.W.mg_of X G g_check_entries
  have b_check_entries := F_check_entries.binds (ps := ["row", "size", "argument"]) fun _ _ _ _ _ _ us hl => match us, hl with | [_, _, _], _ => rfl
  obtain ⟨f_check_pattern, fd_check_pattern, g_check_pattern, F_check_pattern, FD_check_pattern⟩ := D_check_pattern
  have m_check_pattern := PySem.W.mg_of X G g_check_pattern
  obtain ⟨ds_check_pattern, vd_check_pattern, b_check_pattern⟩ := FD_check_pattern.binds0 (ps := ["pattern", "most", "argument", "exact"]) 3 (by simp) rfl fun D doc pm an cdv ct us ks hu hk => match us, ks, hu, hk with | [_, _, _], [_], _, _ => ⟨_, _, _, _, _, _, rfl, rfl, rfl⟩
  obtain ⟨f_round_pattern, fd_round_pattern, g_round_pattern, F_round_pattern⟩ := D_round_pattern
  have m_round_pattern := PySem.W.mg_of X G g_round_pattern
  have b_round_pattern := F_round_pattern.binds (ps := ["lost", "heard", "beats"]) fun _ _ _ _ _ _ us hl => match us, hl with | [_, _, _], _ => rfl
  obtain ⟨f_pattern_text, fd_pattern_text, g_pattern_text, F_pattern_text⟩ := D_pattern_text
  have m_pattern_text := PySem.W.mg_of X G g_pattern_text
  have b_pattern_text := F_pattern_text.binds (ps := ["pattern"]) fun _ _ _ _ _ _ us hl => match us, hl with | [_], _ => rfl
  obtain ⟨f_read_pattern, fd_read_pattern, g_read_pattern, F_read_pattern⟩ := D_read_pattern
  have m_read_pattern := PySem.W.mg_of X G g_read_pattern
  have b_read_pattern := F_read_pattern.binds (ps := ["text"]) fun _ _ _ _ _ _ us hl => match us, hl with | [_], _ => rfl
  obtain ⟨f_law_mixed, fd_law_mixed, g_law_mixed, F_law_mixed⟩ := D_law_mixed
  have m_law_mixed := PySem.W.mg_of X G g_law_mixed
  have b_law_mixed := F_law_mixed.binds (ps := ["number", "turn"]) fun _ _ _ _ _ _ us hl => match us, hl with | [_, _], _ => rfl
  obtain ⟨f_law_store, fd_law_store, g_law_store, F_law_store⟩ := D_law_store
  have m_law_store := PySem.W.mg_of X G g_law_store
  have b_law_store := F_law_store.binds (ps := ["script"]) fun _ _ _ _ _ _ us hl => match us, hl with | [_], _ => rfl
  obtain ⟨f_law_take, fd_law_take, g_law_take, F_law_take⟩ := D_law_take
  have m_law_take := PySem.W.mg_of X G g_law_take
  have b_law_take := F_law_take.binds (ps := ["store", "many"]) fun _ _ _ _ _ _ us hl => match us, hl with | [_, _], _ => rfl
  obtain ⟨f_law_edge, fd_law_edge, g_law_edge, F_law_edge⟩ := D_law_edge
  have m_law_edge := PySem.W.mg_of X G g_law_edge
  have b_law_edge := F_law_edge.binds (ps := ["store", "low", "high"]) fun _ _ _ _ _ _ us hl => match us, hl with | [_, _, _], _ => rfl
  obtain ⟨f_law_small, fd_law_small, g_law_small, F_law_small⟩ := D_law_small
  have m_law_small := PySem.W.mg_of X G g_law_small
  have b_law_small := F_law_small.binds (ps := ["store", "low", "usual", "high"]) fun _ _ _ _ _ _ us hl => match us, hl with | [_, _, _, _], _ => rfl
  obtain ⟨f_law_is_int, fd_law_is_int, g_law_is_int, F_law_is_int⟩ := D_law_is_int
  have m_law_is_int := PySem.W.mg_of X G g_law_is_int
  have b_law_is_int := F_law_is_int.binds (ps := ["value"]) fun _ _ _ _ _ _ us hl => match us, hl with | [_], _ => rfl
  obtain ⟨f_law_same, fd_law_same, g_law_same, F_law_same⟩ := D_law_same
  have m_law_same := PySem.W.mg_of X G g_law_same
  have b_law_same := F_law_same.binds (ps := ["left", "right"]) fun _ _ _ _ _ _ us hl => match us, hl with | [_, _], _ => rfl
  obtain ⟨f_law_copy, fd_law_copy, g_law_copy, F_law_copy⟩ := D_law_copy
  have m_law_copy := PySem.W.mg_of X G g_law_copy
  have b_law_copy := F_law_copy.binds (ps := ["value"]) fun _ _ _ _ _ _ us hl => match us, hl with | [_], _ => rfl
  obtain ⟨f_law_lists, fd_law_lists, g_law_lists, F_law_lists⟩ := D_law_lists
  have m_law_lists := PySem.W.mg_of X G g_law_lists
  have b_law_lists := F_law_lists.binds (ps := ["value", "depth"]) fun _ _ _ _ _ _ us hl => match us, hl with | [_, _], _ => rfl
  obtain ⟨f_law_apart, fd_law_apart, g_law_apart, F_law_apart⟩ := D_law_apart
  have m_law_apart := PySem.W.mg_of X G g_law_apart
  have b_law_apart := F_law_apart.binds (ps := ["value"]) fun _ _ _ _ _ _ us hl => match us, hl with | [_], _ => rfl
  obtain ⟨f_law_char, fd_law_char, g_law_char, F_law_char⟩ := D_law_char
  have m_law_char := PySem.W.mg_of X G g_law_char
  have b_law_char := F_law_char.binds (ps := ["store"]) fun _ _ _ _ _ _ us hl => match us, hl with | [_], _ => rfl
  obtain ⟨f_law_text, fd_law_text, g_law_text, F_law_text⟩ := D_law_text
  have m_law_text := PySem.W.mg_of X G g_law_text
  have b_law_text := F_law_text.binds (ps := ["store", "most"]) fun _ _ _ _ _ _ us hl => match us, hl with | [_, _], _ => rfl
  obtain ⟨f_law_strange, fd_law_strange, g_law_strange, F_law_strange⟩ := D_law_strange
  have m_law_strange := PySem.W.mg_of X G g_law_strange
  have b_law_strange := F_law_strange.binds (ps := ["store", "most"]) fun _ _ _ _ _ _ us hl => match us, hl with | [_, _], _ => rfl
  obtain ⟨f_law_not_number, fd_law_not_number, g_law_not_number, F_law_not_number⟩ := D_law_not_number
  have m_law_not_number := PySem.W.mg_of X G g_law_not_number
  have b_law_not_number := F_law_not_number.binds (ps := ["store", "low", "high"]) fun _ _ _ _ _ _ us hl => match us, hl with | [_, _, _], _ => rfl
  obtain ⟨f_law_not_list, fd_law_not_list, g_law_not_list, F_law_not_list⟩ := D_law_not_list
  have m_law_not_list := PySem.W.mg_of X G g_law_not_list
  have b_law_not_list := F_law_not_list.binds (ps := ["store", "row", "none"]) fun _ _ _ _ _ _ us hl => match us, hl with | [_, _, _], _ => rfl
  obtain ⟨f_law_not_upto, fd_law_not_upto, g_law_not_upto, F_law_not_upto⟩ := D_law_not_upto
  have m_law_not_upto := PySem.W.mg_of X G g_law_not_upto
  have b_law_not_upto := F_law_not_upto.binds (ps := ["store", "size", "row", "most"]) fun _ _ _ _ _ _ us hl => match us, hl with | [_, _, _, _], _ => rfl
  obtain ⟨f_law_kind, fd_law_kind, g_law_kind, F_law_kind⟩ := D_law_kind
  have m_law_kind := PySem.W.mg_of X G g_law_kind
  have b_law_kind := F_law_kind.binds (ps := ["error"]) fun _ _ _ _ _ _ us hl => match us, hl with | [_], _ => rfl
  obtain ⟨f_law_flags, fd_law_flags, g_law_flags, F_law_flags⟩ := D_law_flags
  have m_law_flags := PySem.W.mg_of X G g_law_flags
  have b_law_flags := F_law_flags.binds (ps := ["store", "beats"]) fun _ _ _ _ _ _ us hl => match us, hl with | [_, _], _ => rfl
  obtain ⟨f_law_pattern, fd_law_pattern, g_law_pattern, F_law_pattern⟩ := D_law_pattern
  have m_law_pattern := PySem.W.mg_of X G g_law_pattern
  have b_law_pattern := F_law_pattern.binds (ps := ["store", "usual", "most"]) fun _ _ _ _ _ _ us hl => match us, hl with | [_, _, _], _ => rfl
  obtain ⟨f_law_dots, fd_law_dots, g_law_dots, F_law_dots⟩ := D_law_dots
  have m_law_dots := PySem.W.mg_of X G g_law_dots
  have b_law_dots := F_law_dots.binds (ps := ["pattern"]) fun _ _ _ _ _ _ us hl => match us, hl with | [_], _ => rfl
  obtain ⟨f_law_not_dots, fd_law_not_dots, g_law_not_dots, F_law_not_dots⟩ := D_law_not_dots
  have m_law_not_dots := PySem.W.mg_of X G g_law_not_dots
  have b_law_not_dots := F_law_not_dots.binds (ps := ["store", "pattern"]) fun _ _ _ _ _ _ us hl => match us, hl with | [_, _], _ => rfl
  obtain ⟨f_law_asked_read, fd_law_asked_read, g_law_asked_read, F_law_asked_read⟩ := D_law_asked_read
  have m_law_asked_read := PySem.W.mg_of X G g_law_asked_read
  have b_law_asked_read := F_law_asked_read.binds (ps := ["text"]) fun _ _ _ _ _ _ us hl => match us, hl with | [_], _ => rfl
  obtain ⟨f_law_asked_text, fd_law_asked_text, g_law_asked_text, F_law_asked_text⟩ := D_law_asked_text
  have m_law_asked_text := PySem.W.mg_of X G g_law_asked_text
  have b_law_asked_text := F_law_asked_text.binds (ps := ["flags"]) fun _ _ _ _ _ _ us hl => match us, hl with | [_], _ => rfl
  obtain ⟨f_law_asked_round, fd_law_asked_round, g_law_asked_round, F_law_asked_round⟩ := D_law_asked_round
  have m_law_asked_round := PySem.W.mg_of X G g_law_asked_round
  have b_law_asked_round := F_law_asked_round.binds (ps := ["out", "back", "beats"]) fun _ _ _ _ _ _ us hl => match us, hl with | [_, _, _], _ => rfl
  obtain ⟨f_law_round_trip, fd_law_round_trip, g_law_round_trip, F_law_round_trip⟩ := D_law_round_trip
  have m_law_round_trip := PySem.W.mg_of X G g_law_round_trip
  have b_law_round_trip := F_law_round_trip.binds (ps := ["flags"]) fun _ _ _ _ _ _ us hl => match us, hl with | [_], _ => rfl
  obtain ⟨f_law_bad_texts, fd_law_bad_texts, g_law_bad_texts, F_law_bad_texts⟩ := D_law_bad_texts
  have m_law_bad_texts := PySem.W.mg_of X G g_law_bad_texts
  have b_law_bad_texts := F_law_bad_texts.binds (ps := ["store", "flags"]) fun _ _ _ _ _ _ us hl => match us, hl with | [_, _], _ => rfl
  obtain ⟨f_law_repeats, fd_law_repeats, g_law_repeats, F_law_repeats⟩ := D_law_repeats
  have m_law_repeats := PySem.W.mg_of X G g_law_repeats
  have b_law_repeats := F_law_repeats.binds (ps := ["out", "back", "flags"]) fun _ _ _ _ _ _ us hl => match us, hl with | [_, _, _], _ => rfl
  obtain ⟨f_law_round_right, fd_law_round_right, g_law_round_right, F_law_round_right⟩ := D_law_round_right
  have m_law_round_right := PySem.W.mg_of X G g_law_round_right
  have b_law_round_right := F_law_round_right.binds (ps := ["out", "back", "beats"]) fun _ _ _ _ _ _ us hl => match us, hl with | [_, _, _], _ => rfl
  obtain ⟨f_law_bad_rounds, fd_law_bad_rounds, g_law_bad_rounds, F_law_bad_rounds⟩ := D_law_bad_rounds
  have m_law_bad_rounds := PySem.W.mg_of X G g_law_bad_rounds
  have b_law_bad_rounds := F_law_bad_rounds.binds (ps := ["store", "out", "back"]) fun _ _ _ _ _ _ us hl => match us, hl with | [_, _, _], _ => rfl
  have bL : ∀ (s : Shared) (v : Value), BindsTo s fd_law ⟨[v], []⟩ [("script", v)] := by
    obtain ⟨oc, od, kV, doc, pm, an, cdv, ct, osl, rfl, lk, hcd⟩ := F_law.ex
    exact fun s v => .of_eq rfl
  refine ⟨fd_law, bL, fun base _ _ => ?_⟩
  have E_BadNumber : ErrK P w K mg base "BadNumber" A.bn := { gC := PySem.W.mg_of X G g_BadNumber, oex := OX_bn, noA := noA_bn, ini := ⟨fI_bn, fdI_bn, i1_bn, i2_bn, init_of FI_bn sc_BadNumber___init__ (fun _ _ _ _ _ _ => pss_one (ps_ost (pv 0) (pv 1))) OX_bn noA_bn, bI_bn⟩ }
  have E_BadShape : ErrK P w K mg base "BadShape" A.bs := { gC := PySem.W.mg_of X G g_BadShape, oex := OX_bs, noA := noA_bs, ini := ⟨fI_bs, fdI_bs, i1_bs, i2_bs, init_of FI_bs sc_BadShape___init__ (fun _ _ _ _ _ _ => pss_one (ps_ost (pv 0) (pv 1))) OX_bs noA_bs, bI_bs⟩ }
  have E_BadElement : ErrK P w K mg base "BadElement" A.be := { gC := PySem.W.mg_of X G g_BadElement, oex := OX_be, noA := noA_be, ini := ⟨fI_be, fdI_be, i1_be, i2_be, init_of FI_be sc_BadElement___init__ (fun _ _ _ _ _ _ => pss_one (ps_ost (pv 0) (pv 1))) OX_be noA_be, bI_be⟩ }
  have E_BadText : ErrKB P w K mg base "BadText" A.bt "line" := { gC := PySem.W.mg_of X G g_BadText, oex := OX_bt, noA := noA_bt, ini := ⟨fI_bt, fdI_bt, i1_bt, i2_bt, initB_of FI_bt sc_BadText___init__ (fun _ _ _ _ _ _ => pss_one (ps_ost (pv 0) (pv 1))) OX_bt noA_bt, bI_bt⟩ }
  have ok_is_whole_ := ok_is_whole (P := P) (w := w) (base := base) F_is_whole Tx 
  have C_is_whole : Cal P w K mg base "is_whole" 1 ["value", "low", "high"] (SpU A 3 c_is_whole) := ⟨f_is_whole, fd_is_whole, ok_is_whole_, m_is_whole, F_is_whole.kp, b_is_whole⟩
  have ok_check_number_ := ok_check_number (P := P) (w := w) (base := base) F_check_number Tx C_is_whole E_BadNumber
  have C_check_number : CalX P w K mg base "check_number" 3 ["value", "low", "high", "argument"] (SpU A 4 c_check_number) := ⟨f_check_number, fd_check_number, ok_check_number_, m_check_number, F_check_number.kp, b_check_number⟩
  have ok_check_element_ := ok_check_element (P := P) (w := w) (base := base) F_check_element Tx C_is_whole E_BadElement
  have C_check_element : CalX P w K mg base "check_element" 3 ["value", "size", "argument"] (SpU A 3 c_check_element) := ⟨f_check_element, fd_check_element, ok_check_element_, m_check_element, F_check_element.kp, b_check_element⟩
  have ok_check_list_ := ok_check_list (P := P) (w := w) (base := base) F_check_list Tx E_BadShape
  have CK_check_list_3_exact : CalKX P w K mg base "check_list" 3 ["value", "most", "argument", "exact"] 3 ["exact"] [0] (SpU A 4 c_check_list) := ⟨f_check_list, fd_check_list, ok_check_list_, m_check_list, F_check_list.kp, by
    obtain ⟨oc, od, kV, doc, pm, an, cdv, ct, osl, rfl, lk, hcd⟩ := F_check_list.ex
    exact ⟨fun s us ws _ h1 h2 => match us, ws, h1, h2 with | [_, _, _], [_], _, _ => .of_eq rfl, fun r1 r2 => vals_app r1 (vals_perm r2 _)⟩⟩
  have ok_check_entries_ := ok_check_entries (P := P) (w := w) (base := base) F_check_entries Tx C_check_element
  have C_check_entries : CalX P w K mg base "check_entries" 4 ["row", "size", "argument"] (SpU A 3 c_check_entries) := ⟨f_check_entries, fd_check_entries, ok_check_entries_, m_check_entries, F_check_entries.kp, b_check_entries⟩
  have ok_check_pattern_ := ok_check_pattern (P := P) (w := w) (base := base) F_check_pattern Tx C_check_entries CK_check_list_3_exact
  have CD_check_pattern : CalXD P w K mg base "check_pattern" 5 ["pattern", "most", "argument", "exact"] (SpU A 4 c_check_pattern) [.bl false] := ⟨f_check_pattern, fd_check_pattern, ds_check_pattern, ok_check_pattern_, m_check_pattern, F_check_pattern.kp, b_check_pattern, vd_check_pattern⟩
  have ok_round_pattern_ := ok_round_pattern (P := P) (w := w) (base := base) F_round_pattern Tx C_check_number
  have C_round_pattern : CalX P w K mg base "round_pattern" 4 ["lost", "heard", "beats"] (SpF A 3 c_round_pattern) := ⟨f_round_pattern, fd_round_pattern, ok_round_pattern_, m_round_pattern, F_round_pattern.kp, b_round_pattern⟩
  have ok_pattern_text_ := ok_pattern_text (P := P) (w := w) (base := base) F_pattern_text Tx CD_check_pattern
  have C_pattern_text : CalX P w K mg base "pattern_text" 6 ["pattern"] (SpU A 1 c_pattern_text) := ⟨f_pattern_text, fd_pattern_text, ok_pattern_text_, m_pattern_text, F_pattern_text.kp, b_pattern_text⟩
  have ok_read_pattern_ := ok_read_pattern (P := P) (w := w) (base := base) F_read_pattern Tx E_BadText
  have C_read_pattern : CalX P w K mg base "read_pattern" 3 ["text"] (SpF A 1 c_read_pattern) := ⟨f_read_pattern, fd_read_pattern, ok_read_pattern_, m_read_pattern, F_read_pattern.kp, b_read_pattern⟩
  have ok_law_mixed_ := ok_law_mixed (P := P) (w := w) (base := base) F_law_mixed Tx 
  have C_law_mixed : Cal P w K mg base "_law_mixed" 1 ["number", "turn"] sp_mixed := ⟨f_law_mixed, fd_law_mixed, ok_law_mixed_, m_law_mixed, F_law_mixed.kp, b_law_mixed⟩
  have ok_law_store_ := ok_law_store (P := P) (w := w) (base := base) F_law_store Tx 
  have C_law_store : Cal P w K mg base "_law_store" 1 ["script"] (sp_store K) := ⟨f_law_store, fd_law_store, ok_law_store_, m_law_store, F_law_store.kp, b_law_store⟩
  have ok_law_take_ := ok_law_take (P := P) (w := w) (base := base) F_law_take Tx C_law_mixed
  have C_law_take : Cal P w K mg base "_law_take" 2 ["store", "many"] (SpU A 2 c_law_take) := ⟨f_law_take, fd_law_take, ok_law_take_, m_law_take, F_law_take.kp, b_law_take⟩
  have ok_law_edge_ := ok_law_edge (P := P) (w := w) (base := base) F_law_edge Tx C_law_take
  have C_law_edge : Cal P w K mg base "_law_edge" 3 ["store", "low", "high"] (SpU A 3 c_law_edge) := ⟨f_law_edge, fd_law_edge, ok_law_edge_, m_law_edge, F_law_edge.kp, b_law_edge⟩
  have ok_law_small_ := ok_law_small (P := P) (w := w) (base := base) F_law_small Tx C_law_edge C_law_take
  have C_law_small : Cal P w K mg base "_law_small" 4 ["store", "low", "usual", "high"] (SpU A 4 c_law_small) := ⟨f_law_small, fd_law_small, ok_law_small_, m_law_small, F_law_small.kp, b_law_small⟩
  have ok_law_is_int_ := ok_law_is_int (P := P) (w := w) (base := base) F_law_is_int Tx 
  have C_law_is_int : Cal P w K mg base "_law_is_int" 1 ["value"] (SpU A 1 c_law_is_int) := ⟨f_law_is_int, fd_law_is_int, ok_law_is_int_, m_law_is_int, F_law_is_int.kp, b_law_is_int⟩
  have ok_law_same_ := ok_same (P := P) (w := w) (base := base) F_law_same Tx m_law_same b_law_same 7
  have C_law_same : Cal P w K mg base "_law_same" 8 ["left", "right"] (SpU A 2 (c_law_same 7)) := ⟨f_law_same, fd_law_same, ok_law_same_, m_law_same, F_law_same.kp, b_law_same⟩
  have ok_law_copy_ := ok_copy (P := P) (w := w) (base := base) F_law_copy Tx m_law_copy b_law_copy 7
  have C_law_copy : Cal P w K mg base "_law_copy" 8 ["value"] (SpF A 1 (c_law_copy 7)) := ⟨f_law_copy, fd_law_copy, ok_law_copy_, m_law_copy, F_law_copy.kp, b_law_copy⟩
  have ok_law_lists_ := ok_lists (P := P) (w := w) (base := base) F_law_lists Tx m_law_lists b_law_lists 6
  have C_law_lists : Cal P w K mg base "_law_lists" 7 ["value", "depth"] (Ap.sp_lists 6) := ⟨f_law_lists, fd_law_lists, ok_law_lists_, m_law_lists, F_law_lists.kp, b_law_lists⟩
  have ok_law_apart_ := ok_law_apart (P := P) (w := w) (base := base) F_law_apart Tx C_law_lists
  have C_law_apart : Cal P w K mg base "_law_apart" 8 ["value"] SpApart := ⟨f_law_apart, fd_law_apart, ok_law_apart_, m_law_apart, F_law_apart.kp, b_law_apart⟩
  have ok_law_char_ := ok_law_char (P := P) (w := w) (base := base) F_law_char Tx C_law_take
  have C_law_char : Cal P w K mg base "_law_char" 3 ["store"] (SpU A 1 c_law_char) := ⟨f_law_char, fd_law_char, ok_law_char_, m_law_char, F_law_char.kp, b_law_char⟩
  have ok_law_text_ := ok_law_text (P := P) (w := w) (base := base) F_law_text Tx C_law_char C_law_edge
  have C_law_text : Cal P w K mg base "_law_text" 4 ["store", "most"] (SpU A 2 c_law_text) := ⟨f_law_text, fd_law_text, ok_law_text_, m_law_text, F_law_text.kp, b_law_text⟩
  have ok_law_strange_ := ok_law_strange (P := P) (w := w) (base := base) F_law_strange Tx C_law_take C_law_text
  have C_law_strange : Cal P w K mg base "_law_strange" 5 ["store", "most"] (SpU A 2 c_law_strange) := ⟨f_law_strange, fd_law_strange, ok_law_strange_, m_law_strange, F_law_strange.kp, b_law_strange⟩
  have ok_law_not_number_ := ok_law_not_number (P := P) (w := w) (base := base) F_law_not_number Tx C_law_take
  have C_law_not_number : Cal P w K mg base "_law_not_number" 3 ["store", "low", "high"] (SpU A 3 c_law_not_number) := ⟨f_law_not_number, fd_law_not_number, ok_law_not_number_, m_law_not_number, F_law_not_number.kp, b_law_not_number⟩
  have ok_law_not_list_ := ok_law_not_list (P := P) (w := w) (base := base) F_law_not_list Tx C_law_take
  have C_law_not_list : Cal P w K mg base "_law_not_list" 3 ["store", "row", "none"] (SpU A 3 c_law_not_list) := ⟨f_law_not_list, fd_law_not_list, ok_law_not_list_, m_law_not_list, F_law_not_list.kp, b_law_not_list⟩
  have ok_law_not_upto_ := ok_law_not_upto (P := P) (w := w) (base := base) F_law_not_upto Tx C_law_not_list C_law_not_number C_law_take
  have C_law_not_upto : Cal P w K mg base "_law_not_upto" 4 ["store", "size", "row", "most"] (SpU A 4 c_law_not_upto) := ⟨f_law_not_upto, fd_law_not_upto, ok_law_not_upto_, m_law_not_upto, F_law_not_upto.kp, b_law_not_upto⟩
  have ok_law_kind_ := ok_law_kind (P := P) (w := w) (base := base) F_law_kind Tx KO KH KBs
  have C_law_kind : CalE P w K mg base "_law_kind" 1 ["error"] (SpB A ecAl zlAl blAl) := ⟨f_law_kind, fd_law_kind, ok_law_kind_, m_law_kind, F_law_kind.kp, b_law_kind⟩
  have ok_law_flags_ := ok_law_flags (P := P) (w := w) (base := base) F_law_flags Tx C_law_take
  have C_law_flags : Cal P w K mg base "_law_flags" 3 ["store", "beats"] (SpU A 2 c_law_flags) := ⟨f_law_flags, fd_law_flags, ok_law_flags_, m_law_flags, F_law_flags.kp, b_law_flags⟩
  have ok_law_pattern_ := ok_law_pattern (P := P) (w := w) (base := base) F_law_pattern Tx C_law_flags C_law_small
  have C_law_pattern : Cal P w K mg base "_law_pattern" 5 ["store", "usual", "most"] (SpU A 3 c_law_pattern) := ⟨f_law_pattern, fd_law_pattern, ok_law_pattern_, m_law_pattern, F_law_pattern.kp, b_law_pattern⟩
  have ok_law_dots_ := ok_law_dots (P := P) (w := w) (base := base) F_law_dots Tx 
  have C_law_dots : Cal P w K mg base "_law_dots" 1 ["pattern"] (SpU A 1 c_law_dots) := ⟨f_law_dots, fd_law_dots, ok_law_dots_, m_law_dots, F_law_dots.kp, b_law_dots⟩
  have ok_law_not_dots_ := ok_law_not_dots (P := P) (w := w) (base := base) F_law_not_dots Tx C_law_dots C_law_take
  have C_law_not_dots : Cal P w K mg base "_law_not_dots" 3 ["store", "pattern"] (SpU A 2 c_law_not_dots) := ⟨f_law_not_dots, fd_law_not_dots, ok_law_not_dots_, m_law_not_dots, F_law_not_dots.kp, b_law_not_dots⟩
  have ok_law_asked_read_ := ok_law_asked_read (P := P) (w := w) (base := base) F_law_asked_read Tx C_law_kind C_read_pattern AO
  have C_law_asked_read : Cal P w K mg base "_law_asked_read" 4 ["text"] (SpF A 1 c_law_asked_read) := ⟨f_law_asked_read, fd_law_asked_read, ok_law_asked_read_, m_law_asked_read, F_law_asked_read.kp, b_law_asked_read⟩
  have ok_law_asked_text_ := ok_law_asked_text (P := P) (w := w) (base := base) F_law_asked_text Tx C_law_copy C_law_kind C_law_same C_pattern_text AO
  have C_law_asked_text : Cal P w K mg base "_law_asked_text" 9 ["flags"] (SpU A 1 c_law_asked_text) := ⟨f_law_asked_text, fd_law_asked_text, ok_law_asked_text_, m_law_asked_text, F_law_asked_text.kp, b_law_asked_text⟩
  have ok_law_asked_round_ := ok_law_asked_round (P := P) (w := w) (base := base) F_law_asked_round Tx C_law_kind C_round_pattern AO
  have C_law_asked_round : Cal P w K mg base "_law_asked_round" 5 ["out", "back", "beats"] (SpF A 3 c_law_asked_round) := ⟨f_law_asked_round, fd_law_asked_round, ok_law_asked_round_, m_law_asked_round, F_law_asked_round.kp, b_law_asked_round⟩
  have ok_law_round_trip_ := ok_law_round_trip (P := P) (w := w) (base := base) F_law_round_trip Tx C_law_apart C_law_asked_read C_law_asked_text C_law_same
  have C_law_round_trip : Cal P w K mg base "_law_round_trip" 10 ["flags"] (SpU A 1 c_law_round_trip) := ⟨f_law_round_trip, fd_law_round_trip, ok_law_round_trip_, m_law_round_trip, F_law_round_trip.kp, b_law_round_trip⟩
  have ok_law_bad_texts_ := ok_law_bad_texts (P := P) (w := w) (base := base) F_law_bad_texts Tx C_law_asked_read C_law_asked_text C_law_not_dots C_law_not_upto C_law_same C_law_strange
  have C_law_bad_texts : Cal P w K mg base "_law_bad_texts" 10 ["store", "flags"] (SpU A 2 c_law_bad_texts) := ⟨f_law_bad_texts, fd_law_bad_texts, ok_law_bad_texts_, m_law_bad_texts, F_law_bad_texts.kp, b_law_bad_texts⟩
  have ok_law_repeats_ := ok_law_repeats (P := P) (w := w) (base := base) F_law_repeats Tx 
  have C_law_repeats : Cal P w K mg base "_law_repeats" 1 ["out", "back", "flags"] (SpU A 3 c_law_repeats) := ⟨f_law_repeats, fd_law_repeats, ok_law_repeats_, m_law_repeats, F_law_repeats.kp, b_law_repeats⟩
  have ok_law_round_right_ := ok_law_round_right (P := P) (w := w) (base := base) F_law_round_right Tx C_law_apart C_law_asked_round C_law_is_int C_law_repeats C_law_round_trip C_law_same
  have C_law_round_right : Cal P w K mg base "_law_round_right" 11 ["out", "back", "beats"] (SpU A 3 c_law_round_right) := ⟨f_law_round_right, fd_law_round_right, ok_law_round_right_, m_law_round_right, F_law_round_right.kp, b_law_round_right⟩
  have ok_law_bad_rounds_ := ok_law_bad_rounds (P := P) (w := w) (base := base) F_law_bad_rounds Tx C_law_asked_round C_law_not_number C_law_same C_law_take
  have C_law_bad_rounds : Cal P w K mg base "_law_bad_rounds" 9 ["store", "out", "back"] (SpU A 3 c_law_bad_rounds) := ⟨f_law_bad_rounds, fd_law_bad_rounds, ok_law_bad_rounds_, m_law_bad_rounds, F_law_bad_rounds.kp, b_law_bad_rounds⟩
  exact ok_law F_law Tx C_law_bad_rounds C_law_bad_texts C_law_edge C_law_pattern C_law_round_right C_law_round_trip C_law_small C_law_store C_law_take
end Mt
namespace Mt
open PySem PySem.Spec PyProof.Rows L2 L2H
theorem factsX {P : Program} {w : World} {K : PySem.W.Frag} {h : Heap} {mg : Str → Option Value} {f : Addr} (X : K.In h) (G : h.Ns mainGlobals mg) (hfa : mg "law" = some (.ref f)) (c : SaysX fxs fnl K) :
    ∃ fd : FuncData, (∀ (s : Shared) (v : Value), BindsTo s fd ⟨[v], []⟩ [("script", v)]) ∧ ∀ base : Heap, K.In base → base.Ns mainGlobals mg → FnOk P w K mg base CX0 12 f fd ["script"] (sp_law K) := by
  obtain ⟨nm_bn, q_bn, N_bn, bs_bn, bm_bn, sn_bn, sub_bn, ab_bn, col_bn, dd_bn, e0_bn, e1_bn, e2_bn, e3_bn, e5_bn, xL_bn, xR_bn⟩ := excB_ok (c.fact 25 (f := fa_25) rfl)
  obtain ⟨nm_bs, q_bs, N_bs, bs_bs, bm_bs, sn_bs, sub_bs, ab_bs, col_bs, dd_bs, e0_bs, e1_bs, e2_bs, e3_bs, e5_bs, xL_bs, xR_bs⟩ := excB_ok (c.fact 50 (f := fa_50) rfl)
  obtain ⟨nm_be, q_be, N_be, bs_be, bm_be, sn_be, sub_be, ab_be, col_be, dd_be, e0_be, e1_be, e2_be, e3_be, e5_be, xL_be, xR_be⟩ := excB_ok (c.fact 75 (f := fa_75) rfl)
  obtain ⟨nm_bt, q_bt, N_bt, bs_bt, bm_bt, sn_bt, sub_bt, ab_bt, col_bt, dd_bt, e0_bt, e1_bt, e2_bt, e3_bt, e5_bt, xL_bt, xR_bt⟩ := excB_ok (c.fact 100 (f := fa_100) rfl)
  obtain ⟨fd_D_is_whole, F_D_is_whole⟩ := c.def_ 4 (d := fd_4) rfl
  obtain ⟨fd_D_check_number, F_D_check_number⟩ := c.def_ 5 (d := fd_5) rfl
  obtain ⟨fd_D_check_element, F_D_check_element⟩ := c.def_ 6 (d := fd_6) rfl
  obtain ⟨fd_D_check_list, F_D_check_list⟩ := c.def_ 7 (d := fd_7) rfl
  obtain ⟨fd_D_check_entries, F_D_check_entries⟩ := c.def_ 8 (d := fd_8) rfl
  obtain ⟨fd_D_check_pattern, F_D_check_pattern, G_D_check_pattern⟩ := c.defD 9 (d := fd_9) (c.fact 145 (f := fa_145) rfl) rfl
  obtain ⟨fd_D_round_pattern, F_D_round_pattern⟩ := c.def_ 10 (d := fd_10) rfl
  obtain ⟨fd_D_pattern_text, F_D_pattern_text⟩ := c.def_ 11 (d := fd_11) rfl
  obtain ⟨fd_D_read_pattern, F_D_read_pattern⟩ := c.def_ 12 (d := fd_12) rfl
  obtain ⟨fd_D_law_mixed, F_D_law_mixed⟩ := c.def_ 13 (d := fd_13) rfl
  obtain ⟨fd_D_law_store, F_D_law_store⟩ := c.def_ 14 (d := fd_14) rfl
  obtain ⟨fd_D_law_take, F_D_law_take⟩ := c.def_ 15 (d := fd_15) rfl
  obtain ⟨fd_D_law_edge, F_D_law_edge⟩ := c.def_ 16 (d := fd_16) rfl
  obtain ⟨fd_D_law_small, F_D_law_small⟩ := c.def_ 17 (d := fd_17) rfl
  obtain ⟨fd_D_law_is_int, F_D_law_is_int⟩ := c.def_ 18 (d := fd_18) rfl
  obtain ⟨fd_D_law_same, F_D_law_same⟩ := c.def_ 19 (d := fd_19) rfl
  obtain ⟨fd_D_law_copy, F_D_law_copy⟩ := c.def_ 20 (d := fd_20) rfl
  obtain ⟨fd_D_law_lists, F_D_law_lists⟩ := c.def_ 21 (d := fd_21) rfl
  obtain ⟨fd_D_law_apart, F_D_law_apart⟩ := c.def_ 22 (d := fd_22) rfl
  obtain ⟨fd_D_law_char, F_D_law_char⟩ := c.def_ 23 (d := fd_23) rfl
  obtain ⟨fd_D_law_text, F_D_law_text⟩ := c.def_ 24 (d := fd_24) rfl
  obtain ⟨fd_D_law_strange, F_D_law_strange⟩ := c.def_ 25 (d := fd_25) rfl
  obtain ⟨fd_D_law_not_number, F_D_law_not_number⟩ := c.def_ 26 (d := fd_26) rfl
  obtain ⟨fd_D_law_not_list, F_D_law_not_list⟩ := c.def_ 27 (d := fd_27) rfl
  obtain ⟨fd_D_law_not_upto, F_D_law_not_upto⟩ := c.def_ 28 (d := fd_28) rfl
  obtain ⟨fd_D_law_kind, F_D_law_kind⟩ := c.def_ 29 (d := fd_29) rfl
  obtain ⟨fd_D_law_flags, F_D_law_flags⟩ := c.def_ 30 (d := fd_30) rfl
  obtain ⟨fd_D_law_pattern, F_D_law_pattern⟩ := c.def_ 31 (d := fd_31) rfl
  obtain ⟨fd_D_law_dots, F_D_law_dots⟩ := c.def_ 32 (d := fd_32) rfl
  obtain ⟨fd_D_law_not_dots, F_D_law_not_dots⟩ := c.def_ 33 (d := fd_33) rfl
  obtain ⟨fd_D_law_asked_read, F_D_law_asked_read⟩ := c.def_ 34 (d := fd_34) rfl
  obtain ⟨fd_D_law_asked_text, F_D_law_asked_text⟩ := c.def_ 35 (d := fd_35) rfl
  obtain ⟨fd_D_law_asked_round, F_D_law_asked_round⟩ := c.def_ 36 (d := fd_36) rfl
  obtain ⟨fd_D_law_round_trip, F_D_law_round_trip⟩ := c.def_ 37 (d := fd_37) rfl
  obtain ⟨fd_D_law_bad_texts, F_D_law_bad_texts⟩ := c.def_ 38 (d := fd_38) rfl
  obtain ⟨fd_D_law_repeats, F_D_law_repeats⟩ := c.def_ 39 (d := fd_39) rfl
  obtain ⟨fd_D_law_round_right, F_D_law_round_right⟩ := c.def_ 40 (d := fd_40) rfl
  obtain ⟨fd_D_law_bad_rounds, F_D_law_bad_rounds⟩ := c.def_ 41 (d := fd_41) rfl
  obtain ⟨fd_D_law, F_D_law⟩ := c.def_ 42 (d := fd_42) rfl
  exact all_mk X G hfa (of_decide_eq_true (c.fact 0 (f := fa_0) rfl)) (of_decide_eq_true (c.fact 1 (f := fa_1) rfl)) (of_decide_eq_true (c.fact 2 (f := fa_2) rfl)) (of_decide_eq_true (c.fact 3 (f := fa_3) rfl)) (of_decide_eq_true (c.fact 4 (f := fa_4) rfl)) (of_decide_eq_true (c.fact 5 (f := fa_5) rfl)) (of_decide_eq_true (c.fact 6 (f := fa_6) rfl)) (of_decide_eq_true (c.fact 7 (f := fa_7) rfl)) (of_decide_eq_true (c.fact 8 (f := fa_8) rfl)) (of_decide_eq_true (c.fact 9 (f := fa_9) rfl)) (of_decide_eq_true (c.fact 10 (f := fa_10) rfl)) (of_decide_eq_true (c.fact 11 (f := fa_11) rfl)) (of_decide_eq_true (c.fact 12 (f := fa_12) rfl)) (of_decide_eq_true (c.fact 13 (f := fa_13) rfl)) (of_decide_eq_true (c.fact 14 (f := fa_14) rfl)) (of_decide_eq_true (c.fact 15 (f := fa_15) rfl)) (of_decide_eq_true (c.fact 16 (f := fa_16) rfl)) (of_decide_eq_true (c.fact 17 (f := fa_17) rfl)) (of_decide_eq_true (c.fact 18 (f := fa_18) rfl)) (of_decide_eq_true (c.fact 19 (f := fa_19) rfl)) (of_decide_eq_true (c.fact 20 (f := fa_20) rfl)) (of_decide_eq_true (c.fact 21 (f := fa_21) rfl)) (of_decide_eq_true (c.fact 22 (f := fa_22) rfl)) (of_decide_eq_true (c.fact 23 (f := fa_23) rfl)) (of_decide_eq_true (c.fact 24 (f := fa_24) rfl)) xL_bn xR_bn (of_decide_eq_true (c.fact 26 (f := fa_26) rfl)) (of_decide_eq_true (c.fact 27 (f := fa_27) rfl)) (of_decide_eq_true (c.fact 28 (f := fa_28) rfl)) (of_decide_eq_true (c.fact 29 (f := fa_29) rfl)) (of_decide_eq_true (c.fact 30 (f := fa_30) rfl)) (of_decide_eq_true (c.fact 31 (f := fa_31) rfl)) (of_decide_eq_true (c.fact 32 (f := fa_32) rfl)) (c.def_ 0 (d := fd_0) rfl) (of_decide_eq_true (c.fact 33 (f := fa_33) rfl)) (of_decide_eq_true (c.fact 34 (f := fa_34) rfl)) (of_decide_eq_true (c.fact 35 (f := fa_35) rfl)) (of_decide_eq_true (c.fact 36 (f := fa_36) rfl)) (of_decide_eq_true (c.fact 37 (f := fa_37) rfl)) (of_decide_eq_true (c.fact 38 (f := fa_38) rfl)) (of_decide_eq_true (c.fact 39 (f := fa_39) rfl)) (of_decide_eq_true (c.fact 40 (f := fa_40) rfl)) (of_decide_eq_true (c.fact 41 (f := fa_41) rfl)) (of_decide_eq_true (c.fact 42 (f := fa_42) rfl)) (of_decide_eq_true (c.fact 43 (f := fa_43) rfl)) (of_decide_eq_true (c.fact 44 (f := fa_44) rfl)) (of_decide_eq_true (c.fact 45 (f := fa_45) rfl)) (of_decide_eq_true (c.fact 46 (f := fa_46) rfl)) (of_decide_eq_true (c.fact 47 (f := fa_47) rfl)) (of_decide_eq_true (c.fact 48 (f := fa_48) rfl)) (of_decide_eq_true (c.fact 49 (f := fa_49) rfl)) xL_bs xR_bs (of_decide_eq_true (c.fact 51 (f := fa_51) rfl)) (of_decide_eq_true (c.fact 52 (f := fa_52) rfl)) (of_decide_eq_true (c.fact 53 (f := fa_53) rfl)) (of_decide_eq_true (c.fact 54 (f := fa_54) rfl)) (of_decide_eq_true (c.fact 55 (f := fa_55) rfl)) (of_decide_eq_true (c.fact 56 (f := fa_56) rfl)) (of_decide_eq_true (c.fact 57 (f := fa_57) rfl)) (c.def_ 1 (d := fd_1) rfl) (of_decide_eq_true (c.fact 58 (f := fa_58) rfl)) (of_decide_eq_true (c.fact 59 (f := fa_59) rfl)) (of_decide_eq_true (c.fact 60 (f := fa_60) rfl)) (of_decide_eq_true (c.fact 61 (f := fa_61) rfl)) (of_decide_eq_true (c.fact 62 (f := fa_62) rfl)) (of_decide_eq_true (c.fact 63 (f := fa_63) rfl)) (of_decide_eq_true (c.fact 64 (f := fa_64) rfl)) (of_decide_eq_true (c.fact 65 (f := fa_65) rfl)) (of_decide_eq_true (c.fact 66 (f := fa_66) rfl)) (of_decide_eq_true (c.fact 67 (f := fa_67) rfl)) (of_decide_eq_true (c.fact 68 (f := fa_68) rfl)) (of_decide_eq_true (c.fact 69 (f := fa_69) rfl)) (of_decide_eq_true (c.fact 70 (f := fa_70) rfl)) (of_decide_eq_true (c.fact 71 (f := fa_71) rfl)) (of_decide_eq_true (c.fact 72 (f := fa_72) rfl)) (of_decide_eq_true (c.fact 73 (f := fa_73) rfl)) (of_decide_eq_true (c.fact 74 (f := fa_74) rfl)) xL_be xR_be (of_decide_eq_true (c.fact 76 (f := fa_76) rfl)) (of_decide_eq_true (c.fact 77 (f := fa_77) rfl)) (of_decide_eq_true (c.fact 78 (f := fa_78) rfl)) (of_decide_eq_true (c.fact 79 (f := fa_79) rfl)) (of_decide_eq_true (c.fact 80 (f := fa_80) rfl)) (of_decide_eq_true (c.fact 81 (f := fa_81) rfl)) (of_decide_eq_true (c.fact 82 (f := fa_82) rfl)) (c.def_ 2 (d := fd_2) rfl) (of_decide_eq_true (c.fact 83 (f := fa_83) rfl)) (of_decide_eq_true (c.fact 84 (f := fa_84) rfl)) (of_decide_eq_true (c.fact 85 (f := fa_85) rfl)) (of_decide_eq_true (c.fact 86 (f := fa_86) rfl)) (of_decide_eq_true (c.fact 87 (f := fa_87) rfl)) (of_decide_eq_true (c.fact 88 (f := fa_88) rfl)) (of_decide_eq_true (c.fact 89 (f := fa_89) rfl)) (of_decide_eq_true (c.fact 90 (f := fa_90) rfl)) (of_decide_eq_true (c.fact 91 (f := fa_91) rfl)) (of_decide_eq_true (c.fact 92 (f := fa_92) rfl)) (of_decide_eq_true (c.fact 93 (f := fa_93) rfl)) (of_decide_eq_true (c.fact 94 (f := fa_94) rfl)) (of_decide_eq_true (c.fact 95 (f := fa_95) rfl)) (of_decide_eq_true (c.fact 96 (f := fa_96) rfl)) (of_decide_eq_true (c.fact 97 (f := fa_97) rfl)) (of_decide_eq_true (c.fact 98 (f := fa_98) rfl)) (of_decide_eq_true (c.fact 99 (f := fa_99) rfl)) xL_bt xR_bt (of_decide_eq_true (c.fact 101 (f := fa_101) rfl)) (of_decide_eq_true (c.fact 102 (f := fa_102) rfl)) (of_decide_eq_true (c.fact 103 (f := fa_103) rfl)) (of_decide_eq_true (c.fact 104 (f := fa_104) rfl)) (of_decide_eq_true (c.fact 105 (f := fa_105) rfl)) (of_decide_eq_true (c.fact 106 (f := fa_106) rfl)) (of_decide_eq_true (c.fact 107 (f := fa_107) rfl)) (c.def_ 3 (d := fd_3) rfl) (of_decide_eq_true (c.fact 108 (f := fa_108) rfl)) (of_decide_eq_true (c.fact 109 (f := fa_109) rfl)) (of_decide_eq_true (c.fact 110 (f := fa_110) rfl)) (of_decide_eq_true (c.fact 111 (f := fa_111) rfl)) (of_decide_eq_true (c.fact 112 (f := fa_112) rfl)) (of_decide_eq_true (c.fact 113 (f := fa_113) rfl)) (of_decide_eq_true (c.fact 114 (f := fa_114) rfl)) (of_decide_eq_true (c.fact 115 (f := fa_115) rfl)) (of_decide_eq_true (c.fact 116 (f := fa_116) rfl)) (of_decide_eq_true (c.fact 117 (f := fa_117) rfl)) (of_decide_eq_true (c.fact 118 (f := fa_118) rfl)) (of_decide_eq_true (c.fact 119 (f := fa_119) rfl)) (of_decide_eq_true (c.fact 120 (f := fa_120) rfl)) (of_decide_eq_true (c.fact 121 (f := fa_121) rfl)) (of_decide_eq_true (c.fact 122 (f := fa_122) rfl)) (of_decide_eq_true (c.fact 123 (f := fa_123) rfl)) (of_decide_eq_true (c.fact 124 (f := fa_124) rfl)) (of_decide_eq_true (c.fact 125 (f := fa_125) rfl)) (of_decide_eq_true (c.fact 126 (f := fa_126) rfl)) (of_decide_eq_true (c.fact 127 (f := fa_127) rfl)) (of_decide_eq_true (c.fact 128 (f := fa_128) rfl)) (of_decide_eq_true (c.fact 129 (f := fa_129) rfl)) (of_decide_eq_true (c.fact 130 (f := fa_130) rfl)) (of_decide_eq_true (c.fact 131 (f := fa_131) rfl)) (of_decide_eq_true (c.fact 132 (f := fa_132) rfl)) (of_decide_eq_true (c.fact 133 (f := fa_133) rfl)) (of_decide_eq_true (c.fact 134 (f := fa_134) rfl)) (of_decide_eq_true (c.fact 135 (f := fa_135) rfl)) (of_decide_eq_true (c.fact 136 (f := fa_136) rfl)) (of_decide_eq_true (c.fact 137 (f := fa_137) rfl)) (of_decide_eq_true (c.fact 138 (f := fa_138) rfl)) (of_decide_eq_true (c.fact 139 (f := fa_139) rfl)) ⟨_, fd_D_is_whole, (of_decide_eq_true (c.fact 140 (f := fa_140) rfl)), F_D_is_whole⟩ ⟨_, fd_D_check_number, (of_decide_eq_true (c.fact 141 (f := fa_141) rfl)), F_D_check_number⟩ ⟨_, fd_D_check_element, (of_decide_eq_true (c.fact 142 (f := fa_142) rfl)), F_D_check_element⟩ ⟨_, fd_D_check_list, (of_decide_eq_true (c.fact 143 (f := fa_143) rfl)), F_D_check_list⟩ ⟨_, fd_D_check_entries, (of_decide_eq_true (c.fact 144 (f := fa_144) rfl)), F_D_check_entries⟩ ⟨_, fd_D_check_pattern, (of_decide_eq_true (c.fact 146 (f := fa_146) rfl)), F_D_check_pattern, G_D_check_pattern⟩ ⟨_, fd_D_round_pattern, (of_decide_eq_true (c.fact 147 (f := fa_147) rfl)), F_D_round_pattern⟩ ⟨_, fd_D_pattern_text, (of_decide_eq_true (c.fact 148 (f := fa_148) rfl)), F_D_pattern_text⟩ ⟨_, fd_D_read_pattern, (of_decide_eq_true (c.fact 149 (f := fa_149) rfl)), F_D_read_pattern⟩ ⟨_, fd_D_law_mixed, (of_decide_eq_true (c.fact 150 (f := fa_150) rfl)), F_D_law_mixed⟩ ⟨_, fd_D_law_store, (of_decide_eq_true (c.fact 151 (f := fa_151) rfl)), F_D_law_store⟩ ⟨_, fd_D_law_take, (of_decide_eq_true (c.fact 152 (f := fa_152) rfl)), F_D_law_take⟩ ⟨_, fd_D_law_edge, (of_decide_eq_true (c.fact 153 (f := fa_153) rfl)), F_D_law_edge⟩ ⟨_, fd_D_law_small, (of_decide_eq_true (c.fact 154 (f := fa_154) rfl)), F_D_law_small⟩ ⟨_, fd_D_law_is_int, (of_decide_eq_true (c.fact 155 (f := fa_155) rfl)), F_D_law_is_int⟩ ⟨_, fd_D_law_same, (of_decide_eq_true (c.fact 156 (f := fa_156) rfl)), F_D_law_same⟩ ⟨_, fd_D_law_copy, (of_decide_eq_true (c.fact 157 (f := fa_157) rfl)), F_D_law_copy⟩ ⟨_, fd_D_law_lists, (of_decide_eq_true (c.fact 158 (f := fa_158) rfl)), F_D_law_lists⟩ ⟨_, fd_D_law_apart, (of_decide_eq_true (c.fact 159 (f := fa_159) rfl)), F_D_law_apart⟩ ⟨_, fd_D_law_char, (of_decide_eq_true (c.fact 160 (f := fa_160) rfl)), F_D_law_char⟩ ⟨_, fd_D_law_text, (of_decide_eq_true (c.fact 161 (f := fa_161) rfl)), F_D_law_text⟩ ⟨_, fd_D_law_strange, (of_decide_eq_true (c.fact 162 (f := fa_162) rfl)), F_D_law_strange⟩ ⟨_, fd_D_law_not_number, (of_decide_eq_true (c.fact 163 (f := fa_163) rfl)), F_D_law_not_number⟩ ⟨_, fd_D_law_not_list, (of_decide_eq_true (c.fact 164 (f := fa_164) rfl)), F_D_law_not_list⟩ ⟨_, fd_D_law_not_upto, (of_decide_eq_true (c.fact 165 (f := fa_165) rfl)), F_D_law_not_upto⟩ ⟨_, fd_D_law_kind, (of_decide_eq_true (c.fact 166 (f := fa_166) rfl)), F_D_law_kind⟩ ⟨_, fd_D_law_flags, (of_decide_eq_true (c.fact 167 (f := fa_167) rfl)), F_D_law_flags⟩ ⟨_, fd_D_law_pattern, (of_decide_eq_true (c.fact 168 (f := fa_168) rfl)), F_D_law_pattern⟩ ⟨_, fd_D_law_dots, (of_decide_eq_true (c.fact 169 (f := fa_169) rfl)), F_D_law_dots⟩ ⟨_, fd_D_law_not_dots, (of_decide_eq_true (c.fact 170 (f := fa_170) rfl)), F_D_law_not_dots⟩ ⟨_, fd_D_law_asked_read, (of_decide_eq_true (c.fact 171 (f := fa_171) rfl)), F_D_law_asked_read⟩ ⟨_, fd_D_law_asked_text, (of_decide_eq_true (c.fact 172 (f := fa_172) rfl)), F_D_law_asked_text⟩ ⟨_, fd_D_law_asked_round, (of_decide_eq_true (c.fact 173 (f := fa_173) rfl)), F_D_law_asked_round⟩ ⟨_, fd_D_law_round_trip, (of_decide_eq_true (c.fact 174 (f := fa_174) rfl)), F_D_law_round_trip⟩ ⟨_, fd_D_law_bad_texts, (of_decide_eq_true (c.fact 175 (f := fa_175) rfl)), F_D_law_bad_texts⟩ ⟨_, fd_D_law_repeats, (of_decide_eq_true (c.fact 176 (f := fa_176) rfl)), F_D_law_repeats⟩ ⟨_, fd_D_law_round_right, (of_decide_eq_true (c.fact 177 (f := fa_177) rfl)), F_D_law_round_right⟩ ⟨_, fd_D_law_bad_rounds, (of_decide_eq_true (c.fact 178 (f := fa_178) rfl)), F_D_law_bad_rounds⟩ ⟨_, fd_D_law, (of_decide_eq_true (c.fact 179 (f := fa_179) rfl)), F_D_law⟩
end Mt
open PySem PySem.W PySem.Calls PyProof.Rows
theorem PySem.Challenge.cw_mendsontime_k31_pattern_text_round_trip_holds : PySem.Challenge.rw_mendsontime_k31_pattern_text_round_trip.Holds := by
  w_on; o_law
  refine HandSHeadRun.head_any (r := (OpenLaw.row PySem.Challenge.rw_mendsontime_k31_pattern_text_round_trip)) (q := view (OpenLaw.row PySem.Challenge.rw_mendsontime_k31_pattern_text_round_trip).prog [53]) (H := Mt.hkX) (ob := Mt.obX) (M := 30000) (loose := Mt.nmX) (d := HandSHeadRun.topDef (OpenLaw.row PySem.Challenge.rw_mendsontime_k31_pattern_text_round_trip).prog 53) (kwd := []) Mt.obX_eq
    (by kernel_rfl) (fun s => by kernel_rfl) Mt.headX (by kernel_rfl) (by kernel_rfl) (by kernel_rfl) (by rfl) (by first | assumption | decide +kernel) (by decide +kernel) ⟨rfl, rfl, rfl, rfl, rfl, by decide +kernel⟩ ?hw ?hc
  case hw => w_witness2
  case hc =>
    refine Mt.walk_ofX (l := PySem.Challenge.rw_mendsontime_k31_pattern_text_round_trip) (n := 63) (k := 12) (x := "script") (CX := fun w => L2.CX0) rfl (by decide) (by kernel_rfl) ⟨rfl, by decide, by decide⟩ ?F (fun _ _ _ _ _ h => h)
    intro w mg fa h Y G hmg0
    obtain ⟨K, KX, c⟩ := Y
    have hmg : mg ("law" : PySem.Str) = some (.ref fa) := by
      have e : (HandSHeadRun.topDef (OpenLaw.row PySem.Challenge.rw_mendsontime_k31_pattern_text_round_trip).prog 53).name = ("law" : PySem.Str) := by kernel_rfl
      rw [← e]
      exact hmg0
    obtain ⟨fd, hb, hF⟩ := Mt.factsX (P := (PySem.Challenge.rw_mendsontime_k31_pattern_text_round_trip).prog) (w := w) KX G hmg c
    exact ⟨K, fd, Mt.sp_law K, KX, hb, fun H a ns hl _ hS => ⟨a, ns, rfl, hS, hl, fun _ => rfl⟩, hF⟩
