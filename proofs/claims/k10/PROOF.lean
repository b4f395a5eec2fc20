import PyProof.Rows.All
import Wide.All
import OpenK.AllK
import Wide.FinOn
import KE.KDictList
import KE.KCallOwn
import PyProof.InstEq
import KE.KFmtOwn
import PyProof.JoinWalk
import PyProof.CollectIter
import PyProof.DictWalks
import PyProof.SetRoads
import PyProof.EnumMake
import PyProof.Draws
import KE.KDictZip
import KE.GoesZip
import PyProof.DictCopy
import PyProof.DictUpdate
import PyProof.DictDisplay
import PyProof.TupleOfSeq
import KE.SortData
import PyProof.ReprRoads
import PyProof.CallFns
import HandS.ForMost
import HandS.More
import HandS.IsInst
import HandS.DictComp
import HandS.Property
import HandS.Star
import HandS.TupMul
import HandS.TupAny
import HandS.Deep
import HandS.Wide
import HandS.Walk
import HandS.Head0
import HandS.Head1
import HandS.Head2
import HandS.HeadHook1
import HandS.HeadHook2
import HandS.HeadHook3
import HandS.HeadHook4
import HandS.HeadWalk
import HandS.Conv
import HandS.Replace
import HandS.FStr
import HandS.DeepEq
import HandS.SetBool
import HandS.Strs
import HandS.SetFor
import HandS.TupSets
import HandS.Small
import HandS.SetKeys
import HandS.Zip0
import HandS.Zip
import HandS.ListItems
import HandS.Dict
import HandS.Base
import HandS.Call
import HandS.Exc
import HandS.TryMany
import HandS.Set
import HandS.WordsDict
import HandS.NoneIn
import HandS.Style
import HandS.Finally
import HandS.List
import HandS.OwnEq
import HandS.Sort
import HandS.TryOnly
import HandS.EndTab
import PySem.Challenge.RW_teamtells_k10_plans_told
set_option Elab.async false
set_option linter.all false
set_option maxRecDepth 100000
set_option maxHeartbeats 2000000
/-! Rules of my own beside the hand layer. -/
namespace Tm
open PySem PySem.Spec PyProof.Rows L2

/-! ### v in o, v not in o: the class has a method for it -/
structure InM (K : PySem.W.Frag) (C f : Addr) : Prop where
  fnd : PySem.W.findIn K (.ref C) "__contains__" = some (some (.ref f))
  isf : PySem.W.isFn K (.ref f) = true
def rInO (C : Addr) (sp : Sp) (E : XK) (neg : Bool) : R2 := fun x y H Q => ∃ a dx fs, y = .ref a ∧ H a = some (.ins C dx fs) ∧
  sp [.ref a, x] H (fun v H' => ∃ b : Bool, v = .bl b ∧ Q (.bl (if neg then !b else b)) H') E
section
variable {X : Cx} {CX : CXT} {k : Nat} {C f : Addr} {fd : FuncData} {ps : List Str} {sp : Sp} {E : XK}
theorem in_run (M : InM X.K C f) (F : FnOk X.prog X.w X.K X.mg X.base CX k f fd ps sp) (hr : Room k X.A) (hb : Binds X.K fd ps []) (hx : Passes CX X E)
    {pins : List (Addr × Obj)} {σ : L2.St} {H : Hp} {s : Shared} {x : V} {v : Value} {a dx : Addr} {fs : List (Str × V)} {Q : Bool → VK} (I : Inv X pins σ H s) (rx : RelV x v) (ha : H a = some (.ins C dx fs))
    (g : Bool → Bool) (hq : sp [.ref a, x] H (fun v H' => ∃ b : Bool, v = .bl b ∧ Q b (.bl (g b)) H') E) :
    wpAny (model X.prog X.w) X.A (call (.ref f) [.ref a, v]) (fun r s' => wpAny (model X.prog X.w) X.A (truthy r) (fun b => EP X pins σ (Q b) (.bool (g b))) X.xe s') X.xe s := by
  have hv : Vals [V.ref a, x] [Value.ref a, v] := .cons rfl (.cons rx .nil)
  have run := run_fn (us := [.ref a, v]) (vs := [.ref a, x]) (Q := fun v H' => ∃ b : Bool, v = .bl b ∧ Q b (.bl (g b)) H') F hr hb .nil hx I hv (by simpa using hq)
  refine wpAny_mono run (fun r s' z => ?_) fun _ _ z => z
  obtain ⟨w, H', I', rw', b, ew, q⟩ := z
  subst ew
  have e : r = Value.bool b := rw'
  subst e
  exact wpAny_truthy_bool ⟨.bl (g b), H', I', rfl, q⟩
theorem op_inO (M : InM X.K C f) (F : FnOk X.prog X.w X.K X.mg X.base CX k f fd ps sp) (hr : Room k X.A) (hb : Binds X.K fd ps []) (hx : Passes CX X E) : OpR X (compareOp .In) (rInO C sp E false) := by
  intro pins s σ H x y v u Q I rx ry h
  obtain ⟨a, dx, fs, ey, ha, hq⟩ := h
  subst ey
  cases ry
  obtain ⟨mA, O, _⟩ := ins_get I.hok ha
  obtain ⟨od, J, _⟩ := O.look
  obtain ⟨m, hF⟩ := I.fr
  exact PySem.W.in_K hF I.ok.mod.kin J M.fnd M.isf (in_run (Q := fun _ => Q) M F hr hb hx I rx ha (fun b => b) (by simpa using hq))
theorem op_notInO (M : InM X.K C f) (F : FnOk X.prog X.w X.K X.mg X.base CX k f fd ps sp) (hr : Room k X.A) (hb : Binds X.K fd ps []) (hx : Passes CX X E) : OpR X (compareOp .NotIn) (rInO C sp E true) := by
  intro pins s σ H x y v u Q I rx ry h
  obtain ⟨a, dx, fs, ey, ha, hq⟩ := h
  subst ey
  cases ry
  obtain ⟨mA, O, _⟩ := ins_get I.hok ha
  obtain ⟨od, J, _⟩ := O.look
  obtain ⟨m, hF⟩ := I.fr
  exact PySem.W.notIn_K hF I.ok.mod.kin J M.fnd M.isf (in_run (Q := fun _ => Q) M F hr hb hx I rx ha (fun b => !b) (by simpa using hq))
end
/-! ### list(e.values()) -/
def tListVals (te : TE) : TE := fun σ H Q => te σ H fun x H1 => ∃ (d : Addr) (kvs : List (L2.Key × V)), x = .ref d ∧ H1 d = some (.dK kvs) ∧ ∀ p, H1 p = none → Q (.ref p) (upd H1 p (.lst (kvs.map (·.2))))
theorem kvals_map : ∀ {kvs : List (L2.Key × V)} {vs : List (L2.Key × Value)}, KV kvs vs → Vals (kvs.map (·.2)) (vs.map (·.2))
  | _, _, .nil => .nil
  | _, _, .cons r t => .cons r.2 (kvals_map t)
theorem vals_of_ix {vs : List (L2.Key × Value)} (acc : List Value) (hl : acc.length = vs.length) (h : ∀ (i : Nat) (v : Value), acc[i]? = some v → ∃ k : L2.Key, vs[i]? = some (k, v)) : acc = vs.map (·.2) := by
  apply List.ext_getElem?
  intro i
  rw [List.getElem?_map]
  cases e : acc[i]? with
  | none =>
    have : vs.length ≤ i := by rw [← hl]; exact List.getElem?_eq_none_iff.mp e
    rw [List.getElem?_eq_none_iff.mpr this]; rfl
  | some v =>
    obtain ⟨k, hk⟩ := h i v e
    rw [hk]; rfl
section
variable {X : Cx} {e : Expr} {te : TE} {p apos cpos pos : Pos}
theorem pe_listVals (hc : X.calm = true) (he : PE X e te) (hg : Gl X "list") (hm : X.mg "list" = none)
    (hb : attributeBase e "values" X.env (eval e X.env) = eval e X.env := by rfl) (hli : (apos.endLine == cpos.line) = true := by rfl)
    (hst : starEach [.Call (.Attribute e "values" apos) [] [] cpos] X.env = (false, eval (.Call (.Attribute e "values" apos) [] [] cpos) X.env) :: starEach [] X.env := by rfl) :
    PE X (.Call (.Name "list" p) [.Call (.Attribute e "values" apos) [] [] cpos] [] pos) (tListVals te) := by
  refine ⟨fun pins s σ H Q I hq => ?_⟩
  have hv : bootBuiltins "list" = some (.type "list") := by decide +kernel
  refine wpAny_Call_Name_kw (ld_blt I hg hm hv ?_)
  refine PyProof.Rows.callWith_type1 ?_ hst rfl
  rw [hst]
  show wpAny _ _ (spliced ((false, eval (.Call (.Attribute e "values" apos) [] [] cpos) X.env) :: backTo pos (starEach [] X.env))) _ _ s
  refine Calls.spliced_cons ?_
  have evd := he.run pins s σ H _ I hq
  refine wpAny_Call_method (T := "dict") (id := "dict.values") hb rfl hli F.plainAttrs_dict F.slot_dict_values F.type_dict_values (thn evd fun u s1 z => ?_)
  obtain ⟨x, H1, I1, rx, d, kvs, ex, hd, q⟩ := z
  subst ex
  have eu : u = Value.ref d := rx
  subst eu
  obtain ⟨hz, sys, vs, kv, hdo⟩ := I1.hok d _ hd
  obtain ⟨ep, hat⟩ := hdo.dictAt
  have lk : kvs.length = vs.length := Paired.length kv
  generalize hview : ({ cls := .type "dict_values", data := .fields #[.ref d] } : Obj) = view
  have I2 : Inv X pins σ H1 { s1 with heap := s1.heap.push view } := I1.kept (t' := s1.toks) fun b ob q => Heap.get?_push_of_some _ q
  refine ⟨hdo.typeIs, hdo.mapOf.noDict, ?_⟩
  show wpAny _ _ (callWith cpos (.builtin "dict.values") [.ref d] [] []) _ X.xe s1
  refine method_meetsIn F.slot_dict_values F.entry_dict_values rfl (PySem.evalArgs_none ⟨rfl, hdo.typeIs, F.args_dict_values_1 _, _, meets_dict_values (mixKind X.prog X.w) d sys, ⟨vs, hdo⟩, ?_⟩)
  subst hview
  refine Calls.spliced_nil ?_
  refine PySem.W.kdl_call (PySem.W.kdl_values (knd := mixKind X.prog X.w) (kvs := vs) (ep := ep)) (I1.ok.hd hc) ⟨⟨_, Heap.get?_push_size _ rfl, rfl, rfl⟩, hat.push _⟩ (by rw [← lk]; exact hz) fun h' tk acc c hk hS hacc => ?_
  have new : H1 (s1.heap.push ({ cls := .type "dict_values", data := .fields #[.ref d] } : Obj)).objs.size = none := I2.hok.fresh (Nat.le_refl _)
  have ea : acc.toList = vs.map (·.2) := vals_of_ix acc.toList (by rw [Array.length_toList]; exact hacc.1) fun i v hv' => hacc.2 i v (by rw [← Array.getElem?_toList]; exact hv')
  refine ⟨.ref _, _, I2.laid (t' := tk) (o := .lst (kvs.map (·.2))) hk (Nat.le_refl _) ⟨by rw [List.length_map]; exact hz, acc.toList, c, ?_, ?_⟩, rfl, q _ new⟩
  · rw [ea]; exact kvals_map kv
  · rw [Array.toArray_toList]; exact hS
end
end Tm

namespace Tm
open PySem PySem.Spec PyProof.Rows L2

/-! ### calls by name: a def of the top, a method, a property, the class -/
section
variable (P : Program) (w : World) (K : PySem.W.Frag) (mg : Str → Option Value) (base : Heap)
/-- the name x of the top stands for a def that keeps its promise -/
structure Ok (x : Str) (k : Nat) (ps : List Str) (sp : Sp) : Prop where
  ex : ∃ (f : Addr) (fd : FuncData), mg x = some (.ref f) ∧ PySem.W.keepIn K (.ref f) = true ∧ FnOk P w K mg base CX0 k f fd ps sp ∧ Binds K fd ps []
structure OkM (C : Addr) (m : Str) (k : Nat) (ps : List Str) (sp : Sp) : Prop where
  ex : ∃ (f : Addr) (fd : FuncData), Meth K C m f ∧ FnOk P w K mg base CX0 k f fd ps sp ∧ Binds K fd ps []
structure OkP (C : Addr) (m : Str) (k : Nat) (sp : Sp) : Prop where
  ex : ∃ (p g : Addr) (fd : FuncData), PropOf K C m p g ∧ FnOk P w K mg base CX0 k g fd ["self"] sp ∧ Binds K fd ["self"] []
structure OkC (x : Str) (C : Addr) (k : Nat) (ps : List Str) (sp : Sp) : Prop where
  ex : ∃ (f : Addr) (fd : FuncData), mg x = some (.ref C) ∧ Mk K C f ∧ FnOk P w K mg base CX0 k f fd ps sp ∧ Binds K fd ps []
structure OkIn (C : Addr) (k : Nat) (ps : List Str) (sp : Sp) : Prop where
  ex : ∃ (f : Addr) (fd : FuncData), InM K C f ∧ FnOk P w K mg base CX0 k f fd ps sp ∧ Binds K fd ps []
end
section
variable {X : Cx} {x m : Str} {k j : Nat} {C : Addr} {ps : List Str} {sp : Sp} {o e : Expr} {es : List Expr} {ta : TE} {t : TA} {p apos pos : Pos}
theorem Ok.call (O : Ok X.prog X.w X.K X.mg X.base x k ps sp) (hr : Room j X.A) (hk : k ≤ j := by decide) (ha : PA X (e :: es) t) (hg : Gl X x := by rfl) (hdb : (x == ("__debug__" : Str)) = false := by decide)
    (he : starEach (e :: es) X.env = (false, eval e X.env) :: starEach es X.env := by rfl) (hpl : (backTo pos (starEach es X.env)).any (·.1) = false := by rfl) :
    PE X (.Call (.Name x p) (e :: es) [] pos) (tCall sp [] E0 t) := by
  obtain ⟨f, fd, h1, h2, h3, h4⟩ := O.ex
  exact pe_call h3 (hr.mono hk) hg h1 h2 h4 .nil pass0 ha hdb he hpl
theorem Ok.call0 (O : Ok X.prog X.w X.K X.mg X.base x k ps sp) (hr : Room j X.A) (hk : k ≤ j := by decide) (hg : Gl X x := by rfl) (hdb : (x == ("__debug__" : Str)) = false := by decide) :
    PE X (.Call (.Name x p) [] [] pos) (tCall sp [] E0 tNil) := by
  obtain ⟨f, fd, h1, h2, h3, h4⟩ := O.ex
  exact pe_call0 h3 (hr.mono hk) hg h1 h2 h4 .nil pass0 hdb
theorem OkM.call {pl : Sem Bool} (O : OkM X.prog X.w X.K X.mg X.base C m k ps sp) (hr : Room j X.A) (c : Cls X.K C) (hk : k ≤ j := by decide) (he : PE X o ta) (ha : PA X (e :: es) t)
    (hst : starEach (e :: es) X.env = (false, eval e X.env) :: starEach es X.env := by rfl) (hpl : (backTo pos (starEach es X.env)).any (·.1) = false := by rfl)
    (ht : eval (.Call (.Attribute o m apos) (e :: es) [] pos) X.env = (do
      let v ← eval o X.env
      standAt apos.atName
      let (g, one) ← holding [v] (getMethod v m pl)
      callWith pos g one (backTo pos (starEach (e :: es) X.env)) (backToKw pos (keywordEach [] X.env))) := by rfl) :
    PE X (.Call (.Attribute o m apos) (e :: es) [] pos) (tMeth C m sp [] E0 ta t) := by
  obtain ⟨f, fd, h1, h2, h3⟩ := O.ex
  exact pe_meth he c h1 h2 (hr.mono hk) h3 .nil pass0 ha hst hpl ht
theorem OkP.get (O : OkP X.prog X.w X.K X.mg X.base C m k sp) (hr : Room j X.A) (c : Cls X.K C) (hk : k + 1 ≤ j := by decide) (he : PE X e ta) (hab : attributeBase e m X.env (eval e X.env) = eval e X.env := by rfl) :
    PE X (.Attribute e m pos) (tProp C sp [] E0 ta) := by
  obtain ⟨p, g, fd, h1, h2, h3⟩ := O.ex
  exact pe_prop he c h1 h2 (hr.mono hk) h3 .nil pass0 hab
theorem OkC.make (O : OkC X.prog X.w X.K X.mg X.base x C k ps sp) (hr : Room j X.A) (hk : k + 1 ≤ j := by decide) (ha : PA X (e :: es) t) (hg : Gl X x := by rfl) (hdb : (x == ("__debug__" : Str)) = false := by decide)
    (he : starEach (e :: es) X.env = (false, eval e X.env) :: starEach es X.env := by rfl) (hpl : (backTo pos (starEach es X.env)).any (·.1) = false := by rfl) :
    PE X (.Call (.Name x p) (e :: es) [] pos) (tMake C sp [] E0 t) := by
  obtain ⟨f, fd, h1, h2, h3, h4⟩ := O.ex
  exact pe_make h2 h3 (hr.mono hk) hg h1 h4 .nil pass0 ha hdb he hpl
theorem OkIn.isIn (O : OkIn X.prog X.w X.K X.mg X.base C k ps sp) (hr : Room j X.A) (hk : k ≤ j := by decide) : OpR X (compareOp .In) (rInO C sp E0 false) := by
  obtain ⟨f, fd, h1, h2, h3⟩ := O.ex
  exact op_inO h1 h2 (hr.mono hk) h3 pass0
theorem OkIn.notIn (O : OkIn X.prog X.w X.K X.mg X.base C k ps sp) (hr : Room j X.A) (hk : k ≤ j := by decide) : OpR X (compareOp .NotIn) (rInO C sp E0 true) := by
  obtain ⟨f, fd, h1, h2, h3⟩ := O.ex
  exact op_notInO h1 h2 (hr.mono hk) h3 pass0
end
/-! ### heaps that keep their tuples -/
def TupS (H H' : Hp) : Prop := ∀ a xs, H a = some (.tup xs) → H' a = some (.tup xs)
theorem tups_of {H H' : Hp} (e : Same H H') : TupS H H' := fun a xs h => e a _ h
theorem TupS.trans {H H1 H2 : Hp} (a : TupS H H1) (b : TupS H1 H2) : TupS H H2 := fun c xs h => b c xs (a c xs h)
theorem TupS.refl (H : Hp) : TupS H H := fun _ _ h => h
theorem tups_upd {H : Hp} {p : Addr} {o u : HO} (h : H p = some u) (hu : ∀ xs, u ≠ .tup xs) : TupS H (upd H p o) := fun a xs e => by
  rw [upd_ne (ne_of e h (fun z => hu xs z.symm))]; exact e
theorem same_new {H : Hp} {p : Addr} {o : HO} (h : H p = none) : Same H (upd H p o) := fun a u e => by
  rw [upd_ne (ne_of_none e h)]; exact e
theorem same_mut {H H' : Hp} {p : Addr} {o : HO} (e : Same H H') (h : H p = none) : Same H (upd H' p o) := fun a u ha => by
  rw [upd_ne (ne_of_none ha h)]; exact e a u ha
theorem sz_le {n : Nat} (h : n ≤ 100000) : n ≤ sizeLine := Nat.le_trans h (by decide)
theorem sz_lt {n : Nat} (h : n < 100000) : n < sizeLine := Nat.lt_of_lt_of_le h (by decide)

/-! ### what a reading gives, all that was tracked kept -/
def Ev (te : TE) (σ : L2.St) (H : Hp) (P : V → Hp → Prop) : Prop := ∀ Q : VK, (∀ v H', Same H H' → P v H' → Q v H') → te σ H Q
def EvT (t : TT) (σ : L2.St) (H : Hp) (b : Bool) : Prop := ∀ Q : Bool → Hp → Prop, (∀ H', Same H H' → Q b H') → t σ H Q
def EvA (t : TA) (σ : L2.St) (H : Hp) (P : List V → Hp → Prop) : Prop := ∀ Q : List V → Hp → Prop, (∀ vs H', Same H H' → P vs H' → Q vs H') → t σ H Q
section
variable {σ : L2.St} {H : Hp} {te ta tb : TE} {t : TA} {v x y : V} {P : V → Hp → Prop}
theorem Ev.imp {P' : V → Hp → Prop} (h : Ev te σ H P) (i : ∀ v H', Same H H' → P v H' → P' v H') : Ev te σ H P' := fun Q q => h Q fun v H' e p => q v H' e (i v H' e p)
theorem Ev.go {Q : VK} (h : Ev te σ H P) (q : ∀ v H', Same H H' → P v H' → Q v H') : te σ H Q := h Q q
theorem ev_is {i : Nat} (h : σ[i]? = some (some v)) (p : P v H) : Ev (tVar i) σ H P := fun Q q => ⟨v, h, q v H (Same.refl H) p⟩
theorem ev_c (p : P v H) : Ev (tC v) σ H P := fun Q q => q v H (Same.refl H) p
theorem eva_nil : EvA tNil σ H (fun vs _ => vs = []) := fun Q q => q [] H (Same.refl H) rfl
theorem eva_cons {P : V → Hp → Prop} {P2 : V → List V → Hp → Prop} (h : Ev te σ H P) (k : ∀ v H1, Same H H1 → P v H1 → EvA t σ H1 (P2 v)) : EvA (tCons te t) σ H (fun vs H' => ∃ v r H1, vs = v :: r ∧ Same H1 H' ∧ P v H1 ∧ P2 v r H') := fun Q q =>
  h _ fun v H1 e1 p1 => k v H1 e1 p1 _ fun r H2 e2 p2 => q (v :: r) H2 (e1.trans e2) ⟨v, r, H1, rfl, e2, p1, p2⟩
end
/-! ### comprehensions over any walk -/
/-- what the list at D is so far -/
def LcInv {α : Type} (H1 : Hp) (D : Addr) (zs : List α) (b : α → Bool) (R : α → V → Hp → Prop) (i : Nat) (H : Hp) : Prop :=
  H1 D = none ∧ Same H1 H ∧ ∃ ys, H D = some (.lst ys) ∧ Paired (fun v z => R z v H) ys ((zs.take i).filter b)
theorem take_one {α : Type} : ∀ {l : List α} {i : Nat} {x : α}, l[i]? = some x → l.take (i + 1) = l.take i ++ [x]
  | [], i, x, h => by simp at h
  | a :: l, 0, x, h => by
    have e : a = x := by simpa using h
    subst e; rfl
  | a :: l, i + 1, x, h => by
    have ih := take_one (l := l) (i := i) (x := x) (by simpa using h)
    show a :: l.take (i + 1) = (a :: l.take i) ++ [x]
    rw [ih]; rfl
theorem paired_app {α β : Type} {F : α → β → Prop} : ∀ {xs : List α} {ys : List β} {x : α} {y : β}, Paired F xs ys → F x y → Paired F (xs ++ [x]) (ys ++ [y])
  | _, _, _, _, .nil, h => .cons h .nil
  | _, _, _, _, .cons r t, h => .cons r (paired_app t h)
theorem lcinv_step {α : Type} {H1 H H2 : Hp} {D : Addr} {zs : List α} {b : α → Bool} {R : α → V → Hp → Prop} {i : Nat} {z : α} {σ2 : L2.St} {tt : TT} {te : TE}
    (hR : ∀ z v H H', TupS H H' → R z v H → R z v H') (hz : zs.length ≤ 100000) (hi : zs[i]? = some z) (p : LcInv H1 D zs b R i H) (e2 : Same H H2)
    (ht : EvT tt σ2 H2 (b z)) (he : b z = true → ∀ H3, Same H2 H3 → Ev te σ2 H3 (R z)) :
    tt σ2 H2 fun c H3 => if c = true then te σ2 H3 fun y H4 => ∃ acc, H4 D = some (.lst acc) ∧ acc.length < sizeLine ∧ LcInv H1 D zs b R (i + 1) (upd H4 D (.lst (acc ++ [y]))) else LcInv H1 D zs b R (i + 1) H3 := by
  obtain ⟨hD, e, ys, hys, hp⟩ := p
  refine ht _ fun H3 e3 => ?_
  cases hb : b z with
  | false =>
    rw [if_neg (by decide)]
    refine ⟨hD, e.trans (e2.trans e3), ys, e3 _ _ (e2 _ _ hys), ?_⟩
    rw [take_one hi, List.filter_append, List.filter_cons, if_neg (by rw [hb]; decide)]
    show Paired _ ys (_ ++ [])
    rw [List.append_nil]
    exact Paired.mapP hp fun v z r => hR _ _ _ _ (tups_of (e2.trans e3)) r
  | true =>
    rw [if_pos rfl]
    refine he hb H3 e3 _ fun y H4 e4 ry => ?_
    have hD4 : H4 D = some (.lst ys) := e4 _ _ (e3 _ _ (e2 _ _ hys))
    have hlt : ys.length < 100000 := by
      have l1 := Paired.length hp
      have l2 := List.length_filter_le b (zs.take i)
      have l3 := List.length_take_le i zs
      have l4 : i < zs.length := (List.getElem?_eq_some_iff.mp hi).1
      rw [List.length_take] at l2
      omega
    have tu : TupS H4 (upd H4 D (.lst (ys ++ [y]))) := tups_upd hD4 (fun xs z => by cases z)
    refine ⟨ys, hD4, sz_lt hlt, hD, same_mut (e.trans (e2.trans (e3.trans e4))) hD, ys ++ [y], upd_same, ?_⟩
    rw [take_one hi, List.filter_append, List.filter_cons, if_pos hb]
    exact paired_app (Paired.mapP hp fun v z r => hR _ _ _ _ ((tups_of (e2.trans (e3.trans e4))).trans tu) r) (hR _ _ _ _ tu ry)
/-- a list comprehension, over any walk -/
theorem lc_go {α : Type} {J : It} {n : Nat} {G : Hp → Prop} {Y : Nat → Hp → V → Hp → Prop} (w : Walk J n G Y) {g : TG} {tt : TT} {te : TE} {vs : List Nat} {σ : L2.St} {H1 : Hp} {Q : VK}
    (zs : List α) (b : α → Bool) (R : α → V → Hp → Prop) (hn : zs.length = n) (hz : n ≤ 100000) (hR : ∀ z v H H', TupS H H' → R z v H → R z v H') (hG : ∀ H, Same H1 H → G H)
    (hs : ∀ (i : Nat) z x H H', zs[i]? = some z → Same H1 H → Y i H x H' → ∀ Qg : L2.St → Hp → Prop, (∀ σ2 H2, wipe σ2 vs = wipe σ vs → Same H H2 → EvT tt σ2 H2 (b z) → (b z = true → ∀ H3, Same H2 H3 → Ev te σ2 H3 (R z)) → Qg σ2 H2) → g x (wipe σ vs) H' Qg)
    (hq : ∀ p H ys, H1 p = none → Same H1 H → H p = some (.lst ys) → Paired (fun v z => R z v H) ys (zs.filter b) → Q (.ref p) H) :
    ∀ D, H1 D = none → ∃ W : Nat → Nat → Hp → Prop, (∃ m, W 0 m (upd H1 D (.lst []))) ∧ ∀ i m H, W i m H → (J.stop i H ∧ Q (.ref D) H) ∨ (J.go i H ∧ ∃ Nx : Hp → Prop, (∀ H', Nx H' → ∃ m', m' < m ∧ W (i + 1) m' H') ∧
      ∀ x H', J.yld i H x H' → g x (wipe σ vs) H' fun σ2 H2 => wipe σ2 vs = wipe σ vs ∧ tt σ2 H2 fun b H3 => if b = true then te σ2 H3 fun y H4 => ∃ acc, H4 D = some (.lst acc) ∧ acc.length < sizeLine ∧ Nx (upd H4 D (.lst (acc ++ [y]))) else Nx H3) := by
  intro D hD
  refine lc_it w (LcInv H1 D zs b R) ⟨hD, same_new hD, [], upd_same, .nil⟩ (fun i H _ p => hG H p.2.1) (fun i x H H' hi p y => ?_) (fun H p => ?_)
  · obtain ⟨z, hz'⟩ : ∃ z, zs[i]? = some z := ⟨zs[i]'(by omega), List.getElem?_eq_getElem (by omega)⟩
    exact hs i z x H H' hz' p.2.1 y _ fun σ2 H2 hw e2 ht he => ⟨hw, lcinv_step hR (by omega) hz' p e2 ht he⟩
  · obtain ⟨_, e, ys, hys, hp⟩ := p
    rw [← hn, List.take_length] at hp
    exact hq D H ys hD e hys hp
/-- .. each item given to one name -/
theorem lc_name {α : Type} {J : It} {G : Hp → Prop} {Y : Nat → Hp → V → Hp → Prop} {n j : Nat} (w : Walk J n G Y) {tt : TT} {te : TE} {vs : List Nat} {σ : L2.St} {H1 : Hp} {Q : VK}
    (zs : List α) (b : α → Bool) (R : α → V → Hp → Prop) (hn : zs.length = n) (hz : n ≤ 100000) (hw : ∀ x, wipe ((wipe σ vs).set j (some x)) vs = wipe σ vs) (hR : ∀ z v H H', TupS H H' → R z v H → R z v H') (hG : ∀ H, Same H1 H → G H)
    (hY : ∀ i H x H', Y i H x H' → Same H H')
    (hs : ∀ (i : Nat) z x H H', zs[i]? = some z → Same H1 H → Y i H x H' → EvT tt ((wipe σ vs).set j (some x)) H' (b z) ∧ (b z = true → ∀ H3, Same H' H3 → Ev te ((wipe σ vs).set j (some x)) H3 (R z)))
    (hq : ∀ p H ys, H1 p = none → Same H1 H → H p = some (.lst ys) → Paired (fun v z => R z v H) ys (zs.filter b) → Q (.ref p) H) :
    ∀ D, H1 D = none → ∃ W : Nat → Nat → Hp → Prop, (∃ m, W 0 m (upd H1 D (.lst []))) ∧ ∀ i m H, W i m H → (J.stop i H ∧ Q (.ref D) H) ∨ (J.go i H ∧ ∃ Nx : Hp → Prop, (∀ H', Nx H' → ∃ m', m' < m ∧ W (i + 1) m' H') ∧
      ∀ x H', J.yld i H x H' → gName j x (wipe σ vs) H' fun σ2 H2 => wipe σ2 vs = wipe σ vs ∧ tt σ2 H2 fun b H3 => if b = true then te σ2 H3 fun y H4 => ∃ acc, H4 D = some (.lst acc) ∧ acc.length < sizeLine ∧ Nx (upd H4 D (.lst (acc ++ [y]))) else Nx H3) :=
  lc_go w zs b R hn hz hR hG (fun i z x H H' hi e y Qg q => q _ _ (hw x) (hY i H x H' y) (hs i z x H H' hi e y).1 (hs i z x H H' hi e y).2) hq
theorem evt_yes {σ : L2.St} {H : Hp} : EvT tYes σ H true := fun Q q => q H (Same.refl H)
theorem filter_all {α : Type} : ∀ (l : List α), l.filter (fun _ => true) = l
  | [] => rfl
  | a :: l => by rw [List.filter_cons, if_pos rfl, filter_all l]
end Tm

namespace Tm
open PySem PySem.Spec PyProof.Rows L2

/-! ### dict comprehensions over any walk: keys that differ -/
def DcInv {α : Type} (H1 : Hp) (D : Addr) (zs : List α) (b : α → Bool) (key : α → L2.Key) (R : α → V → Hp → Prop) (i : Nat) (H : Hp) : Prop :=
  H1 D = none ∧ Same H1 H ∧ ∃ kvs, H D = some (.dK kvs) ∧ Paired (fun kv z => kv.1 = key z ∧ R z kv.2 H) kvs ((zs.take i).filter b)
theorem valV_no {kvs : List (L2.Key × V)} {k : L2.Key} (h : k ∉ kvs.map (·.1)) : valV kvs k = none := by
  unfold valV
  rw [List.find?_eq_none.mpr fun kv hkv => by
    simp only [decide_eq_true_eq]
    intro e
    exact h (List.mem_map.mpr ⟨kv, hkv, e⟩)]
  rfl
theorem paired_keys {α : Type} {key : α → L2.Key} {F : L2.Key × V → α → Prop} (hF : ∀ kv z, F kv z → kv.1 = key z) : ∀ {kvs : List (L2.Key × V)} {zs : List α}, Paired F kvs zs → kvs.map (·.1) = zs.map key
  | _, _, .nil => rfl
  | _, _, .cons r t => by
    rw [List.map_cons, List.map_cons, paired_keys hF t, hF _ _ r]
theorem nd_split {α : Type} {l : List α} {i : Nat} {x : α} (h : l.Nodup) (hi : l[i]? = some x) : x ∉ l.take i := fun hm => by
  obtain ⟨j, hj, e⟩ := List.mem_iff_getElem.mp hm
  rw [List.length_take] at hj
  rw [List.getElem_take] at e
  obtain ⟨h1, e1⟩ := List.getElem?_eq_some_iff.mp hi
  have := (List.getElem_inj h).mp (e.trans e1.symm)
  omega
theorem dcinv_step {α : Type} {H1 H H2 : Hp} {D : Addr} {zs : List α} {b : α → Bool} {key : α → L2.Key} {R : α → V → Hp → Prop} {i : Nat} {z : α} {σ2 : L2.St} {tt : TT} {tk tv : TE}
    (hR : ∀ z v H H', TupS H H' → R z v H → R z v H') (hz : zs.length ≤ 100000) (nd : (zs.map key).Nodup) (hi : zs[i]? = some z) (p : DcInv H1 D zs b key R i H) (e2 : Same H H2)
    (ht : EvT tt σ2 H2 (b z)) (hk : b z = true → ∀ H3, Same H2 H3 → Ev tk σ2 H3 (fun v _ => v = kV (key z))) (he : b z = true → ∀ H3, Same H2 H3 → Ev tv σ2 H3 (R z)) :
    tt σ2 H2 fun c H3 => if c = true then tk σ2 H3 fun y H4 => tv σ2 H4 fun v H5 => ∃ kvs k, y = kV k ∧ H5 D = some (.dK kvs) ∧ kvs.length < sizeLine ∧ DcInv H1 D zs b key R (i + 1) (upd H5 D (.dK (putK kvs k v))) else DcInv H1 D zs b key R (i + 1) H3 := by
  obtain ⟨hD, e, kvs, hys, hp⟩ := p
  refine ht _ fun H3 e3 => ?_
  cases hb : b z with
  | false =>
    rw [if_neg (by decide)]
    refine ⟨hD, e.trans (e2.trans e3), kvs, e3 _ _ (e2 _ _ hys), ?_⟩
    rw [take_one hi, List.filter_append, List.filter_cons, if_neg (by rw [hb]; decide)]
    show Paired _ kvs (_ ++ [])
    rw [List.append_nil]
    exact Paired.mapP hp fun v z r => ⟨r.1, hR _ _ _ _ (tups_of (e2.trans e3)) r.2⟩
  | true =>
    rw [if_pos rfl]
    refine hk hb H3 e3 _ fun y H4 e4 ey => ?_
    refine he hb H4 (e3.trans e4) _ fun v H5 e5 rv => ?_
    have hD5 : H5 D = some (.dK kvs) := e5 _ _ (e4 _ _ (e3 _ _ (e2 _ _ hys)))
    have hlt : kvs.length < 100000 := by
      have l1 := Paired.length hp
      have l2 := List.length_filter_le b (zs.take i)
      have l4 : i < zs.length := (List.getElem?_eq_some_iff.mp hi).1
      rw [List.length_take] at l2
      omega
    have hno : key z ∉ kvs.map (·.1) := by
      rw [paired_keys (fun kv z h => h.1) hp]
      intro hm
      obtain ⟨z', hz', e'⟩ := List.mem_map.mp hm
      have h1 := (List.mem_filter.mp hz').1
      have h2 : key z ∉ (zs.map key).take i := nd_split nd (by rw [List.getElem?_map, hi]; rfl)
      rw [← List.map_take] at h2
      exact h2 (List.mem_map.mpr ⟨z', h1, e'⟩)
    have ep : putK kvs (key z) v = kvs ++ [(key z, v)] := putK_new _ (valV_no hno)
    have tu : ∀ o, TupS H5 (upd H5 D o) := fun o => tups_upd hD5 (fun xs z => by cases z)
    refine ⟨kvs, key z, ey, hD5, sz_lt hlt, hD, same_mut (e.trans (e2.trans (e3.trans (e4.trans e5)))) hD, kvs ++ [(key z, v)], by rw [ep]; exact upd_same, ?_⟩
    rw [take_one hi, List.filter_append, List.filter_cons, if_pos hb]
    exact paired_app (Paired.mapP hp fun v z r => ⟨r.1, hR _ _ _ _ ((tups_of (e2.trans (e3.trans (e4.trans e5)))).trans (tu _)) r.2⟩) ⟨rfl, hR _ _ _ _ (tu _) rv⟩
theorem dc_go {α : Type} {J : It} {n : Nat} {G : Hp → Prop} {Y : Nat → Hp → V → Hp → Prop} (w : Walk J n G Y) {g : TG} {tt : TT} {tk tv : TE} {vs : List Nat} {σ : L2.St} {H1 : Hp} {Q : VK}
    (zs : List α) (b : α → Bool) (key : α → L2.Key) (R : α → V → Hp → Prop) (hn : zs.length = n) (hz : n ≤ 100000) (nd : (zs.map key).Nodup) (hR : ∀ z v H H', TupS H H' → R z v H → R z v H') (hG : ∀ H, Same H1 H → G H)
    (hs : ∀ (i : Nat) z x H H', zs[i]? = some z → Same H1 H → Y i H x H' → ∀ Qg : L2.St → Hp → Prop, (∀ σ2 H2, wipe σ2 vs = wipe σ vs → Same H H2 → EvT tt σ2 H2 (b z) →
      (b z = true → ∀ H3, Same H2 H3 → Ev tk σ2 H3 (fun v _ => v = kV (key z))) → (b z = true → ∀ H3, Same H2 H3 → Ev tv σ2 H3 (R z)) → Qg σ2 H2) → g x (wipe σ vs) H' Qg)
    (hq : ∀ p H kvs, H1 p = none → Same H1 H → H p = some (.dK kvs) → Paired (fun kv z => kv.1 = key z ∧ R z kv.2 H) kvs (zs.filter b) → Q (.ref p) H) :
    ∀ D, H1 D = none → ∃ W : Nat → Nat → Hp → Prop, (∃ m, W 0 m (upd H1 D (.dK []))) ∧ ∀ i m H, W i m H → (J.stop i H ∧ Q (.ref D) H) ∨ (J.go i H ∧ ∃ Nx : Hp → Prop, (∀ H', Nx H' → ∃ m', m' < m ∧ W (i + 1) m' H') ∧
      ∀ x H', J.yld i H x H' → g x (wipe σ vs) H' fun σ2 H2 => wipe σ2 vs = wipe σ vs ∧ tt σ2 H2 fun b H3 => if b = true then tk σ2 H3 fun y H4 => tv σ2 H4 fun z H5 => ∃ kvs k, y = kV k ∧ H5 D = some (.dK kvs) ∧ kvs.length < sizeLine ∧ Nx (upd H5 D (.dK (putK kvs k z))) else Nx H3) := by
  intro D hD
  refine ⟨fun i m H => m = n - i ∧ i ≤ n ∧ DcInv H1 D zs b key R i H, ⟨n, by simp, Nat.zero_le _, hD, same_new hD, [], upd_same, .nil⟩, ?_⟩
  rintro i m H ⟨em, hi, p⟩
  have q := hG H p.2.1
  by_cases hlt : i < n
  · refine .inr ⟨w.goes i H hlt q, DcInv H1 D zs b key R (i + 1), fun H' p' => ⟨n - (i + 1), by omega, rfl, hlt, p'⟩, fun x H' y => ?_⟩
    obtain ⟨z, hz'⟩ : ∃ z, zs[i]? = some z := ⟨zs[i]'(by omega), List.getElem?_eq_getElem (by omega)⟩
    exact hs i z x H H' hz' p.2.1 (w.yields i H x H' hlt q y) _ fun σ2 H2 hw e2 ht hk he => ⟨hw, dcinv_step hR (by omega) nd hz' p e2 ht hk he⟩
  · have e : i = n := by omega
    subst e
    obtain ⟨_, e, kvs, hys, hp⟩ := p
    rw [← hn, List.take_length] at hp
    exact .inl ⟨w.stops H q, hq D H kvs hD e hys hp⟩
/-! ### a pair unpacked into two names -/
theorem pair_names {K : PySem.W.Frag} {i j : Nat} {σ : L2.St} {H : Hp} {T : Addr} {x y : V} {Q : L2.St → Hp → Prop} (hT : SqT K H T [x, y]) (q : Q ((σ.set i (some x)).set j (some y)) H) :
    gTup K 2 (gCons (gName i) (gCons (gName j) gNil)) (.ref T) σ H Q := ⟨T, [x, y], rfl, hT, rfl, x, [y], rfl, y, [], rfl, rfl, q⟩

/-! ### pairs, rows, tables -/
abbrev Row := List (Int × Int)
abbrev Tab := List (Str × Row)
def PairV (H : Hp) (v : V) (p : Int × Int) : Prop := ∃ a, v = .ref a ∧ H a = some (.tup [.int p.1, .int p.2])
def RowV (H : Hp) (v : V) (r : Row) : Prop := ∃ a vs, v = .ref a ∧ H a = some (.tup vs) ∧ Paired (PairV H) vs r
def TabV (H : Hp) (kvs : List (L2.Key × V)) (t : Tab) : Prop := Paired (fun kv e => kv.1 = Sum.inr e.1 ∧ RowV H kv.2 e.2) kvs t
theorem PairV.mono {H H' : Hp} {v : V} {p : Int × Int} (e : TupS H H') (h : PairV H v p) : PairV H' v p := by
  obtain ⟨a, e1, e2⟩ := h
  exact ⟨a, e1, e a _ e2⟩
theorem RowV.mono {H H' : Hp} {v : V} {r : Row} (e : TupS H H') (h : RowV H v r) : RowV H' v r := by
  obtain ⟨a, vs, e1, e2, e3⟩ := h
  exact ⟨a, vs, e1, e a _ e2, Paired.mapP e3 fun _ _ h => h.mono e⟩
theorem TabV.mono {H H' : Hp} {kvs : List (L2.Key × V)} {t : Tab} (e : TupS H H') (h : TabV H kvs t) : TabV H' kvs t :=
  Paired.mapP h fun _ _ h => ⟨h.1, h.2.mono e⟩
theorem paired_ix {α β : Type} {F : α → β → Prop} : ∀ {xs : List α} {ys : List β} {i : Nat} {y : β}, Paired F xs ys → ys[i]? = some y → ∃ x, xs[i]? = some x ∧ F x y
  | _, _, i, y, .nil, h => by simp at h
  | _, _, 0, y, .cons r t, h => by
    simp at h
    subst h
    exact ⟨_, rfl, r⟩
  | _, _, i + 1, y, .cons r t, h => by
    obtain ⟨x, h1, h2⟩ := paired_ix (i := i) t (by simpa using h)
    exact ⟨x, by simpa using h1, h2⟩
theorem paired_ix2 {α β : Type} {F : α → β → Prop} : ∀ {xs : List α} {ys : List β} {i : Nat} {x : α}, Paired F xs ys → xs[i]? = some x → ∃ y, ys[i]? = some y ∧ F x y
  | _, _, i, y, .nil, h => by simp at h
  | _, _, 0, y, .cons r t, h => by
    simp at h
    subst h
    exact ⟨_, rfl, r⟩
  | _, _, i + 1, y, .cons r t, h => by
    obtain ⟨x, h1, h2⟩ := paired_ix2 (i := i) t (by simpa using h)
    exact ⟨x, by simpa using h1, h2⟩
/-! ### what a right table is -/
def okName (x : Str) : Bool := decide (1 ≤ x.length) && decide (x.length ≤ 8) && x.cps.toList.all fun c => decide (97 ≤ c) && decide (c ≤ 122)
def okPair (n : Nat) (p : Int × Int) : Bool := decide (0 ≤ p.1) && decide (p.1 ≤ (n : Int) - 1) && decide (0 ≤ p.2) && decide (p.2 ≤ 99)
def okRow (n : Nat) (r : Row) : Bool := decide (r.length = n) && r.all (okPair n)
def sizeT (t : Tab) : Nat := match t with
  | [] => 0
  | e :: _ => e.2.length
def okTab (t : Tab) : Bool := decide (1 ≤ t.length) && decide (t.length ≤ 6) && decide (1 ≤ sizeT t) && decide (sizeT t ≤ 12) && t.all fun e => okName e.1 && okRow (sizeT t) e.2
theorem pe_ty {X : Cx} {n : String} {x : Str} {pos : Pos} (hg : Gl X x) (hm : X.mg x = none) (hv : bootBuiltins x = some (.type n)) (hn : x ≠ "__name__" := by decide) (hd : (x == ("__debug__" : Str)) = false := by decide) : PE X (.Name x pos) (tC (.ty n)) := pe_bltn (v := .ty n) hg hm hv rfl hn hd
/-- a constant of the top -/
structure GV (mg : Str → Option Value) (x : Str) (v : V) : Prop where
  ex : ∃ u, mg x = some u ∧ RelV v u
theorem GV.pe {X : Cx} {x : Str} {v : V} {pos : Pos} (g : GV X.mg x v) (hg : Gl X x := by rfl) (hd : (x == ("__debug__" : Str)) = false := by decide) : PE X (.Name x pos) (tC v) := by
  obtain ⟨u, h1, h2⟩ := g.ex
  exact pe_glob hg h1 h2 hd
theorem ifT {c : Bool} {A B : Prop} (hc : c = true) (h : A) : if c = true then A else B := by
  rw [if_pos hc]; exact h
theorem ifF {c : Bool} {A B : Prop} (hc : c = false) (h : B) : if c = true then A else B := by
  rw [hc, if_neg (by decide)]; exact h
/-- constants of the program's own modules -/
structure Gb (mg : Str → Option Value) : Prop where
  MAX_LETTERS : GV mg "MAX_LETTERS" (.int 8)
  MAX_STATES : GV mg "MAX_STATES" (.int 12)
  MAX_OPERATIONS : GV mg "MAX_OPERATIONS" (.int 6)
  MAX_ANSWER : GV mg "MAX_ANSWER" (.int 99)
  ALPHABET : GV mg "ALPHABET" (.str (PySem.Str.ofString "abcdefghijklmnopqrstuvwxyz"))
theorem bools_all {α : Type} (f : α → Bool) : ∀ {ys : List V} {zs : List α}, Paired (fun v z => v = V.bl (f z)) ys zs → ys = (zs.map f).map V.bl
  | _, _, .nil => rfl
  | _, _, .cons r t => by rw [r, bools_all f t]; rfl
theorem all_id_map {α : Type} (f : α → Bool) (zs : List α) : (zs.map f).all id = zs.all f := by
  rw [List.all_map]; rfl
theorem alpha_in {c : Nat} (h : (decide (97 ≤ c) && decide (c ≤ 122)) = true) : decide (c ∈ (PySem.Str.ofString "abcdefghijklmnopqrstuvwxyz").cps.toList) = true := by
  rw [Bool.and_eq_true, decide_eq_true_eq, decide_eq_true_eq] at h
  have e : (PySem.Str.ofString "abcdefghijklmnopqrstuvwxyz").cps.toList = (List.range 26).map (97 + ·) := by decide +kernel
  rw [e, decide_eq_true_eq, List.mem_map]
  exact ⟨c - 97, List.mem_range.mpr (by omega), by omega⟩
theorem same_seqT {K : PySem.W.Frag} {H H' : Hp} {a : Addr} {xs : List V} (e : Same H H') (h : SqT K H a xs) : SqT K H' a xs := by
  rcases h with (h | ⟨o, h⟩) | h
  · exact .inl (.inl (e _ _ h))
  · exact .inl (.inr ⟨o, e _ _ h⟩)
  · exact .inr h
theorem lc_runL {α : Type} {K : PySem.W.Frag} {σ : L2.St} {H : Hp} {Q : VK} {j : Nat} {tt : TT} {te : TE} {vs : List Nat} {tl : TE} {xs : List V} (hl : Ev tl σ H fun v H1 => ∃ a, v = .ref a ∧ SqL K H1 a xs) (zs : List α) (hlen : xs.length = zs.length)
    (b : α → Bool) (R : α → V → Hp → Prop) (hz : zs.length ≤ 100000) (hw : ∀ x, wipe ((wipe σ vs).set j (some x)) vs = wipe σ vs) (hR : ∀ z v H H', TupS H H' → R z v H → R z v H')
    (hs : ∀ (i : Nat) z x H1, zs[i]? = some z → xs[i]? = some x → Same H H1 → EvT tt ((wipe σ vs).set j (some x)) H1 (b z) ∧ (b z = true → ∀ H3, Same H1 H3 → Ev te ((wipe σ vs).set j (some x)) H3 (R z)))
    (hq : ∀ p H1 ys, H p = none → Same H H1 → H1 p = some (.lst ys) → Paired (fun v z => R z v H1) ys (zs.filter b) → Q (.ref p) H1) : tLc (iList K tl) (gName j) tt te vs σ H Q := by
  refine hl _ fun v H1 e h => ?_
  obtain ⟨a, ea, hs'⟩ := h
  refine ⟨a, ea, ⟨xs, hs'⟩, lc_name (Q := Q) (walk_list) zs b R (hlen.symm) (by omega) hw hR (fun H2 e2 => e2.seq hs') (fun i H v H' y => by rw [y.1]; exact Same.refl _) (fun i z x H2 H' hz' e2 y => ?_) (fun p H2 ys hp e2 => hq p H2 ys (e.free hp) (e.trans e2))⟩
  obtain ⟨e3, y⟩ := y
  subst e3
  exact hs i z x _ hz' y (e.trans e2)
theorem lc_runT {α : Type} {K : PySem.W.Frag} {σ : L2.St} {H : Hp} {Q : VK} {j : Nat} {tt : TT} {te : TE} {vs : List Nat} {tl : TE} {xs : List V} (hl : Ev tl σ H fun v H1 => ∃ a, v = .ref a ∧ SqT K H1 a xs) (zs : List α) (hlen : xs.length = zs.length)
    (b : α → Bool) (R : α → V → Hp → Prop) (hz : zs.length ≤ 100000) (hw : ∀ x, wipe ((wipe σ vs).set j (some x)) vs = wipe σ vs) (hR : ∀ z v H H', TupS H H' → R z v H → R z v H')
    (hs : ∀ (i : Nat) z x H1, zs[i]? = some z → xs[i]? = some x → Same H H1 → EvT tt ((wipe σ vs).set j (some x)) H1 (b z) ∧ (b z = true → ∀ H3, Same H1 H3 → Ev te ((wipe σ vs).set j (some x)) H3 (R z)))
    (hq : ∀ p H1 ys, H p = none → Same H H1 → H1 p = some (.lst ys) → Paired (fun v z => R z v H1) ys (zs.filter b) → Q (.ref p) H1) : tLc (iTup K tl) (gName j) tt te vs σ H Q := by
  refine hl _ fun v H1 e h => ?_
  obtain ⟨a, ea, hs'⟩ := h
  refine ⟨a, ea, ⟨xs, hs'⟩, lc_name (Q := Q) (walk_tup) zs b R (hlen.symm) (by omega) hw hR (fun H2 e2 => same_seqT e2 hs') (fun i H v H' y => by rw [y.1]; exact Same.refl _) (fun i z x H2 H' hz' e2 y => ?_) (fun p H2 ys hp e2 => hq p H2 ys (e.free hp) (e.trans e2))⟩
  obtain ⟨e3, y⟩ := y
  subst e3
  exact hs i z x _ hz' y (e.trans e2)
theorem lc_runR {α : Type} {σ : L2.St} {H : Hp} {Q : VK} {j : Nat} {tt : TT} {te : TE} {vs : List Nat} {ta : TA} {n : Int} (h : EvA ta σ H fun l _ => l = [.int n]) (hn : -100000 ≤ n ∧ n ≤ 100000) (zs : List α) (hlen : zs.length = n.toNat)
    (b : α → Bool) (R : α → V → Hp → Prop) (hz : zs.length ≤ 100000) (hw : ∀ x, wipe ((wipe σ vs).set j (some x)) vs = wipe σ vs) (hR : ∀ z v H H', TupS H H' → R z v H → R z v H')
    (hs : ∀ (i : Nat) z x H1, zs[i]? = some z → x = .int (i : Int) → Same H H1 → EvT tt ((wipe σ vs).set j (some x)) H1 (b z) ∧ (b z = true → ∀ H3, Same H1 H3 → Ev te ((wipe σ vs).set j (some x)) H3 (R z)))
    (hq : ∀ p H1 ys, H p = none → Same H H1 → H1 p = some (.lst ys) → Paired (fun v z => R z v H1) ys (zs.filter b) → Q (.ref p) H1) : tLc (iRng1 ta) (gName j) tt te vs σ H Q := by
  refine h _ fun l H1 e el => ⟨n, el, by omega, by omega, lc_name (Q := Q) (walk_range) zs b R (hlen) (by omega) hw hR (fun _ _ => trivial) (fun i H v H' y => by rw [y.1]; exact Same.refl _) (fun i z x H2 H' hz' e2 y => ?_) (fun p H2 ys hp e2 => hq p H2 ys (e.free hp) (e.trans e2))⟩
  obtain ⟨e3, y⟩ := y
  subst e3
  exact hs i z x _ hz' (by rw [y]; show V.int (0 + (i : Int)) = _; rw [Int.zero_add]) (e.trans e2)
theorem lc_runR2 {α : Type} {σ : L2.St} {H : Hp} {Q : VK} {j : Nat} {tt : TT} {te : TE} {vs : List Nat} {ta : TA} {lo n : Int} (h : EvA ta σ H fun l _ => l = [.int lo, .int n]) (hn : -100000 ≤ lo ∧ lo ≤ 100000 ∧ -100000 ≤ n ∧ n ≤ 100000) (zs : List α) (hlen : zs.length = (n - lo).toNat)
    (b : α → Bool) (R : α → V → Hp → Prop) (hz : zs.length ≤ 100000) (hw : ∀ x, wipe ((wipe σ vs).set j (some x)) vs = wipe σ vs) (hR : ∀ z v H H', TupS H H' → R z v H → R z v H')
    (hs : ∀ (i : Nat) z x H1, zs[i]? = some z → x = .int (lo + (i : Int)) → Same H H1 → EvT tt ((wipe σ vs).set j (some x)) H1 (b z) ∧ (b z = true → ∀ H3, Same H1 H3 → Ev te ((wipe σ vs).set j (some x)) H3 (R z)))
    (hq : ∀ p H1 ys, H p = none → Same H H1 → H1 p = some (.lst ys) → Paired (fun v z => R z v H1) ys (zs.filter b) → Q (.ref p) H1) : tLc (iRng2 ta) (gName j) tt te vs σ H Q := by
  refine h _ fun l H1 e el => ⟨lo, n, el, by omega, lc_name (Q := Q) (walk_range) zs b R (hlen) (by omega) hw hR (fun _ _ => trivial) (fun i H v H' y => by rw [y.1]; exact Same.refl _) (fun i z x H2 H' hz' e2 y => ?_) (fun p H2 ys hp e2 => hq p H2 ys (e.free hp) (e.trans e2))⟩
  obtain ⟨e3, y⟩ := y
  subst e3
  exact hs i z x _ hz' y (e.trans e2)
theorem lc_runS {α : Type} {σ : L2.St} {H : Hp} {Q : VK} {j : Nat} {tt : TT} {te : TE} {vs : List Nat} {te0 : TE} {x0 : Str} (h : Ev te0 σ H fun v _ => v = .str x0) (zs : List α) (hlen : zs.length = x0.cps.size)
    (b : α → Bool) (R : α → V → Hp → Prop) (hz : zs.length ≤ 100000) (hw : ∀ x, wipe ((wipe σ vs).set j (some x)) vs = wipe σ vs) (hR : ∀ z v H H', TupS H H' → R z v H → R z v H')
    (hs : ∀ (i : Nat) z x H1, zs[i]? = some z → (∃ c, x0.cps[i]? = some c ∧ x = .str ⟨#[c]⟩) → Same H H1 → EvT tt ((wipe σ vs).set j (some x)) H1 (b z) ∧ (b z = true → ∀ H3, Same H1 H3 → Ev te ((wipe σ vs).set j (some x)) H3 (R z)))
    (hq : ∀ p H1 ys, H p = none → Same H H1 → H1 p = some (.lst ys) → Paired (fun v z => R z v H1) ys (zs.filter b) → Q (.ref p) H1) : tLc (iStr te0) (gName j) tt te vs σ H Q := by
  refine h _ fun v H1 e ev => ⟨x0, ev, lc_name (Q := Q) (walk_str) zs b R (hlen) (by omega) hw hR (fun _ _ => trivial) (fun i H v H' y => by rw [y.1]; exact Same.refl _) (fun i z x H2 H' hz' e2 y => ?_) (fun p H2 ys hp e2 => hq p H2 ys (e.free hp) (e.trans e2))⟩
  obtain ⟨e3, y⟩ := y
  subst e3
  exact hs i z x _ hz' y (e.trans e2)
end Tm

namespace Tm
open PySem PySem.Spec PyProof.Rows L2

section
variable {α : Type} {K : PySem.W.Frag} {σ : L2.St} {H : Hp} {Q : VK} {i j : Nat} {tt : TT} {te tk tv : TE} {vs : List Nat}
/-- a comprehension over the items of a locked dict -/
theorem lc_runI {td : TE} {d : Addr} {o : Obj} {kvs : List (L2.Key × V)} (hd : Ev td σ H fun v _ => v = .ref d) (hf : H d = some (.frz o (.dK kvs))) (zs : List α) (hlen : zs.length = kvs.length) (b : α → Bool) (R : α → V → Hp → Prop) (hz : zs.length ≤ 100000)
    (hw : ∀ x y, wipe (((wipe σ vs).set i (some x)).set j (some y)) vs = wipe σ vs) (hR : ∀ z v H H', TupS H H' → R z v H → R z v H')
    (hs : ∀ (k : Nat) z kv H1, zs[k]? = some z → kvs[k]? = some kv → Same H H1 → EvT tt (((wipe σ vs).set i (some (kV kv.1))).set j (some kv.2)) H1 (b z) ∧ (b z = true → ∀ H3, Same H1 H3 → Ev te (((wipe σ vs).set i (some (kV kv.1))).set j (some kv.2)) H3 (R z)))
    (hq : ∀ p H1 ys, H p = none → Same H H1 → H1 p = some (.lst ys) → Paired (fun v z => R z v H1) ys (zs.filter b) → Q (.ref p) H1) :
    tLc (iItems td) (gTup K 2 (gCons (gName i) (gCons (gName j) gNil))) tt te vs σ H Q := by
  refine hd _ fun v H1 e ev => ⟨d, o, kvs, ev, e _ _ hf, ?_⟩
  refine lc_go (Q := Q) walk_items zs b R hlen (by omega) hR (fun H2 e2 => e2 _ _ (e _ _ hf)) (fun k z x H2 H' hz' e2 y Qg qg => ?_) (fun p H2 ys hp e2 => hq p H2 ys (e.free hp) (e.trans e2))
  obtain ⟨T, x', y', rfl, hT, rfl, hx, hy⟩ := y
  replace hx : kvs[k]?.map (fun kv => kV kv.1) = some x' := hx
  replace hy : kvs[k]?.map Prod.snd = some y' := hy
  cases hk : kvs[k]? with
  | none =>
    rw [hk] at hx
    cases hx
  | some kv =>
    rw [hk] at hx hy
    have ex : kV kv.1 = x' := Option.some.inj hx
    have ey : kv.2 = y' := Option.some.inj hy
    subst ex ey
    have e3 : Same H2 (upd H2 T (.tup [kV kv.1, kv.2])) := same_new hT
    refine pair_names (SqT.of upd_same) (qg _ _ (hw _ _) e3 (hs k z kv _ hz' hk (e.trans (e2.trans e3))).1 (hs k z kv _ hz' hk (e.trans (e2.trans e3))).2)
/-- a dict comprehension over a list, one name -/
theorem dc_runL {tl : TE} {xs : List V} (hl : Ev tl σ H fun v H1 => ∃ a, v = .ref a ∧ SqL K H1 a xs) (zs : List α) (hlen : xs.length = zs.length) (b : α → Bool) (key : α → L2.Key) (R : α → V → Hp → Prop) (hz : zs.length ≤ 100000) (nd : (zs.map key).Nodup)
    (hw : ∀ x, wipe ((wipe σ vs).set j (some x)) vs = wipe σ vs) (hR : ∀ z v H H', TupS H H' → R z v H → R z v H')
    (hs : ∀ (k : Nat) z x H1, zs[k]? = some z → xs[k]? = some x → Same H H1 → EvT tt ((wipe σ vs).set j (some x)) H1 (b z) ∧ (b z = true → ∀ H3, Same H1 H3 → Ev tk ((wipe σ vs).set j (some x)) H3 (fun v _ => v = kV (key z))) ∧ (b z = true → ∀ H3, Same H1 H3 → Ev tv ((wipe σ vs).set j (some x)) H3 (R z)))
    (hq : ∀ p H1 kvs, H p = none → Same H H1 → H1 p = some (.dK kvs) → Paired (fun kv z => kv.1 = key z ∧ R z kv.2 H1) kvs (zs.filter b) → Q (.ref p) H1) : tDc (iList K tl) (gName j) tt tk tv vs σ H Q := by
  refine hl _ fun v H1 e h => ?_
  obtain ⟨a, ea, hs'⟩ := h
  refine ⟨a, ea, ⟨xs, hs'⟩, dc_go (Q := Q) walk_list zs b key R hlen.symm (by omega) nd hR (fun H2 e2 => e2.seq hs') (fun k z x H2 H' hz' e2 y Qg qg => ?_) (fun p H2 ys hp e2 => hq p H2 ys (e.free hp) (e.trans e2))⟩
  obtain ⟨e3, y⟩ := y
  subst e3
  obtain ⟨h1, h2, h3⟩ := hs k z x _ hz' y (e.trans e2)
  exact qg _ _ (hw x) (Same.refl _) h1 h2 h3
/-- .. over enumerate of a list -/
theorem dc_runE {ta : TA} {xs : List V} (hl : EvA ta σ H fun l H1 => ∃ a, l = [.ref a] ∧ SqL K H1 a xs) (zs : List α) (hlen : xs.length = zs.length) (b : α → Bool) (key : α → L2.Key) (R : α → V → Hp → Prop) (hz : zs.length ≤ 100000) (nd : (zs.map key).Nodup)
    (hw : ∀ x y, wipe (((wipe σ vs).set i (some x)).set j (some y)) vs = wipe σ vs) (hR : ∀ z v H H', TupS H H' → R z v H → R z v H')
    (hs : ∀ (k : Nat) z x H1, zs[k]? = some z → xs[k]? = some x → Same H H1 → EvT tt (((wipe σ vs).set i (some (.int (k : Int)))).set j (some x)) H1 (b z) ∧ (b z = true → ∀ H3, Same H1 H3 → Ev tk (((wipe σ vs).set i (some (.int (k : Int)))).set j (some x)) H3 (fun v _ => v = kV (key z))) ∧
      (b z = true → ∀ H3, Same H1 H3 → Ev tv (((wipe σ vs).set i (some (.int (k : Int)))).set j (some x)) H3 (R z)))
    (hq : ∀ p H1 kvs, H p = none → Same H H1 → H1 p = some (.dK kvs) → Paired (fun kv z => kv.1 = key z ∧ R z kv.2 H1) kvs (zs.filter b) → Q (.ref p) H1) : tDc (iEnum K ta) (gTup K 2 (gCons (gName i) (gCons (gName j) gNil))) tt tk tv vs σ H Q := by
  refine hl _ fun v H1 e h => ?_
  obtain ⟨a, ea, hs'⟩ := h
  refine ⟨a, xs, ea, hs', dc_go (Q := Q) walk_enum zs b key R hlen.symm (by omega) nd hR (fun H2 e2 => e2.seq hs') (fun k z x H2 H' hz' e2 y Qg qg => ?_) (fun p H2 ys hp e2 => hq p H2 ys (e.free hp) (e.trans e2))⟩
  obtain ⟨T, x', y', rfl, hT, rfl, hx, hy⟩ := y
  have ex : V.int (k : Int) = x' := Option.some.inj hx
  subst ex
  have e3 : Same H2 (upd H2 T (.tup [V.int (k : Int), y'])) := same_new hT
  obtain ⟨h1, h2, h3⟩ := hs k z y' _ hz' hy (e.trans (e2.trans e3))
  exact pair_names (SqT.of upd_same) (qg _ _ (hw _ _) e3 h1 h2 h3)
/-- .. over the items of a locked dict -/
theorem dc_runI {td : TE} {d : Addr} {o : Obj} {kvs : List (L2.Key × V)} (hd : Ev td σ H fun v _ => v = .ref d) (hf : H d = some (.frz o (.dK kvs))) (zs : List α) (hlen : zs.length = kvs.length) (b : α → Bool) (key : α → L2.Key) (R : α → V → Hp → Prop) (hz : zs.length ≤ 100000) (nd : (zs.map key).Nodup)
    (hw : ∀ x y, wipe (((wipe σ vs).set i (some x)).set j (some y)) vs = wipe σ vs) (hR : ∀ z v H H', TupS H H' → R z v H → R z v H')
    (hs : ∀ (k : Nat) z kv H1, zs[k]? = some z → kvs[k]? = some kv → Same H H1 → EvT tt (((wipe σ vs).set i (some (kV kv.1))).set j (some kv.2)) H1 (b z) ∧ (b z = true → ∀ H3, Same H1 H3 → Ev tk (((wipe σ vs).set i (some (kV kv.1))).set j (some kv.2)) H3 (fun v _ => v = kV (key z))) ∧
      (b z = true → ∀ H3, Same H1 H3 → Ev tv (((wipe σ vs).set i (some (kV kv.1))).set j (some kv.2)) H3 (R z)))
    (hq : ∀ p H1 kvs', H p = none → Same H H1 → H1 p = some (.dK kvs') → Paired (fun kv z => kv.1 = key z ∧ R z kv.2 H1) kvs' (zs.filter b) → Q (.ref p) H1) :
    tDc (iItems td) (gTup K 2 (gCons (gName i) (gCons (gName j) gNil))) tt tk tv vs σ H Q := by
  refine hd _ fun v H1 e ev => ⟨d, o, kvs, ev, e _ _ hf, ?_⟩
  refine dc_go (Q := Q) walk_items zs b key R hlen (by omega) nd hR (fun H2 e2 => e2 _ _ (e _ _ hf)) (fun k z x H2 H' hz' e2 y Qg qg => ?_) (fun p H2 ys hp e2 => hq p H2 ys (e.free hp) (e.trans e2))
  obtain ⟨T, x', y', rfl, hT, rfl, hx, hy⟩ := y
  replace hx : kvs[k]?.map (fun kv => kV kv.1) = some x' := hx
  replace hy : kvs[k]?.map Prod.snd = some y' := hy
  cases hk : kvs[k]? with
  | none =>
    rw [hk] at hx
    cases hx
  | some kv =>
    rw [hk] at hx hy
    have ex : kV kv.1 = x' := Option.some.inj hx
    have ey : kv.2 = y' := Option.some.inj hy
    subst ex ey
    have e3 : Same H2 (upd H2 T (.tup [kV kv.1, kv.2])) := same_new hT
    obtain ⟨h1, h2, h3⟩ := hs k z kv _ hz' hk (e.trans (e2.trans e3))
    exact pair_names (SqT.of upd_same) (qg _ _ (hw _ _) e3 h1 h2 h3)
end
/-! ### a locked dict: what is within, what is behind -/
theorem lock_in {H : Hp} {d : Addr} {u : HO} {o : Obj} (h : H d = some u) (hu : ∀ xs, u ≠ .tup xs) : TupS H (upd H d (.frz o u)) := tups_upd h hu
theorem lock_out {H H' : Hp} {d : Addr} {u : HO} {o : Obj} (h : H d = some u) (e : Same (upd H d (.frz o u)) H') : Same H (upd H' d u) := fun b v hb => by
  by_cases hd : b = d
  · subst hd
    rw [upd_same, ← h]
    exact hb
  · rw [upd_ne hd]
    exact e b v (by rw [upd_ne hd]; exact hb)
/-! ### rules whose reading speaks of the written part, the same in a comprehension's block -/
section
variable {X : Cx} {K : PySem.W.Frag}
theorem lenK (hK : X.K = K := by rfl) : CallR X (.builtin "len") (fun xs H Q => ∃ p ys, xs = [.ref p] ∧ (SqL K H p ys ∨ SqT K H p ys) ∧ Q (.int ys.length) H) := by subst hK; exact call_len_seq
theorem ixTK (hK : X.K = K := by rfl) : IxR X (rIxT K) := by subst hK; exact ix_tup
theorem ixLK (hK : X.K = K := by rfl) : IxR X (rIxL K) := by subst hK; exact ix_list
theorem allK (hc : X.calm = true := by rfl) (hK : X.K = K := by rfl) : CallR X (.builtin "all") (rAll K) := by subst hK; exact cr_all hc
theorem tupleK (hK : X.K = K := by rfl) : CallR X (.type "tuple") (fun xs H Q => ∃ p ys, xs = [.ref p] ∧ ((SqL K H p ys ∧ ∀ l, H l = none → Q (.ref l) (upd H l (.tup ys))) ∨ (SqT K H p ys ∧ Q (.ref p) H))) := by subst hK; exact call_tuple_of
theorem isiK (hK : X.K = K := by rfl) : CallR X (.builtin "isinstance") (rIsi K) := by subst hK; exact call_isi
theorem repTK (hK : X.K = K := by rfl) : OpR X (binaryOp .Mult) (rRepT K) := by subst hK; exact op_repT
theorem pa_starK {e : Expr} {es : List Expr} {te : TE} {t : TA} {p : Pos} (he : PE X e te) (hr : PA X es t) (hK : X.K = K := by rfl) (hs : starEach (.Starred e p :: es) X.env = (true, eval e X.env) :: starEach es X.env := by rfl) : PA X (.Starred e p :: es) (StX.tStar K te t) := by subst hK; exact StX.pa_star he hr hs
theorem indexK (hK : X.K = K := by rfl) (hu : X.A.units + 65 < cLine) : MtR X "list.index" (rIndexD K) := by subst hK; exact mt_indexD hu
end
/-! ### what is walked, made first -/
section
variable {K : PySem.W.Frag} {tl : TE} {g : TG} {tt : TT} {te tk tv : TE} {vs : List Nat} {σ : L2.St} {H : Hp} {Q : VK} {P : V → Hp → Prop}
theorem dc_bind (hl : Ev tl σ H P) (k : ∀ v H1, Same H H1 → P v H1 → tDc (iList K (tC v)) g tt tk tv vs σ H1 Q) : tDc (iList K tl) g tt tk tv vs σ H Q := hl _ fun v H1 e p => k v H1 e p
theorem lc_bind (hl : Ev tl σ H P) (k : ∀ v H1, Same H H1 → P v H1 → tLc (iList K (tC v)) g tt te vs σ H1 Q) : tLc (iList K tl) g tt te vs σ H Q := hl _ fun v H1 e p => k v H1 e p
theorem lc_bindT (hl : Ev tl σ H P) (k : ∀ v H1, Same H H1 → P v H1 → tLc (iTup K (tC v)) g tt te vs σ H1 Q) : tLc (iTup K tl) g tt te vs σ H Q := hl _ fun v H1 e p => k v H1 e p
end
end Tm

namespace Tm
open PySem PySem.Spec PyProof.Rows L2
local macro_rules | `(tactic| walk_at "x") => `(tactic| dsimp only [tNext, tRet, tSeq, tCB, tCons, tNil, tAsg, tDrop])
def top (i : Nat) : Stmt := PySem.Challenge.pw_teamtells_k10_plans_told.main.body.getD i (.Pass ⟨0, 0, 0, 0⟩)
/-- names of the built-in things, that the top leaves alone -/
structure Bt (mg : Str → Option Value) : Prop where
  isinstance : mg "isinstance" = none
  int : mg "int" = none
  bool : mg "bool" = none
  str : mg "str" = none
  tuple : mg "tuple" = none
  list : mg "list" = none
  dict : mg "dict" = none
  len : mg "len" = none
  all : mg "all" = none
  range : mg "range" = none
  enumerate : mg "enumerate" = none
  sorted : mg "sorted" = none
  min : mg "min" = none
  max : mg "max" = none
  abs : mg "abs" = none
/-- a def of the top -/
structure Df (K : PySem.W.Frag) (mg : Str → Option Value) (x : Str) (st : Stmt) (ps : List Str) : Prop where
  ex : ∃ (f : Addr) (fd : FuncData), mg x = some (.ref f) ∧ PySem.W.keepIn K (.ref f) = true ∧ Fun K x x st f fd ∧ Binds K fd ps []
section
variable {P : Program} {w : World} {K : PySem.W.Frag} {mg : Str → Option Value} {base : Heap}
theorem Df.ok {x : Str} {st : Stmt} {ps N : List Str} {k : Nat} {sp : Sp} (D : Df K mg x st ps) (S : FnScope N ps (defScope st)) (len : ∀ vs H Q E, sp vs H Q E → vs.length = ps.length)
    (hb : ∀ (f : Addr) (cdv : Value) (A : Around) (outer : List Env) (s : Shared) (H : Hp) (vs : List V) (Q : VK) (E : XK), Room k (A.deeper (envOfC x (defScope st) s.heap.objs.size f cdv)) → sp vs H Q E →
      ∃ t, PSs (cxOf CX0 P w K mg base N x (defScope st) f cdv A outer s H E).nox (defBody st) t ∧ t { nx := fun _ H' => Q .non H', rt := Q } (start N vs) H) : Ok P w K mg base x (k + 1) ps sp := by
  obtain ⟨f, fd, h1, h2, h3, h4⟩ := D.ex
  exact ⟨f, fd, h1, h2, h3.ok S len (fun cdv A outer s H vs Q E hr h => hb f cdv A outer s H vs Q E hr h), h4⟩
/-! ### is_number_in, need_number -/
abbrev s_num : Stmt := top 10
theorem sc_num : FnScope ["value", "least", "most"] ["value", "least", "most"] (defScope s_num) := ⟨rfl, rfl, rfl, by decide +kernel, rfl, by decide +kernel, by decide +kernel⟩
def sp_num : Sp := fun vs H Q _ => ∃ n lo hi : Int, vs = [.int n, .int lo, .int hi] ∧ Q (.bl (decide (lo ≤ n) && decide (n ≤ hi))) H
theorem ok_num (B : Bt mg) (D : Df K mg "is_number_in" s_num ["value", "least", "most"]) : Ok P w K mg base "is_number_in" 1 ["value", "least", "most"] sp_num := by
  refine D.ok sc_num (fun vs H Q E h => ?_) (fun f cdv A outer s H vs Q E hr h => ?_)
  · obtain ⟨n, lo, hi, rfl, _⟩ := h
    rfl
  · obtain ⟨n, lo, hi, rfl, q⟩ := h
    refine ⟨_, pss_one (ps_ret (pe_and (pe_callB call_isi (by rfl) B.isinstance (by decide +kernel) (pa_cons (pv 0) (pa_cons (pe_ty (n := "int") (by rfl) B.int (by decide +kernel)) (pa_nil)))) (pe_and (pe_not (pe_callB call_isi (by rfl) B.isinstance (by decide +kernel) (pa_cons (pv 0) (pa_cons (pe_ty (n := "bool") (by rfl) B.bool (by decide +kernel)) (pa_nil))))) (pe_one (pe_chain op_le op_le (pv 1) (pv 0) (pv 2)))))), ?_⟩
    refine ⟨_, rfl, .int n, .ty "int", _, _, true, rfl, .ty "int", .base (.int n), kit_ty (by decide +kernel), ?_⟩
    refine ⟨_, rfl, ?_⟩; refine iteT ?_
    refine ⟨_, rfl, .int n, .ty "bool", _, _, false, rfl, .ty "bool", .base (.int n), kit_ty (by decide +kernel), ?_⟩
    refine ⟨_, rfl, true, rfl, ?_⟩; refine iteT ?_
    refine ⟨_, rfl, _, rfl, _, _, rfl, rfl, _, rfl, ite2 (fun h1 => ?_) (fun h1 => ?_)⟩
    · refine ⟨_, rfl, _, _, rfl, rfl, ?_⟩
      rw [show decide (lo ≤ n) = true from h1, Bool.true_and] at q
      exact q
    · have e : decide (lo ≤ n) = false := by simpa using h1
      rw [e, Bool.false_and] at q
      exact q
abbrev s_need : Stmt := top 11
theorem sc_need : FnScope ["value", "least", "most"] ["value", "least", "most"] (defScope s_need) := ⟨rfl, rfl, rfl, by decide +kernel, rfl, by decide +kernel, by decide +kernel⟩
/-- the number is let -/
def sp_need : Sp := fun vs H Q _ => ∃ n lo hi : Int, vs = [.int n, .int lo, .int hi] ∧ lo ≤ n ∧ n ≤ hi ∧ Q .non H
theorem ok_need (O_num : Ok P w K mg base "is_number_in" 1 ["value", "least", "most"] sp_num) (D : Df K mg "need_number" s_need ["value", "least", "most"]) : Ok P w K mg base "need_number" 2 ["value", "least", "most"] sp_need := by
  refine D.ok sc_need (fun vs H Q E h => ?_) (fun f cdv A outer s H vs Q E hr h => ?_)
  · obtain ⟨n, lo, hi, rfl, _⟩ := h
    rfl
  · obtain ⟨n, lo, hi, rfl, h1, h2, q⟩ := h
    refine ⟨_, pss_one (ps_if (pt_not (pt_val (O_num.call hr (ha := pa_cons (pv 0) (pa_cons (pv 1) (pa_cons (pv 2) pa_nil)))))) (pss_one ps_never) pss_nil), ?_⟩
    refine ⟨_, rfl, _, rfl, _, rfl, n, lo, hi, rfl, _, rfl, ?_⟩
    rw [decide_eq_true h1, decide_eq_true h2]
    exact iteF q
/-! ### is_name -/
abbrev s_name : Stmt := top 18
theorem sc_name : FnScope ["value", "letter"] ["value"] (defScope s_name) := ⟨rfl, rfl, rfl, by decide +kernel, rfl, by decide +kernel, by decide +kernel⟩
def sp_name : Sp := fun vs H Q _ => ∃ x : Str, vs = [.str x] ∧ okName x = true ∧ ∀ H', Same H H' → Q (.bl true) H'
theorem ok_name (B : Bt mg) (G : Gb mg) (D : Df K mg "is_name" s_name ["value"]) : Ok P w K mg base "is_name" 1 ["value"] sp_name := by
  refine D.ok sc_name (fun vs H Q E h => ?_) (fun f cdv A outer s H vs Q E hr h => ?_)
  · obtain ⟨x, rfl, _⟩ := h
    rfl
  · obtain ⟨x, rfl, hx, q⟩ := h
    unfold okName at hx
    simp only [Bool.and_eq_true, decide_eq_true_eq] at hx
    obtain ⟨⟨h1, h8⟩, ha⟩ := hx
    refine ⟨_, pss_cons (ps_if (PW.pt (pw_or (pt_not (pt_val (pe_callB call_isi (by rfl) B.isinstance (by decide +kernel) (pa_cons (pv 0) (pa_cons (pe_ty (n := "str") (by rfl) B.str (by decide +kernel)) pa_nil))))) (pw_or1 (pt_not (pt_chain op_le op_le pe_int (pe_callB call_len_str (by rfl) B.len (by decide +kernel) (pa_cons (pv 0) pa_nil)) G.MAX_LETTERS.pe)))))
        (pss_one (ps_ret pe_bl)) pss_nil)
      (pss_one (ps_ret (pe_callB (cr_all rfl) (by rfl) B.all (by decide +kernel) (pa_cons (pe_lc (own := [("letter", 1)]) (g := gName 1) (tt := tYes) rfl sc_name.nd (pi_str (pv 0)) (blkOk_by (own := [("letter", 1)]) (N := ["value", "letter"]) (sc := defScope s_name) (by decide +kernel)) (fun _ _ _ _ _ => pg_name (i := 1) sc_name.nd rfl (.inl rfl)) (fun _ _ _ _ _ => pts_nil) (fun _ _ _ _ _ => pe_cmpR op_in_sign (pv 1) G.ALPHABET.pe rfl)) pa_nil)))), ?_⟩
    refine ⟨_, rfl, .str x, .ty "str", _, _, true, rfl, .ty "str", .base (.str x), kit_ty (by decide +kernel), _, rfl, ?_⟩
    refine ifF rfl ?_
    refine ⟨_, rfl, x, rfl, sz_le (by omega), _, _, rfl, rfl, _, rfl, ?_⟩
    refine ifT (decide_eq_true (by omega)) ?_
    refine ⟨_, _, rfl, rfl, _, rfl, ?_⟩
    refine ifF (by rw [decide_eq_true (show (x.length : Int) ≤ 8 by omega)]; rfl) ?_
    walk_at "x"
    refine lc_runS (x0 := x) (ev_is rfl rfl) x.cps.toList (Array.length_toList ..) (fun _ => true) (fun c v _ => v = V.bl (decide (c ∈ (PySem.Str.ofString "abcdefghijklmnopqrstuvwxyz").cps.toList))) (by rw [Array.length_toList]; show x.length ≤ 100000; omega) (by intro _; rfl) (fun _ _ _ _ _ h => h)
      (fun i z v H hi y e => ⟨evt_yes, fun _ H3 e3 Q q => ?_⟩) (fun p H ys hp e hl hP => ?_)
    · obtain ⟨c, hc, rfl⟩ := y
      have ez : c = z := by
        rw [Array.getElem?_toList, hc] at hi
        exact Option.some.inj hi
      subst ez
      exact ⟨_, rfl, c, _, rfl, rfl, q _ _ (Same.refl _) rfl⟩
    · rw [filter_all] at hP
      have ey := bools_all _ hP
      rw [ey] at hl
      refine ⟨p, _, rfl, SqL.of hl, ?_⟩
      rw [all_id_map, List.all_eq_true.mpr fun c hc => alpha_in (List.all_eq_true.mp ha c hc)]
      exact q H e
/-! ### _is_pair, _is_row -/
abbrev s_pair : Stmt := top 20
theorem sc_pair : FnScope ["value", "size"] ["value", "size"] (defScope s_pair) := ⟨rfl, rfl, rfl, by decide +kernel, rfl, by decide +kernel, by decide +kernel⟩
def sp_pair : Sp := fun vs H Q _ => ∃ (v : V) (p : Int × Int) (n : Nat), vs = [v, .int n] ∧ PairV H v p ∧ okPair n p = true ∧ Q (.bl true) H
theorem ok_pair (B : Bt mg) (G : Gb mg) (O_is_number_in : Ok P w K mg base "is_number_in" 1 ["value", "least", "most"] sp_num) (D : Df K mg "_is_pair" s_pair ["value", "size"]) : Ok P w K mg base "_is_pair" 2 ["value", "size"] sp_pair := by
  refine D.ok sc_pair (fun vs H Q E h => ?_) (fun f cdv A outer s H vs Q E hr h => ?_)
  · obtain ⟨v, p, n, rfl, _⟩ := h
    rfl
  · obtain ⟨v, p, n, rfl, ⟨a, rfl, ha⟩, hp, q⟩ := h
    unfold okPair at hp
    simp only [Bool.and_eq_true, decide_eq_true_eq] at hp
    obtain ⟨⟨⟨h1, h2⟩, h3⟩, h4⟩ := hp
    refine ⟨_, pss_cons (ps_if (PW.pt (pw_or (pt_not (pt_val (pe_callB call_isi (by rfl) B.isinstance (by decide +kernel) (pa_cons (pv 0) (pa_cons (pe_ty (n := "tuple") (by rfl) B.tuple (by decide +kernel)) (pa_nil)))))) (pw_or1 (pt_cmpR op_ne (pe_callB (lenK (K := K)) (by rfl) B.len (by decide +kernel) (pa_cons (pv 0) (pa_nil))) (pe_int) (nomark _)))))
        (pss_one (ps_ret (pe_bl)))
        (pss_nil))
      (pss_one (ps_ret (pe_and (O_is_number_in.call hr (ha := pa_cons (pe_ix ix_tup (pv 0) (pe_int) (fun _ _ => rfl)) (pa_cons (pe_int) (pa_cons (pe_op op_sub (pv 1) (pe_int)) (pa_nil))))) (pe_one (O_is_number_in.call hr (ha := pa_cons (pe_ix ix_tup (pv 0) (pe_int) (fun _ _ => rfl)) (pa_cons (pe_int) (pa_cons (G.MAX_ANSWER.pe) (pa_nil))))))))), ?_⟩
    refine ⟨_, rfl, .ref a, .ty "tuple", _, _, true, rfl, .ty "tuple", .base (.tup ha), kit_ty (by decide +kernel), _, rfl, ?_⟩
    refine ifF rfl ?_
    refine ⟨_, rfl, a, _, rfl, .inr (SqT.of ha), rfl, _, rfl, ?_⟩
    refine ifF (by simp) ?_
    refine ⟨_, rfl, a, _, 0, _, rfl, rfl, SqT.of ha, rfl, _, rfl, n, 1, rfl, rfl, p.1, 0, (n : Int) - 1, rfl, _, rfl, ?_⟩
    refine ifT (by rw [decide_eq_true h1, decide_eq_true h2]; rfl) ?_
    refine ⟨_, rfl, a, _, 1, _, rfl, rfl, SqT.of ha, rfl, p.2, 0, 99, rfl, ?_⟩
    rw [decide_eq_true h3, decide_eq_true h4]
    exact q
abbrev s_row : Stmt := top 21
theorem sc_row : FnScope ["value", "size", "pair"] ["value", "size"] (defScope s_row) := ⟨rfl, rfl, rfl, by decide +kernel, rfl, by decide +kernel, by decide +kernel⟩
def sp_row : Sp := fun vs H Q _ => ∃ (v : V) (r : Row) (n : Nat), vs = [v, .int n] ∧ RowV H v r ∧ okRow n r = true ∧ n ≤ 12 ∧ ∀ H', Same H H' → Q (.bl true) H'
theorem ok_row (B : Bt mg) (G : Gb mg) (O_is_pair : Ok P w K mg base "_is_pair" 2 ["value", "size"] sp_pair) (D : Df K mg "_is_row" s_row ["value", "size"]) : Ok P w K mg base "_is_row" 3 ["value", "size"] sp_row := by
  refine D.ok sc_row (fun vs H Q E h => ?_) (fun f cdv A outer s H vs Q E hr h => ?_)
  · obtain ⟨v, p, n, rfl, _⟩ := h
    rfl
  · obtain ⟨v, r, n, rfl, ⟨a, xs, rfl, ha, hx⟩, hp, h12, q⟩ := h
    unfold okRow at hp
    simp only [Bool.and_eq_true, decide_eq_true_eq] at hp
    obtain ⟨hl, hall⟩ := hp
    have hlx := Paired.length hx
    refine ⟨_, pss_cons (ps_if (PW.pt (pw_or (pt_not (pt_val (pe_callB call_isi (by rfl) B.isinstance (by decide +kernel) (pa_cons (pv 0) (pa_cons (pe_ty (n := "tuple") (by rfl) B.tuple (by decide +kernel)) (pa_nil)))))) (pw_or1 (pt_cmpR op_ne (pe_callB (lenK (K := K)) (by rfl) B.len (by decide +kernel) (pa_cons (pv 0) (pa_nil))) (pv 1) (nomark _)))))
        (pss_one (ps_ret (pe_bl)))
        (pss_nil))
      (pss_one (ps_ret (pe_callB (cr_all rfl) (by rfl) B.all (by decide +kernel) (pa_cons (pe_lc (own := [("pair", 2)]) (g := gName 2) (tt := tYes) rfl sc_row.nd (pi_tup (pv 0)) (blkOk_by (own := [("pair", 2)]) (N := ["value", "size", "pair"]) (sc := defScope s_row) (by decide +kernel)) (fun _ _ _ _ _ => pg_name (i := 2) sc_row.nd rfl (.inl rfl)) (fun _ _ _ _ _ => pts_nil) (fun _ _ _ _ _ => O_is_pair.call hr (ha := pa_cons (pv 2) (pa_cons (pv 1) (pa_nil))))) (pa_nil))))), ?_⟩
    refine ⟨_, rfl, .ref a, .ty "tuple", _, _, true, rfl, .ty "tuple", .base (.tup ha), kit_ty (by decide +kernel), _, rfl, ?_⟩
    refine ifF rfl ?_
    refine ⟨_, rfl, a, _, rfl, .inr (SqT.of ha), _, rfl, rfl, _, rfl, ?_⟩
    refine ifF (by rw [hlx, hl]; simp) ?_
    walk_at "x"
    refine lc_runT (K := K) (xs := xs) (ev_is rfl ⟨a, rfl, SqT.of ha⟩) r hlx (fun _ => true) (fun z v _ => v = V.bl (okPair n z)) (by omega) (by intro _; rfl) (fun _ _ _ _ _ h => h)
      (fun i z v H1 hi y e => ⟨evt_yes, fun _ H3 e3 Q q => ?_⟩) (fun p H1 ys hp e hl' hP => ?_)
    · obtain ⟨z', hz', hpz⟩ := paired_ix2 hx y
      rw [hi] at hz'
      cases hz'
      have hok : okPair n z = true := List.all_eq_true.mp hall z (List.mem_of_getElem? hi)
      exact ⟨_, rfl, _, rfl, v, z, n, rfl, hpz.mono (tups_of (e.trans e3)), hok, q _ _ (Same.refl _) (by rw [hok])⟩
    · rw [filter_all] at hP
      have ey := bools_all _ hP
      rw [ey] at hl'
      refine ⟨p, _, rfl, SqL.of hl', ?_⟩
      rw [all_id_map, hall]
      exact q H1 e
/-! ### _is_table -/
abbrev s_table : Stmt := top 22
theorem sc_table : FnScope ["value", "first", "name", "row"] ["value"] (defScope s_table) := ⟨rfl, rfl, rfl, by decide +kernel, rfl, by decide +kernel, by decide +kernel⟩
def sp_table : Sp := fun vs H Q _ => ∃ (a : Addr) (kvs : List (L2.Key × V)) (t : Tab), vs = [.ref a] ∧ H a = some (.dK kvs) ∧ TabV H kvs t ∧ okTab t = true ∧ ∀ H', Same H H' → Q (.bl true) H'
theorem ok_table (B : Bt mg) (G : Gb mg) (O_is_name : Ok P w K mg base "is_name" 1 ["value"] sp_name) (O_is_row : Ok P w K mg base "_is_row" 3 ["value", "size"] sp_row) (D : Df K mg "_is_table" s_table ["value"]) : Ok P w K mg base "_is_table" 4 ["value"] sp_table := by
  refine D.ok sc_table (fun vs H Q E h => ?_) (fun f cdv A outer s H vs Q E hr h => ?_)
  · obtain ⟨a, kvs, t, rfl, _⟩ := h
    rfl
  · obtain ⟨a, kvs, t, rfl, ha, ht, hok, q⟩ := h
    unfold okTab at hok
    simp only [Bool.and_eq_true, decide_eq_true_eq] at hok
    obtain ⟨⟨⟨⟨h1, h6⟩, hs1⟩, hs12⟩, hall⟩ := hok
    have hlen := Paired.length ht
    obtain ⟨e0, t', rfl⟩ : ∃ e0 t', t = e0 :: t' := by
      cases t with
      | nil => simp at h1
      | cons e0 t' => exact ⟨e0, t', rfl⟩
    obtain ⟨kv0, kvs', rfl⟩ : ∃ kv0 kvs', kvs = kv0 :: kvs' := by
      cases kvs with
      | nil => simp at hlen
      | cons kv0 kvs' => exact ⟨kv0, kvs', rfl⟩
    have hz : kv0.1 = Sum.inr e0.1 ∧ RowV H kv0.2 e0.2 := by
      cases ht with
      | cons r _ => exact r
    obtain ⟨_, b, rs, eb, hb, hrs⟩ := hz
    have hrl := Paired.length hrs
    have hsz : sizeT (e0 :: t') = e0.2.length := rfl
    refine ⟨_, pss_cons (ps_if (PW.pt (pw_or (pt_not (pt_val (pe_callB call_isi (by rfl) B.isinstance (by decide +kernel) (pa_cons (pv 0) (pa_cons (pe_ty (n := "dict") (by rfl) B.dict (by decide +kernel)) (pa_nil)))))) (pw_or1 (pt_not (pt_chain op_le op_le (pe_int) (pe_callB call_lenD (by rfl) B.len (by decide +kernel) (pa_cons (pv 0) (pa_nil))) (G.MAX_OPERATIONS.pe))))))
        (pss_one (ps_ret (pe_bl)))
        (pss_nil))
      (pss_cons (ps_set (i := 1) sc_table.nd rfl (.inr rfl) (pe_ix ix_list (pe_listVals rfl (pv 0) (by rfl) B.list) (pe_int) (fun _ _ => rfl)))
      (pss_cons (ps_if (PW.pt (pw_or (pt_not (pt_val (pe_callB call_isi (by rfl) B.isinstance (by decide +kernel) (pa_cons (pv 1) (pa_cons (pe_ty (n := "tuple") (by rfl) B.tuple (by decide +kernel)) (pa_nil)))))) (pw_or1 (pt_not (pt_chain op_le op_le (pe_int) (pe_callB (lenK (K := K)) (by rfl) B.len (by decide +kernel) (pa_cons (pv 1) (pa_nil))) (G.MAX_STATES.pe))))))
        (pss_one (ps_ret (pe_bl)))
        (pss_nil))
      (pss_one (ps_ret (pe_callB (cr_all rfl) (by rfl) B.all (by decide +kernel) (pa_cons (pe_lock (pe_lc (own := [("name", 2), ("row", 3)]) (g := gTup K 2 (gCons (gName 2) (gCons (gName 3) (gNil)))) (tt := tYes) rfl sc_table.nd (pi_items (pv 0)) (blkOk_by (own := [("name", 2), ("row", 3)]) (N := ["value", "first", "name", "row"]) (sc := defScope s_table) (by decide +kernel)) (fun _ _ _ _ _ => pg_tup (by rfl) (pgs_cons (pg_name (i := 2) sc_table.nd rfl (.inl rfl)) (pgs_cons (pg_name (i := 3) sc_table.nd rfl (.inl rfl)) (pgs_nil)))) (fun _ _ _ _ _ => pts_nil) (fun _ _ _ _ _ => pe_and (O_is_name.call hr (ha := pa_cons (pv 2) (pa_nil))) (pe_one (O_is_row.call hr (ha := pa_cons (pv 3) (pa_cons (pe_callB (lenK (K := K)) (by rfl) B.len (by decide +kernel) (pa_cons (pv 1) (pa_nil))) (pa_nil)))))))) (pa_nil))))))), ?_⟩
    refine ⟨_, rfl, .ref a, .ty "dict", _, _, true, rfl, .ty "dict", .base (.dK ha), kit_ty (by decide +kernel), _, rfl, ?_⟩
    refine ifF rfl ?_
    refine ⟨_, rfl, a, _, rfl, ha, _, _, rfl, rfl, _, rfl, ?_⟩
    refine ifT (decide_eq_true (by rw [hlen]; omega)) ?_
    refine ⟨_, _, rfl, rfl, _, rfl, ?_⟩
    refine ifF (by rw [decide_eq_true (by rw [hlen]; omega)]; rfl) ?_
    refine ⟨_, rfl, a, _, rfl, ha, fun p hp => ?_⟩
    refine ⟨p, _, 0, kv0.2, rfl, rfl, SqL.of upd_same, at_of (j := 0) rfl rfl, ?_⟩
    rw [eb]
    have e1 : Same H (upd H p (.lst (List.map (·.2) (kv0 :: kvs')))) := same_new hp
    generalize upd H p (.lst (List.map (·.2) (kv0 :: kvs'))) = H1 at e1 ⊢
    refine ⟨_, rfl, .ref b, .ty "tuple", _, _, true, rfl, .ty "tuple", .base (.tup (e1 _ _ hb)), kit_ty (by decide +kernel), _, rfl, ?_⟩
    refine ifF rfl ?_
    refine ⟨_, rfl, b, _, rfl, .inr (SqT.of (e1 _ _ hb)), _, _, rfl, rfl, _, rfl, ?_⟩
    refine ifT (decide_eq_true (by rw [hrl]; omega)) ?_
    refine ⟨_, _, rfl, rfl, _, rfl, ?_⟩
    refine ifF (by rw [decide_eq_true (by rw [hrl]; omega)]; rfl) ?_
    walk_at "x"
    refine ⟨a, .dK (kv0 :: kvs'), e1 _ _ ha, trivial, fun od => ?_⟩
    have tu : TupS H1 (upd H1 a (.frz od (.dK (kv0 :: kvs')))) := lock_in (e1 _ _ ha) (fun xs z => by cases z)
    refine lc_runI (K := K) (o := od) (kvs := kv0 :: kvs') (ev_is rfl rfl) upd_same (e0 :: t') hlen.symm (fun _ => true) (fun z v _ => v = V.bl true) (by omega) (by intro _ _; rfl) (fun _ _ _ _ _ h => h)
      (fun i z kv H2 hi hk e => ⟨evt_yes, fun _ H3 e3 Q q => ?_⟩) (fun p2 H2 ys hp2 e2 hl' hP => ?_)
    · obtain ⟨z', hz', hk1, hk2⟩ := paired_ix2 ht hk
      rw [hi] at hz'
      cases hz'
      have hin := List.all_eq_true.mp hall z (List.mem_of_getElem? hi)
      rw [Bool.and_eq_true] at hin
      have t3 : TupS H H3 := ((tups_of e1).trans tu).trans (tups_of (e.trans e3))
      refine ⟨_, rfl, z.1, by rw [hk1]; rfl, hin.1, fun H4 e4 => ⟨_, rfl, ?_⟩⟩
      refine ifT rfl ?_
      refine ⟨_, rfl, _, rfl, b, _, rfl, .inr (SqT.of (e4 _ _ (t3 _ _ hb))), kv.2, z.2, e0.2.length, by rw [hrl]; rfl, hk2.mono (t3.trans (tups_of e4)), hin.2, hs12, fun H5 e5 => q _ _ (e4.trans e5) rfl⟩
    · rw [filter_all] at hP
      have ey := bools_all (fun _ => true) hP
      rw [ey] at hl'
      have np : p2 ≠ a := fun z => by rw [z, upd_same] at hp2; cases hp2
      refine ⟨e2 _ _ upd_same, p2, _, rfl, SqL.of (by rw [upd_ne np]; exact hl'), ?_⟩
      rw [all_id_map, List.all_eq_true.mpr fun _ _ => rfl]
      exact q _ (e1.trans (lock_out (e1 _ _ ha) e2))
end
end Tm

namespace Tm
open PySem PySem.Spec PyProof.Rows L2
local macro_rules | `(tactic| walk_at "x") => `(tactic| dsimp only [tNext, tRet, tSeq, tCB, tCons, tNil, tAsg, tDrop])
/-! ### the class -/
structure DfM (K : PySem.W.Frag) (C : Addr) (m q : Str) (st : Stmt) (ps : List Str) : Prop where
  ex : ∃ (f : Addr) (fd : FuncData), Meth K C m f ∧ Fun K m q st f fd ∧ Binds K fd ps []
structure DfP (K : PySem.W.Frag) (C : Addr) (m q : Str) (st : Stmt) : Prop where
  ex : ∃ (p g : Addr) (fd : FuncData), PropOf K C m p g ∧ Fun K m q st g fd ∧ Binds K fd ["self"] []
structure DfC (K : PySem.W.Frag) (mg : Str → Option Value) (x : Str) (C : Addr) (q : Str) (st : Stmt) (ps : List Str) : Prop where
  ex : ∃ (f : Addr) (fd : FuncData), mg x = some (.ref C) ∧ Mk K C f ∧ Fun K "__init__" q st f fd ∧ Binds K fd ps []
structure DfIn (K : PySem.W.Frag) (C : Addr) (q : Str) (st : Stmt) (ps : List Str) : Prop where
  ex : ∃ (f : Addr) (fd : FuncData), InM K C f ∧ Fun K "__contains__" q st f fd ∧ Binds K fd ps []
/-- a body of the text keeps its promise -/
def BodyOk (P : Program) (w : World) (K : PySem.W.Frag) (mg : Str → Option Value) (base : Heap) (q : Str) (st : Stmt) (N : List Str) (k : Nat) (sp : Sp) : Prop :=
  ∀ (f : Addr) (cdv : Value) (A : Around) (outer : List Env) (s : Shared) (H : Hp) (vs : List V) (Q : VK) (E : XK), Room k (A.deeper (envOfC q (defScope st) s.heap.objs.size f cdv)) → sp vs H Q E →
      ∃ t, PSs (cxOf CX0 P w K mg base N q (defScope st) f cdv A outer s H E).nox (defBody st) t ∧ t { nx := fun _ H' => Q .non H', rt := Q } (start N vs) H
section
variable {P : Program} {w : World} {K : PySem.W.Frag} {mg : Str → Option Value} {base : Heap} {C : Addr} {m q x : Str} {st : Stmt} {ps N : List Str} {k : Nat} {sp : Sp}
theorem DfM.ok (D : DfM K C m q st ps) (S : FnScope N ps (defScope st)) (len : ∀ vs H Q E, sp vs H Q E → vs.length = ps.length) (hb : BodyOk P w K mg base q st N k sp) : OkM P w K mg base C m (k + 1) ps sp := by
  obtain ⟨f, fd, h1, h2, h3⟩ := D.ex
  exact ⟨f, fd, h1, h2.ok S len (fun cdv A outer s H vs Q E hr h => hb f cdv A outer s H vs Q E hr h), h3⟩
theorem DfP.ok (D : DfP K C m q st) (S : FnScope N ["self"] (defScope st)) (len : ∀ vs H Q E, sp vs H Q E → vs.length = 1) (hb : BodyOk P w K mg base q st N k sp) : OkP P w K mg base C m (k + 1) sp := by
  obtain ⟨p, g, fd, h1, h2, h3⟩ := D.ex
  exact ⟨p, g, fd, h1, h2.ok S len (fun cdv A outer s H vs Q E hr h => hb g cdv A outer s H vs Q E hr h), h3⟩
theorem DfC.ok (D : DfC K mg x C q st ps) (S : FnScope N ps (defScope st)) (len : ∀ vs H Q E, sp vs H Q E → vs.length = ps.length) (hb : BodyOk P w K mg base q st N k sp) : OkC P w K mg base x C (k + 1) ps sp := by
  obtain ⟨f, fd, h0, h1, h2, h3⟩ := D.ex
  exact ⟨f, fd, h0, h1, h2.ok S len (fun cdv A outer s H vs Q E hr h => hb f cdv A outer s H vs Q E hr h), h3⟩
theorem DfIn.ok (D : DfIn K C q st ps) (S : FnScope N ps (defScope st)) (len : ∀ vs H Q E, sp vs H Q E → vs.length = ps.length) (hb : BodyOk P w K mg base q st N k sp) : OkIn P w K mg base C (k + 1) ps sp := by
  obtain ⟨f, fd, h1, h2, h3⟩ := D.ex
  exact ⟨f, fd, h1, h2.ok S len (fun cdv A outer s H vs Q E hr h => hb f cdv A outer s H vs Q E hr h), h3⟩
end
/-- what is true of the class Kind -/
structure Kc (K : PySem.W.Frag) (C : Addr) : Prop where
  cl : Cls K C
  nT : NoAttr K C "_table"
  nS : NoAttr K C "_size"
def kflds (d : Addr) (n : Int) : List (Str × V) := [("_table", .ref d), ("_size", .int n)]
theorem kT_ne : ¬ (("_table" : Str) = "_size") := by decide +kernel
theorem kf_put (d : Addr) (n : Int) : putF "_size" (.int n) (putF "_table" (.ref d) []) = kflds d n := by
  show (if ("_table" : Str) = "_size" then _ else (("_table" : Str), V.ref d) :: putF "_size" (V.int n) []) = _
  rw [if_neg kT_ne]
  rfl
theorem kf_T (d : Addr) (n : Int) : (kflds d n).lookup ("_table" : Str) = some (.ref d) := by simp [kflds, List.lookup]
theorem kf_S (d : Addr) (n : Int) : (kflds d n).lookup ("_size" : Str) = some (.int n) := by
  have h : (("_size" : Str) == ("_table" : Str)) = false := by decide +kernel
  simp [kflds, List.lookup, h]
theorem kf_no (d : Addr) (n : Int) {m : Str} (h1 : (m == ("_table" : Str)) = false := by decide +kernel) (h2 : (m == ("_size" : Str)) = false := by decide +kernel) : (kflds d n).lookup m = none := by
  simp [kflds, List.lookup, h1, h2]
def namesT (t : Tab) : List Str := t.map (·.1)
/-- at v a kind with the table t -/
def KindV (C : Addr) (H : Hp) (v : V) (t : Tab) : Prop := ∃ a dx d kvs, v = .ref a ∧ H a = some (.ins C dx (kflds d (sizeT t))) ∧ H d = some (.dK kvs) ∧ TabV H kvs t ∧ okTab t = true ∧ (namesT t).Nodup ∧ sortedS (namesT t) = true
theorem KindV.mono {C : Addr} {H H' : Hp} {v : V} {t : Tab} (e : Same H H') (h : KindV C H v t) : KindV C H' v t := by
  obtain ⟨a, dx, d, kvs, e1, e2, e3, e4, e5⟩ := h
  exact ⟨a, dx, d, kvs, e1, e _ _ e2, e _ _ e3, e4.mono (tups_of e), e5⟩
/-! ### look-ups in a table -/
theorem tabV_keys {H : Hp} {kvs : List (L2.Key × V)} {t : Tab} (h : TabV H kvs t) : kvs.map (·.1) = (namesT t).map Sum.inr := by
  unfold namesT
  rw [paired_keys (key := fun e : Str × Row => Sum.inr e.1) (fun kv z h => h.1) h, List.map_map]
  rfl
theorem valV_cons {kv : L2.Key × V} {kvs : List (L2.Key × V)} {k : L2.Key} : valV (kv :: kvs) k = if kv.1 = k then some kv.2 else valV kvs k := by
  unfold valV
  rw [List.find?_cons]
  by_cases h : kv.1 = k
  · rw [if_pos h, decide_eq_true h]; rfl
  · rw [if_neg h, decide_eq_false h]
theorem tab_look {H : Hp} : ∀ {kvs : List (L2.Key × V)} {t : Tab} {x : Str} {r : Row}, TabV H kvs t → (namesT t).Nodup → (x, r) ∈ t → ∃ v, valV kvs (Sum.inr x) = some v ∧ RowV H v r
  | _, _, x, r, .nil, _, hm => by simp at hm
  | kv :: kvs, e :: t, x, r, .cons h ht, nd, hm => by
    have nd' := List.nodup_cons.mp (show (e.1 :: namesT t).Nodup from nd)
    rw [valV_cons, h.1]
    rcases List.mem_cons.mp hm with e1 | hm
    · subst e1
      exact ⟨kv.2, if_pos rfl, h.2⟩
    · have hne : e.1 ≠ x := fun z => nd'.1 (by rw [z]; exact List.mem_map.mpr ⟨(x, r), hm, rfl⟩)
      rw [if_neg (fun z => hne (Sum.inr.inj z))]
      exact tab_look ht nd'.2 hm
theorem row_unique {t : Tab} {x : Str} {r r' : Row} (nd : (namesT t).Nodup) (h : (x, r) ∈ t) (h' : (x, r') ∈ t) : r = r' := by
  obtain ⟨i, hi, e⟩ := List.mem_iff_getElem.mp h
  obtain ⟨j, hj, e'⟩ := List.mem_iff_getElem.mp h'
  have q : (namesT t)[i]'(by simpa [namesT] using hi) = (namesT t)[j]'(by simpa [namesT] using hj) := by simp [namesT, e, e']
  have ij := (List.getElem_inj nd).mp q
  subst ij
  rw [e] at e'
  exact (Prod.mk.inj e').2
/-- from names with rows to a table -/
theorem tab_of {H : Hp} {t : Tab} : ∀ {kvs : List (L2.Key × V)} {ys : List Str}, Paired (fun kv z => kv.1 = Sum.inr z ∧ ∃ r, (z, r) ∈ t ∧ RowV H kv.2 r) kvs ys → ∃ t', TabV H kvs t' ∧ namesT t' = ys ∧ ∀ e ∈ t', e ∈ t
  | _, _, .nil => ⟨[], .nil, rfl, fun _ h => by simp at h⟩
  | kv :: kvs, z :: ys, .cons h ht => by
    obtain ⟨t', h1, h2, h3⟩ := tab_of ht
    obtain ⟨r, hr, hv⟩ := h.2
    refine ⟨(z, r) :: t', .cons ⟨h.1, hv⟩ h1, by show z :: namesT t' = _; rw [h2], fun e he => ?_⟩
    rcases List.mem_cons.mp he with z | z
    · rw [z]; exact hr
    · exact h3 e z
theorem nd_of_map {α β : Type} {l : List α} {f : α → β} (h : (l.map f).Nodup) : l.Nodup :=
  (List.pairwise_map.mp h).imp fun h e => h (congrArg f e)
theorem perm_of_names {t t' : Tab} (nd : (namesT t).Nodup) (hn : (namesT t').Perm (namesT t)) (hs : ∀ e ∈ t', e ∈ t) : t'.Perm t := by
  have nd' : (namesT t').Nodup := hn.nodup_iff.mpr nd
  have n1 : t.Nodup := nd_of_map nd
  have n2 : t'.Nodup := nd_of_map nd'
  refine (List.perm_ext_iff_of_nodup n2 n1).mpr fun e => ⟨hs e, fun he => ?_⟩
  have hm : e.1 ∈ namesT t' := hn.mem_iff.mpr (List.mem_map.mpr ⟨e, he, rfl⟩)
  obtain ⟨e', he', q⟩ := List.mem_map.mp hm
  have hr : e'.2 = e.2 := row_unique nd (x := e.1) (by rw [← q]; exact hs e' he') he
  have : e' = e := Prod.ext q hr
  rw [← this]; exact he'
theorem size_of_ok {t : Tab} (h : okTab t = true) : ∀ e ∈ t, e.2.length = sizeT t := fun e he => by
  unfold okTab at h
  simp only [Bool.and_eq_true] at h
  have q := List.all_eq_true.mp h.2 e he
  simp only [Bool.and_eq_true, okRow, decide_eq_true_eq] at q
  exact q.2.1
theorem size_perm {t t' : Tab} (h : okTab t = true) (p : t'.Perm t) : sizeT t' = sizeT t := by
  cases t' with
  | nil =>
    have := p.length_eq
    cases t with
    | nil => rfl
    | cons => simp at this
  | cons e t' =>
    show e.2.length = _
    exact size_of_ok h e (p.mem_iff.mp List.mem_cons_self)
theorem ok_perm {t t' : Tab} (h : okTab t = true) (p : t'.Perm t) : okTab t' = true := by
  have hs := size_perm h p
  unfold okTab at h ⊢
  rw [hs, p.length_eq]
  simp only [Bool.and_eq_true] at h ⊢
  refine ⟨h.1, List.all_eq_true.mpr fun e he => ?_⟩
  have := List.all_eq_true.mp h.2 e (p.mem_iff.mp he)
  simpa using this
end Tm

/-! What the top leaves: defs found by any path, facts, the tables of code objects. -/
namespace TmH
open PySem PySem.Spec PyProof.Rows L2 LamX He Tm
structure AD where
  ad : PySem.W.Frag → Addr
  name : Str
  qual : Str
  st : Stmt
def fnA (K : PySem.W.Frag) (a : Addr) : FnV := match K.lookup a with
  | some ⟨_, _, .func fd, _⟩ => some (fd.name, fd.qualname, fd.params, fd.body, fd.scope, fd.globals, fd.closure, fd.defaults, fd.builtins)
  | _ => none
def AD.val (d : AD) : FnV := some (d.name, d.qual, defArgs d.st, .stmts (defBody d.st), defScope d.st, mainGlobals, [], .none, builtinsNs)
def AD.ok (K : PySem.W.Frag) (d : AD) : Bool := PySem.W.keepIn K (.ref (d.ad K)) && (match K.lookup (d.ad K) with
  | some ⟨_, _, .func fd, _⟩ => PySem.W.codeIn K fd.code d.qual
  | _ => false)
structure FunA (K : PySem.W.Frag) (d : AD) : Prop where
  ex : ∃ (oc : Value) (od : Option Addr) (kV doc pm : Value) (an : Option Addr) (cdv ct : Value) (osl : Array (Option Value)),
    K.lookup (d.ad K) = some ⟨oc, od, .func (PySem.W.fnOf d.name d.qual (defArgs d.st) (defBody d.st) (defScope d.st) .none kV doc pm an cdv ct), osl⟩ ∧ PySem.W.codeIn K cdv d.qual = true
  kp : PySem.W.keepIn K (.ref (d.ad K)) = true
theorem AD.funA {K : PySem.W.Frag} {d : AD} (e : fnA K (d.ad K) = d.val) (c : d.ok K = true) : FunA K d := by
  obtain ⟨kp, c2⟩ := ba c
  refine ⟨?_, kp⟩
  unfold fnA at e
  cases q : K.lookup (d.ad K) with
  | none =>
    rw [q] at c2
    cases c2
  | some o =>
    obtain ⟨oc, od, dt, osl⟩ := o
    rw [q] at c2 e
    cases dt with
    | func fd =>
      obtain ⟨n1, n2, n3, n4, n5, n6, n7, n8, n9, n10, n11, n12, n13, n14, n15⟩ := fd
      have e2 : (some (n1, n2, n3, n4, n5, n6, n7, n8, n15) : FnV) = some (d.name, d.qual, defArgs d.st, .stmts (defBody d.st), defScope d.st, mainGlobals, [], .none, builtinsNs) := e
      simp only [Option.some.injEq, Prod.mk.injEq] at e2
      obtain ⟨h1, h2, h3, h4, h5, h6, h7, h8, h9⟩ := e2
      subst h1 h2 h3 h4 h5 h6 h7 h8 h9
      exact ⟨oc, od, n9, n10, n11, n12, n13, n14, osl, rfl, c2⟩
    | _ => cases c2
theorem FunA.fun_ {K : PySem.W.Frag} {d : AD} (F : FunA K d) : ∃ fd, Fun K d.name d.qual d.st (d.ad K) fd := by
  obtain ⟨oc, od, kV, doc, pm, an, cdv, ct, osl, l, c⟩ := F.ex
  exact ⟨_, fun_mk l c F.kp⟩
/-! ### the hook -/
abbrev AlY : Type := Bool × List FnV
def obsK (fa : List Fa) (ds : List AD) (ex : PySem.W.Frag → Bool) (K : PySem.W.Frag) : AlY := ((fa.all fun f => f.ok K) && ((ds.all fun d => d.ok K) && ex K), ds.map fun d => fnA K (d.ad K))
def valY (ds : List AD) : AlY := (true, ds.map AD.val)
def obsY (n : Nat) (fa : List Fa) (ds : List AD) (tf : List Defn) (ex : PySem.W.Frag → Bool) (g : Addr → Option Obj) : AlY × Bool := (obsK fa ds ex (frT g (asD g n)), tabsB g tf (frT g (asD g n)))
structure SaysY (fa : List Fa) (ds : List AD) (tf : List Defn) (ex : PySem.W.Frag → Bool) (h : Heap) (K : PySem.W.Frag) : Prop where
  k : obsK fa ds ex K = valY ds
  hd : ∀ p ∈ tf, PySem.W.codeHdIn K (cT K p).1 (cT K p).2 = true
  out : ∀ p ∈ tf, K.lookup (cT K p).2 = none
  empty : ∀ p ∈ tf, h.get? (cT K p).2 = some { cls := .none, data := .fields #[] }
theorem saysY_of {n : Nat} {fa : List Fa} {ds : List AD} {tf : List Defn} {ex : PySem.W.Frag → Bool} {h : Heap} (e : obsY n fa ds tf ex h.get? = (valY ds, true)) : SaysY fa ds tf ex h (frT h.get? (asD h.get? n)) := by
  have e1 : obsK fa ds ex (frT h.get? (asD h.get? n)) = valY ds := congrArg (fun z : AlY × Bool => z.1) e
  have e2 : tabsB h.get? tf (frT h.get? (asD h.get? n)) = true := congrArg (fun z : AlY × Bool => z.2) e
  have one : ∀ p ∈ tf, PySem.W.codeHdIn (frT h.get? (asD h.get? n)) (cT (frT h.get? (asD h.get? n)) p).1 (cT (frT h.get? (asD h.get? n)) p).2 = true ∧ ∃ o, h.get? (cT (frT h.get? (asD h.get? n)) p).2 = some o ∧ emptyTab o = true := fun p hp => by
    obtain ⟨a1, a2⟩ := ba (List.all_eq_true.mp e2 p hp)
    refine ⟨a1, ?_⟩
    cases q : h.get? (cT (frT h.get? (asD h.get? n)) p).2 with
    | none =>
      rw [q] at a2
      cases a2
    | some o =>
      rw [q] at a2
      exact ⟨o, rfl, a2⟩
  refine ⟨e1, fun p hp => (one p hp).1, fun p hp => ?_, fun p hp => ?_⟩
  · obtain ⟨_, o, q, z⟩ := one p hp
    exact frT_none q z
  · obtain ⟨_, o, q, z⟩ := one p hp
    rw [q, emptyTab_eq z]
def hookY (n : Nat) (fa : List Fa) (ds : List AD) (tf : List Defn) (ex : PySem.W.Frag → Bool) : PySem.W.Hook where
  α := AlY × Bool
  obs := fun s => obsY n fa ds tf ex s.heap.get?
  val := fun _ => (valY ds, true)
  says := fun _ h => ∃ K : PySem.W.Frag, K.In h ∧ SaysY fa ds tf ex h K
  of := fun _ _ e => ⟨_, frT_in, saysY_of e⟩
  keeps := fun _ _ _ ⟨K, hK, c⟩ k => ⟨K, PySem.W.Frag.In.keeps hK k, ⟨c.k, c.hd, c.out, fun p hp => k _ _ (c.empty p hp)⟩⟩
theorem obsY_eq {n : Nat} {fa : List Fa} {ds : List AD} {tf : List Defn} {ex : PySem.W.Frag → Bool} {g : Addr → Option Obj} {s : Shared} (h : ∀ a, g a = s.heap.get? a) : obsY n fa ds tf ex g = (hookY n fa ds tf ex).obs s := by
  have e : g = s.heap.get? := funext h
  rw [e] <;> rfl
section
variable {fa : List Fa} {ds : List AD} {tf : List Defn} {ex : PySem.W.Frag → Bool} {h : Heap} {K : PySem.W.Frag}
theorem SaysY.fact (c : SaysY fa ds tf ex h K) {f : Fa} (hf : f ∈ fa) : f.ok K = true := by
  have c1 := (ba (show ((fa.all fun f => f.ok K) && ((ds.all fun d => d.ok K) && ex K)) = true from congrArg (fun z : AlY => z.1) c.k)).1
  exact List.all_eq_true.mp c1 f hf
theorem SaysY.more (c : SaysY fa ds tf ex h K) : ex K = true :=
  (ba (ba (show ((fa.all fun f => f.ok K) && ((ds.all fun d => d.ok K) && ex K)) = true from congrArg (fun z : AlY => z.1) c.k)).2).2
theorem SaysY.def_ (c : SaysY fa ds tf ex h K) (i : Nat) {d : AD} (hi : ds[i]? = some d) : FunA K d := by
  have c2 := (ba (ba (show ((fa.all fun f => f.ok K) && ((ds.all fun d => d.ok K) && ex K)) = true from congrArg (fun z : AlY => z.1) c.k)).2).1
  have e : ds.map (fun d => fnA K (d.ad K)) = ds.map AD.val := congrArg (fun z : AlY => z.2) c.k
  have e2 : (ds.map fun d => fnA K (d.ad K))[i]? = (ds.map AD.val)[i]? := by rw [e]
  rw [List.getElem?_map, List.getElem?_map, hi] at e2
  exact AD.funA (Option.some.inj e2) (List.all_eq_true.mp c2 d (List.mem_of_getElem? hi))
end
end TmH

set_option maxHeartbeats 0
namespace TmH
open PySem PySem.Spec PyProof.Rows L2 LamX He Tm
def getP (K : PySem.W.Frag) (m : Str) : Addr := match PySem.W.recIn K (ma K (ga K "Kind") m) "property" with
  | some (.ref g :: _) => g
  | _ => 0
def propB (K : PySem.W.Frag) (m : Str) : Bool := eqO (PySem.W.findIn K (.ref (ga K "Kind")) m) (some (some (.ref (ma K (ga K "Kind") m)))) && (eqO (PySem.W.specialIn K (.ref (ma K (ga K "Kind") m)) "__get__") (some (some (.builtin "property.__get__"))) &&
  (decide (PySem.W.takesIn K (.ref (ma K (ga K "Kind") m)) = some true) && (match PySem.W.recIn K (ma K (ga K "Kind") m) "property" with
    | some (.ref _ :: _) => true
    | _ => false)))
def clsB (K : PySem.W.Frag) : Bool := eqO (PySem.W.findIn K (.ref (ga K "Kind")) "__ne__") (some (some (.builtin "object.__ne__"))) && (decide (PySem.W.mroIn K (ga K "Kind") (.type "object") = some true) && (decide (PySem.W.kitOne K (.ref (ga K "Kind")) (.ref (ga K "Kind")) = some true) &&
  (eqO (PySem.W.findIn K (.ref (ga K "Kind")) "__class__") (some (some (.builtin "object.__class__"))) && (eqO (PySem.W.specialIn K (.builtin "object.__class__") "__get__") (some (some (.builtin "getset_descriptor.__get__"))) && decide (PySem.W.takesIn K (.builtin "object.__class__") = some true)))))
def getPC (K : PySem.W.Frag) (c m : Str) : Addr := match PySem.W.recIn K (ma K (ga K c) m) "property" with
  | some (.ref g :: _) => g
  | _ => 0
def propC (K : PySem.W.Frag) (c m : Str) : Bool := eqO (PySem.W.findIn K (.ref (ga K c)) m) (some (some (.ref (ma K (ga K c) m)))) && (eqO (PySem.W.specialIn K (.ref (ma K (ga K c) m)) "__get__") (some (some (.builtin "property.__get__"))) &&
  (decide (PySem.W.takesIn K (.ref (ma K (ga K c) m)) = some true) && (match PySem.W.recIn K (ma K (ga K c) m) "property" with
    | some (.ref _ :: _) => true
    | _ => false)))
def clsC (K : PySem.W.Frag) (c : Str) : Bool := eqO (PySem.W.findIn K (.ref (ga K c)) "__ne__") (some (some (.builtin "object.__ne__"))) && (decide (PySem.W.mroIn K (ga K c) (.type "object") = some true) && (decide (PySem.W.kitOne K (.ref (ga K c)) (.ref (ga K c)) = some true) &&
  (eqO (PySem.W.findIn K (.ref (ga K c)) "__class__") (some (some (.builtin "object.__class__"))) && (eqO (PySem.W.specialIn K (.builtin "object.__class__") "__get__") (some (some (.builtin "getset_descriptor.__get__"))) && decide (PySem.W.takesIn K (.builtin "object.__class__") = some true)))))
def exP (K : PySem.W.Frag) : Bool := propB K "operations" && (propB K "size" && (propC K "Plan" "kind" && (propC K "Plan" "start" && (propC K "Plan" "teams" && (propC K "Plan" "threads" && (clsC K "Plan" && (PySem.W.notFirst K (ga K "Plan") (.type "list") && (PySem.W.notFirst K (ga K "Plan") (.ref (ga K "Kind")) && (decide (PySem.W.kitOne K (.type "list") (.ref (ga K "Plan")) = some false) && (decide (PySem.W.kitOne K (.ref (ga K "Kind")) (.ref (ga K "Plan")) = some false) && (tupB K "QUEUE_WORDS" [.str "", .str "a", .str "b", .str "aa", .str "ab", .str "ba", .str "bb"] && (clsB K))))))))))))
def ds : List AD := [
  ⟨fun K => ga K "is_number_in", "is_number_in", "is_number_in", top 10⟩,
  ⟨fun K => ga K "need_number", "need_number", "need_number", top 11⟩,
  ⟨fun K => ga K "is_name", "is_name", "is_name", top 18⟩,
  ⟨fun K => ga K "need_kind", "need_kind", "need_kind", top 19⟩,
  ⟨fun K => ga K "_is_pair", "_is_pair", "_is_pair", top 20⟩,
  ⟨fun K => ga K "_is_row", "_is_row", "_is_row", top 21⟩,
  ⟨fun K => ga K "_is_table", "_is_table", "_is_table", top 22⟩,
  ⟨fun K => ga K "_is_team", "_is_team", "_is_team", top 26⟩,
  ⟨fun K => ga K "_lettered", "_lettered", "_lettered", top 31⟩,
  ⟨fun K => ga K "slot_kind", "slot_kind", "slot_kind", top 32⟩,
  ⟨fun K => ga K "fading_kind", "fading_kind", "fading_kind", top 33⟩,
  ⟨fun K => ga K "_faded", "_faded", "_faded", top 34⟩,
  ⟨fun K => ga K "queue_kind", "queue_kind", "queue_kind", top 35⟩,
  ⟨fun K => ga K "_join_row", "_join_row", "_join_row", top 36⟩,
  ⟨fun K => ga K "_law_purse_of", "_law_purse_of", "_law_purse_of", top 38⟩,
  ⟨fun K => ga K "_law_coin", "_law_coin", "_law_coin", top 39⟩,
  ⟨fun K => ga K "_law_pick", "_law_pick", "_law_pick", top 40⟩,
  ⟨fun K => ga K "_law_some_of", "_law_some_of", "_law_some_of", top 41⟩,
  ⟨fun K => ga K "_law_table_drawn", "_law_table_drawn", "_law_table_drawn", top 42⟩,
  ⟨fun K => ga K "_law_plan_drawn", "_law_plan_drawn", "_law_plan_drawn", top 43⟩,
  ⟨fun K => ga K "_law_plan_of", "_law_plan_of", "_law_plan_of", top 44⟩,
  ⟨fun K => ga K "_law_play", "_law_play", "_law_play", top 45⟩,
  ⟨fun K => ga K "_law_orders", "_law_orders", "_law_orders", top 46⟩,
  ⟨fun K => ga K "_law_is_told", "_law_is_told", "_law_is_told", top 47⟩,
  ⟨fun K => ga K "_law_near_order", "_law_near_order", "_law_near_order", top 48⟩,
  ⟨fun K => ga K "_law_is_order_due", "_law_is_order_due", "_law_is_order_due", top 49⟩,
  ⟨fun K => ga K "_law_all_right", "_law_all_right", "_law_all_right", top 50⟩,
  ⟨fun K => ga K "law", "law", "law", top 51⟩,
  ⟨fun K => ma K (ga K "Kind") "__init__", "__init__", "Kind.__init__", inClass (top 23) 0⟩,
  ⟨fun K => ma K (ga K "Kind") "after", "after", "Kind.after", inClass (top 23) 4⟩,
  ⟨fun K => ma K (ga K "Kind") "_need_operation", "_need_operation", "Kind._need_operation", inClass (top 23) 12⟩,
  ⟨fun K => ma K (ga K "Kind") "__contains__", "__contains__", "Kind.__contains__", inClass (top 23) 14⟩,
  ⟨fun K => ma K (ga K "Kind") "__eq__", "__eq__", "Kind.__eq__", inClass (top 23) 16⟩,
  ⟨fun K => getP K "operations", "operations", "Kind.operations", inClass (top 23) 1⟩,
  ⟨fun K => getP K "size", "size", "Kind.size", inClass (top 23) 3⟩,
  ⟨fun K => ma K (ga K "Plan") "__init__", "__init__", "Plan.__init__", inClass (top 27) 0⟩,
  ⟨fun K => ma K (ga K "Plan") "team_of", "team_of", "Plan.team_of", inClass (top 27) 5⟩,
  ⟨fun K => ma K (ga K "Plan") "is_order", "is_order", "Plan.is_order", inClass (top 27) 6⟩,
  ⟨fun K => ma K (ga K "Plan") "played", "played", "Plan.played", inClass (top 27) 8⟩,
  ⟨fun K => ma K (ga K "Plan") "__len__", "__len__", "Plan.__len__", inClass (top 27) 18⟩,
  ⟨fun K => ma K (ga K "Plan") "__eq__", "__eq__", "Plan.__eq__", inClass (top 27) 19⟩,
  ⟨fun K => ma K (ga K "Plan") "__str__", "__str__", "Plan.__str__", inClass (top 27) 20⟩,
  ⟨fun K => getPC K "Plan" "kind", "kind", "Plan.kind", inClass (top 27) 1⟩,
  ⟨fun K => getPC K "Plan" "start", "start", "Plan.start", inClass (top 27) 2⟩,
  ⟨fun K => getPC K "Plan" "teams", "teams", "Plan.teams", inClass (top 27) 3⟩,
  ⟨fun K => getPC K "Plan" "threads", "threads", "Plan.threads", inClass (top 27) 4⟩]
def fa : List Fa := [.str "LETTERS" "abcdefgh", .glo "is_number_in", .glo "need_number", .glo "is_name", .glo "need_kind", .glo "_is_pair", .glo "_is_row", .glo "_is_table", .glo "_is_team", .glo "_lettered", .glo "slot_kind", .glo "fading_kind", .glo "_faded", .glo "queue_kind", .glo "_join_row", .glo "_law_purse_of", .glo "_law_coin", .glo "_law_pick", .glo "_law_some_of", .glo "_law_table_drawn", .glo "_law_plan_drawn", .glo "_law_plan_of", .glo "_law_play", .glo "_law_orders", .glo "_law_is_told", .glo "_law_near_order", .glo "_law_is_order_due", .glo "_law_all_right", .glo "law", .glo "Kind", .glo "QUEUE_WORDS", .free "isinstance", .free "int", .free "bool", .free "str", .free "tuple", .free "list", .free "dict", .free "len", .free "all", .free "range", .free "enumerate", .free "sorted", .free "min", .free "max", .free "abs", .free "set", .free "repr", .int "MAX_LETTERS" 8, .int "MAX_STATES" 12, .int "MAX_OPERATIONS" 6, .int "MAX_ANSWER" 99, .str "ALPHABET" "abcdefghijklmnopqrstuvwxyz", .cls "Kind", .noat "Kind" "_table", .noat "Kind" "_size", .mkr "Kind", .meth "Kind" "after", .meth "Kind" "_need_operation", .meth "Kind" "__contains__", .meth "Kind" "__eq__", .int "MAX_THREADS" 6, .glo "Plan", .cls "Plan", .mkr "Plan", .noat "Plan" "_kind", .noat "Plan" "_start", .noat "Plan" "_teams", .noat "Plan" "_threads", .meth "Plan" "team_of", .meth "Plan" "is_order", .meth "Plan" "played", .meth "Plan" "__len__", .meth "Plan" "__eq__", .meth "Plan" "__str__"]
def loose : List PySem.Str := (["_wall", "TeamError", "InvalidKind", "InvalidPlan", "InvalidOperation", "InvalidNumber", "UnknownName", "TooMany", "is_number_in", "need_number", "ALPHABET", "MAX_LETTERS", "MAX_STATES"] : List PySem.Str) ++ (["MAX_OPERATIONS", "MAX_ANSWER", "is_name", "need_kind", "_is_pair", "_is_row", "_is_table", "Kind", "MAX_THREADS", "_is_team", "Plan", "LETTERS", "QUEUE_WORDS"] : List PySem.Str) ++ (["_lettered", "slot_kind", "fading_kind", "_faded", "queue_kind", "_join_row", "_law_purse_of", "_law_coin", "_law_pick", "_law_some_of", "_law_table_drawn", "_law_plan_drawn", "_law_plan_of"] : List PySem.Str) ++ (["_law_play", "_law_orders", "_law_is_told", "_law_near_order", "_law_is_order_due", "_law_all_right"] : List PySem.Str)
def tf : List Defn := []
abbrev R : PySem.W.OpenRow := PySem.W.OpenLaw.row PySem.Challenge.rw_teamtells_k10_plans_told
abbrev hk : PySem.W.Hook := hookY 6 fa ds tf exP
def ob (s : PySem.W.SharedT) : AlY × Bool := obsY 6 fa ds tf exP (HandSHeadRun.getT s)
theorem ob_eq (s : PySem.W.SharedT) : ob s = hk.obs s.abs := obsY_eq (HandSHeadRun.getT_eq s)
theorem run (w : World) : HandSHeadRun.RunEq R (PySem.W.view R.prog [51]) hk ob 6000 loose w := by
  intro os
  kernel_rfl
end TmH

set_option maxHeartbeats 2000000
namespace Tm
open PySem PySem.Spec PyProof.Rows L2
local macro_rules | `(tactic| walk_at "x") => `(tactic| dsimp only [tNext, tRet, tSeq, tCB, tCons, tNil, tAsg, tDrop, sFld])
section
variable {P : Program} {w : World} {K : PySem.W.Frag} {mg : Str → Option Value} {base : Heap} {C : Addr}
/-! ### Kind(operations) -/
abbrev s_init : Stmt := inClass (top 23) 0
theorem sc_init : FnScope ["self", "operations", "name"] ["self", "operations"] (defScope s_init) := ⟨rfl, rfl, rfl, by decide +kernel, rfl, by decide +kernel, by decide +kernel⟩
def sp_init (C : Addr) : Sp := fun vs H Q _ => ∃ (p dx a : Addr) (kvs : List (L2.Key × V)) (t : Tab), vs = [.ref p, .ref a] ∧ H p = some (.ins C dx []) ∧ H a = some (.dK kvs) ∧ TabV H kvs t ∧ okTab t = true ∧ (namesT t).Nodup ∧
  ∀ H' t', t'.Perm t → KindV C H' (.ref p) t' → (∀ b o, b ≠ p → H b = some o → H' b = some o) → Q .non H'
theorem ok_init (B : Bt mg) (T : Kc K C) (O_is_table : Ok P w K mg base "_is_table" 4 ["value"] sp_table) (D : DfC K mg "Kind" C "Kind.__init__" s_init ["self", "operations"]) : OkC P w K mg base "Kind" C 5 ["self", "operations"] (sp_init C) := by
  refine D.ok sc_init (fun vs H Q E h => ?_) (fun f cdv A outer s H vs Q E hr h => ?_)
  · obtain ⟨p, dx, a, kvs, t, rfl, _⟩ := h
    rfl
  · obtain ⟨p, dx, a, kvs, t, rfl, hp, ha, ht, hok, nd, q⟩ := h
    have hu := hu_of hr
    have hkeys := tabV_keys ht
    have h6 : (namesT t).length ≤ 6 := by
      have := hok
      unfold okTab at this
      simp only [Bool.and_eq_true, decide_eq_true_eq] at this
      unfold namesT
      rw [List.length_map]
      exact this.1.1.1.2
    refine ⟨_, pss_cons (ps_if (pt_not (pt_val (O_is_table.call hr (ha := pa_cons (pv 1) (pa_nil)))))
        (pss_one (ps_never))
        (pss_nil))
      (pss_cons (ps_fld (pv 0) (pe_dc (own := [("name", 2)]) (g := gName 2) (tt := tYes) rfl sc_init.nd (pi_list (pe_callB (call_sortedD rfl) (by rfl) B.sorted (by decide +kernel) (pa_cons (pv 1) (pa_nil)))) (blkOk_by (own := [("name", 2)]) (N := ["self", "operations", "name"]) (sc := defScope s_init) (by decide +kernel)) (fun _ _ _ _ _ => pg_name (i := 2) sc_init.nd rfl (.inl rfl)) (fun _ _ _ _ _ => pts_nil) (fun _ _ _ _ _ => pv 2) (fun _ _ _ _ _ => pe_dget hu (pv 1) (pv 2) (fun _ _ => rfl))) rfl)
      (pss_one (ps_fld (pv 0) (pe_callB (lenK (K := K)) (by rfl) B.len (by decide +kernel) (pa_cons (pe_ix (ixLK (K := K)) (pe_listVals rfl (pe_fld (pv 0) rfl) (by rfl) B.list) (pe_int) (fun _ _ => rfl)) (pa_nil))) rfl))), ?_⟩
    refine ⟨_, rfl, a, kvs, t, rfl, ha, ht, hok, fun H1 e1 => ⟨_, rfl, ?_⟩⟩
    refine ifF rfl ?_
    walk_at "x"
    refine dc_bind (P := fun v H2 => ∃ (b : Addr) (ys : List Str), v = .ref b ∧ H2 b = some (.lst (ys.map V.str)) ∧ ys.Perm (namesT t) ∧ sortedS ys = true) (fun Q q => ?_) (fun v H2 e2 hv => ?_)
    · exact ⟨_, rfl, a, kvs, namesT t, rfl, .inl (e1 _ _ ha), hkeys, by omega, fun ys b hpm hst hb => q _ _ (same_new hb) ⟨b, ys, rfl, upd_same, hpm, hst⟩⟩
    · obtain ⟨b, ys, rfl, hb, hpm, hst⟩ := hv
      have e12 := e1.trans e2
      have ndy : ys.Nodup := hpm.nodup_iff.mpr nd
      refine dc_runL (K := K) (xs := ys.map V.str) (ev_c ⟨b, rfl, SqL.of hb⟩) ys (List.length_map ..) (fun _ => true) Sum.inr (fun z v H => ∃ r, (z, r) ∈ t ∧ RowV H v r) (by rw [hpm.length_eq]; omega)
        (by rw [List.nodup_iff_pairwise_ne, List.pairwise_map]; exact (List.nodup_iff_pairwise_ne.mp ndy).imp fun h z => h (Sum.inr.inj z)) (by intro _; rfl)
        (fun z v H H' e h => by obtain ⟨r, h1, h2⟩ := h; exact ⟨r, h1, h2.mono e⟩) (fun i z x H3 hi hx e3 => ⟨evt_yes, fun _ H4 e4 => ?_, fun _ H4 e4 => ?_⟩) (fun d H3 kvs' hd e3 hdk hP => ?_)
      · rw [List.getElem?_map, hi] at hx
        have ex : V.str z = x := Option.some.inj hx
        subst ex
        exact ev_is rfl rfl
      · rw [List.getElem?_map, hi] at hx
        have ex : V.str z = x := Option.some.inj hx
        subst ex
        have hz : z ∈ namesT t := hpm.mem_iff.mp (List.mem_of_getElem? hi)
        obtain ⟨⟨x', r⟩, hr', exx⟩ := List.mem_map.mp hz
        have ex2 : x' = z := exx
        subst ex2
        obtain ⟨v, hv, hrow⟩ := tab_look ht nd hr'
        have hSame : Same H H4 := e12.trans (e3.trans e4)
        intro Q q
        refine ⟨_, rfl, _, rfl, a, v, rfl, ?_, q v H4 (Same.refl _) ⟨r, hr', hrow.mono (tups_of hSame)⟩⟩
        have := DGet.k (k := Sum.inr x') (hSame _ _ ha)
        rw [hv] at this
        exact this
      · rw [filter_all] at hP
        obtain ⟨t', ht', hn', hs'⟩ := tab_of hP
        have pm : t'.Perm t := perm_of_names nd (by rw [hn']; exact hpm) hs'
        have e13 := e12.trans e3
        have npd : p ≠ d := ne_of_none (e12 _ _ hp) hd
        refine ⟨_, rfl, p, C, dx, [], rfl, e13 _ _ hp, T.cl, T.nT, (by show 0 < 1000; decide), ?_⟩
        generalize hH4 : upd H3 p (.ins C dx (putF "_table" (.ref d) [])) = H4
        have hp4 : H4 p = some (.ins C dx (putF "_table" (.ref d) [])) := by rw [← hH4]; exact upd_same
        have hd4 : H4 d = some (.dK kvs') := by rw [← hH4, upd_ne npd.symm]; exact hdk
        have t4 : TupS H3 H4 := by rw [← hH4]; exact tups_upd (e13 _ _ hp) (fun xs z => by cases z)
        have hlk : (putF "_table" (V.ref d) []).lookup ("_table" : Str) = some (.ref d) := by simp [putF, List.lookup]
        obtain ⟨e0, t0, rfl⟩ : ∃ e0 t0, t' = e0 :: t0 := by
          cases t' with
          | nil =>
            have := ok_perm hok pm
            simp [okTab] at this
          | cons e0 t0 => exact ⟨e0, t0, rfl⟩
        obtain ⟨kv0, kvs0, rfl⟩ : ∃ kv0 kvs0, kvs' = kv0 :: kvs0 := by
          cases kvs' with
          | nil => cases ht'
          | cons kv0 kvs0 => exact ⟨kv0, kvs0, rfl⟩
        obtain ⟨b0, rs, eb, hb0, hrs⟩ : RowV H3 kv0.2 e0.2 := by
          cases ht' with
          | cons r _ => exact r.2
        refine ⟨_, rfl, p, C, dx, _, _, rfl, hp4, T.cl, T.nT, hlk, d, _, rfl, hd4, fun l hl => ?_⟩
        refine ⟨l, _, 0, kv0.2, rfl, rfl, SqL.of upd_same, at_of (j := 0) rfl rfl, ?_⟩
        rw [eb]
        have e5 : Same H4 (upd H4 l (.lst (List.map (·.2) (kv0 :: kvs0)))) := same_new hl
        generalize upd H4 l (.lst (List.map (·.2) (kv0 :: kvs0))) = H5 at e5 ⊢
        refine ⟨b0, rs, rfl, .inr (SqT.of (e5 _ _ (t4 _ _ hb0))), _, rfl, p, C, dx, _, rfl, e5 _ _ hp4, T.cl, T.nS, (by show 1 < 1000; decide), ?_⟩
        have hsz : (rs.length : Int) = (sizeT (e0 :: t0) : Int) := by rw [Paired.length hrs]; rfl
        refine q _ (e0 :: t0) pm ⟨p, dx, d, kv0 :: kvs0, rfl, ?_, ?_, ?_, ok_perm hok pm, ?_, ?_⟩ ?_
        · rw [upd_same, hsz, kf_put]
        · rw [upd_ne npd.symm]
          exact e5 _ _ hd4
        · exact ht'.mono (t4.trans ((tups_of e5).trans (tups_upd (e5 _ _ hp4) (fun xs z => by cases z))))
        · rw [hn']; exact ndy
        · rw [hn']; exact hst
        · intro c o hc hco
          rw [upd_ne hc]
          refine e5 _ _ ?_
          rw [← hH4, upd_ne hc]
          exact e13 _ _ hco
end
end Tm

namespace Tm
open PySem PySem.Spec PyProof.Rows L2
local macro_rules | `(tactic| walk_at "x") => `(tactic| dsimp only [tNext, tRet, tSeq, tCB, tCons, tNil, tAsg, tDrop, sFld])
/-- a kind is made of a dict -/
theorem mk_kind {C : Addr} {H1 : Hp} {a : Addr} {kvs : List (L2.Key × V)} {t : Tab} {Q : VK} {E : XK} (ha : H1 a = some (.dK kvs)) (ht : TabV H1 kvs t) (hok : okTab t = true) (nd : (namesT t).Nodup)
    (q : ∀ v H' t', Same H1 H' → KindV C H' v t' → t'.Perm t → Q v H') :
    ∀ x dx, H1 x = none → H1 dx = none → dx ≠ x → sp_init C (.ref x :: ([V.ref a] ++ [])) (upd (upd H1 dx (.own x)) x (.ins C dx [])) (fun v H2 => v = .non ∧ Q (.ref x) H2) E := by
  intro x dx hx hdx hne
  have e : Same H1 (upd (upd H1 dx (.own x)) x (.ins C dx [])) := fun b o hb => by
    rw [upd_ne (ne_of_none hb hx), upd_ne (ne_of_none hb hdx)]; exact hb
  refine ⟨x, dx, a, kvs, t, rfl, upd_same, e _ _ ha, ht.mono (tups_of e), hok, nd, fun H' t' pm hk hkeep => ⟨rfl, q _ H' t' (fun b o hb => ?_) hk pm⟩⟩
  exact hkeep b o (ne_of_none hb hx) (e _ _ hb)
section
variable {P : Program} {w : World} {K : PySem.W.Frag} {mg : Str → Option Value} {base : Heap} {C : Addr}
/-! ### in, _need_operation, after, names -/
abbrev s_cont : Stmt := inClass (top 23) 14
theorem sc_cont : FnScope ["self", "x"] ["self", "x"] (defScope s_cont) := ⟨rfl, rfl, rfl, by decide +kernel, rfl, by decide +kernel, by decide +kernel⟩
def sp_cont (C : Addr) : Sp := fun vs H Q _ => ∃ (v : V) (t : Tab) (x : Str), vs = [v, .str x] ∧ KindV C H v t ∧ Q (.bl (decide (x ∈ namesT t))) H
theorem tab_isSome {H : Hp} : ∀ {kvs : List (L2.Key × V)} {t : Tab} (x : Str), TabV H kvs t → (valV kvs (Sum.inr x)).isSome = decide (x ∈ namesT t)
  | _, _, x, .nil => by simp [valV, namesT]
  | kv :: kvs, e :: t, x, .cons h ht => by
    rw [valV_cons, h.1]
    by_cases hx : e.1 = x
    · rw [if_pos (by rw [hx])]
      have : x ∈ namesT (e :: t) := by rw [← hx]; exact List.mem_cons_self
      rw [decide_eq_true this]; rfl
    · rw [if_neg (fun z => hx (Sum.inr.inj z)), tab_isSome x ht]
      have hiff : x ∈ namesT (e :: t) ↔ x ∈ namesT t := by
        show x ∈ e.1 :: namesT t ↔ _
        rw [List.mem_cons]
        exact ⟨fun z => z.resolve_left (fun y => hx y.symm), .inr⟩
      exact decide_eq_decide.mpr hiff.symm
theorem ok_cont (B : Bt mg) (T : Kc K C) (D : DfIn K C "Kind.__contains__" s_cont ["self", "x"]) : OkIn P w K mg base C 1 ["self", "x"] (sp_cont C) := by
  refine D.ok sc_cont (fun vs H Q E h => ?_) (fun f cdv A outer s H vs Q E hr h => ?_)
  · obtain ⟨v, t, x, rfl, _⟩ := h
    rfl
  · obtain ⟨v, t, x, rfl, ⟨a, dx, d, kvs, rfl, ha, hd, ht, hok, nd, hst⟩, q⟩ := h
    have hu := hu_of hr
    refine ⟨_, pss_one (ps_ret (pe_and (pe_callB (isiK (K := K)) (by rfl) B.isinstance (by decide +kernel) (pa_cons (pv 1) (pa_cons (pe_ty (n := "str") (by rfl) B.str (by decide +kernel)) (pa_nil)))) (pe_one (pe_cmp (pc_din hu (pv 1) (pe_fld (pv 0) rfl)) rfl)))), ?_⟩
    refine ⟨_, rfl, .str x, .ty "str", _, _, true, rfl, .ty "str", .base (.str x), kit_ty (by decide +kernel), _, rfl, ?_⟩
    refine ifT rfl ?_
    refine ⟨_, rfl, _, rfl, a, C, dx, _, _, rfl, ha, T.cl, T.nT, kf_T _ _, d, _, rfl, DGet.k (k := Sum.inr x) hd, ?_⟩
    rw [tab_isSome x ht]
    exact q
abbrev s_needop : Stmt := inClass (top 23) 12
theorem sc_needop : FnScope ["self", "name"] ["self", "name"] (defScope s_needop) := ⟨rfl, rfl, rfl, by decide +kernel, rfl, by decide +kernel, by decide +kernel⟩
def sp_needop (C : Addr) : Sp := fun vs H Q _ => ∃ (v : V) (t : Tab) (x : Str), vs = [v, .str x] ∧ KindV C H v t ∧ x ∈ namesT t ∧ Q .non H
theorem ok_needop (O_in : OkIn P w K mg base C 1 ["self", "x"] (sp_cont C)) (D : DfM K C "_need_operation" "Kind._need_operation" s_needop ["self", "name"]) : OkM P w K mg base C "_need_operation" 2 ["self", "name"] (sp_needop C) := by
  refine D.ok sc_needop (fun vs H Q E h => ?_) (fun f cdv A outer s H vs Q E hr h => ?_)
  · obtain ⟨v, t, x, rfl, _⟩ := h
    rfl
  · obtain ⟨v, t, x, rfl, hk, hx, q⟩ := h
    obtain ⟨a, dx, d, kvs, rfl, ha, _⟩ := id hk
    refine ⟨_, pss_one (ps_if (pt_cmpR (O_in.notIn hr) (pv 1) (pv 0) rfl) (pss_one ps_never) pss_nil), ?_⟩
    refine ⟨_, rfl, _, rfl, a, dx, _, rfl, ha, _, t, x, rfl, hk, _, rfl, _, rfl, ?_⟩
    refine ifF (by rw [decide_eq_true hx]; rfl) q
abbrev s_after : Stmt := inClass (top 23) 4
theorem sc_after : FnScope ["self", "state", "name"] ["self", "state", "name"] (defScope s_after) := ⟨rfl, rfl, rfl, by decide +kernel, rfl, by decide +kernel, by decide +kernel⟩
def sp_after (C : Addr) : Sp := fun vs H Q _ => ∃ (v : V) (t : Tab) (s : Nat) (x : Str) (r : Row) (p : Int × Int), vs = [v, .int (s : Int), .str x] ∧ KindV C H v t ∧ (x, r) ∈ t ∧ r[s]? = some p ∧ ∀ u, PairV H u p → Q u H
theorem ok_after (B : Bt mg) (T : Kc K C) (O_need_number : Ok P w K mg base "need_number" 2 ["value", "least", "most"] sp_need) (OM_need_operation : OkM P w K mg base C "_need_operation" 2 ["self", "name"] (sp_needop C))
    (D : DfM K C "after" "Kind.after" s_after ["self", "state", "name"]) : OkM P w K mg base C "after" 3 ["self", "state", "name"] (sp_after C) := by
  refine D.ok sc_after (fun vs H Q E h => ?_) (fun f cdv A outer s H vs Q E hr h => ?_)
  · obtain ⟨v, t, s, x, r, p, rfl, _⟩ := h
    rfl
  · obtain ⟨v, t, st, x, r, p, rfl, hk, hm, hp, q⟩ := h
    obtain ⟨a, dx, d, kvs, rfl, ha, hd, ht, hok, nd, hst⟩ := id hk
    have hu := hu_of hr
    have hlt : st < r.length := (List.getElem?_eq_some_iff.mp hp).1
    have hsz : r.length = sizeT t := size_of_ok hok _ hm
    have hin : x ∈ namesT t := List.mem_map.mpr ⟨_, hm, rfl⟩
    obtain ⟨rv, hv, b, rs, rfl, hb, hrs⟩ := tab_look ht nd hm
    obtain ⟨u, hu', hpu⟩ := paired_ix hrs hp
    refine ⟨_, pss_cons (ps_expr (O_need_number.call hr (ha := pa_cons (pv 1) (pa_cons (pe_int) (pa_cons (pe_op op_sub (pe_fld (pv 0) rfl) (pe_int)) (pa_nil))))))
      (pss_cons (ps_expr (OM_need_operation.call hr T.cl (he := pv 0) (ha := pa_cons (pv 2) (pa_nil))))
      (pss_one (ps_ret (pe_ix (ixTK (K := K)) (pe_dget hu (pe_fld (pv 0) rfl) (pv 2) (fun _ _ => rfl)) (pv 1) (fun _ _ => rfl))))), ?_⟩
    refine ⟨_, rfl, _, rfl, a, C, dx, _, _, rfl, ha, T.cl, T.nS, kf_S _ _, _, _, rfl, rfl, st, 0, (sizeT t : Int) - 1, rfl, by omega, by omega, ?_⟩
    refine ⟨_, rfl, a, dx, _, rfl, ha, kf_no _ _, _, rfl, _, t, x, rfl, hk, hin, ?_⟩
    have hg := DGet.k (k := Sum.inr x) hd
    rw [hv] at hg
    refine ⟨_, rfl, a, C, dx, _, _, rfl, ha, T.cl, T.nT, kf_T _ _, _, rfl, d, _, rfl, hg, _, rfl, b, rs, st, u, rfl, rfl, SqT.of hb, atI_nat hu', q u hpu⟩
abbrev s_names : Stmt := inClass (top 23) 2
theorem sc_names : FnScope ["self"] ["self"] (defScope s_names) := ⟨rfl, rfl, rfl, by decide +kernel, rfl, by decide +kernel, by decide +kernel⟩
def sp_names (C : Addr) : Sp := fun vs H Q _ => ∃ (v : V) (t : Tab), vs = [v] ∧ KindV C H v t ∧ ∀ p, H p = none → Q (.ref p) (upd H p (.tup ((namesT t).map V.str)))
end
end Tm

/-! tuple(d), d a dict: its keys -/
namespace TmD
open PySem PySem.Spec PyProof.Rows PySem.W
section
variable {prog : Program} {w : World} {A : Around} {E : Value → Shared → Prop} {s : Shared} {T : String} {r d : Addr} {n : Nat} {Pd : Nat → Value → Prop} {OK : Heap → Prop}
abbrev emptyL : Obj := { cls := .type "list", data := .seq ([] : List Value).toArray }
theorem gather (K : KdlSrc prog w T r d n Pd OK) (hh : A.handled = none) (hok : OK s.heap) (hn : n ≤ sizeLine) {Q : List Value → Shared → Prop}
    (hQ : ∀ (h' : Heap) (tk : Nat) (acc : Array Value), (∀ b o, s.heap.get? b = some o → h'.get? b = some o) → ItemsOf Pd acc n → Q acc.toList { s with heap := h', toks := tk }) :
    wpAny (model prog w) A (collect (.ref r)) Q E s := by
  unfold collect
  refine wpAny_bind (wpAny_runValue (codeAny_builtin F.entry_proto_collect ?_))
  rw [Around.under_plainId F.plain_proto_collect _]
  show wpAny _ A.in1 (newList [] >>= fun l => again (.builtin "list.__iadd__" ⟨[l, .ref r], []⟩)) _ _ s
  refine wpAny_bind (wpAny_newObj_type ?_)
  refine wpAny_pure ⟨plainId_quiet F.plain_list_iadd _, codeAny_builtin F.entry_list_iadd ?_⟩
  rw [Around.under_plainId F.plain_list_iadd _]
  generalize hs1 : ({ s with heap := s.heap.push emptyL } : Shared) = s1
  have e1 : s1.heap = s.heap.push emptyL := by rw [← hs1]
  have old : ∀ b o, s.heap.get? b = some o → s1.heap.get? b = some o := fun b o q => by rw [e1]; exact Heap.get?_push_of_some _ q
  have lt := K.there _ hok
  have hS : s1.heap.get? s.heap.objs.size = some { cls := .type "list", data := .seq #[] 0 } := by rw [e1]; exact Heap.get?_push_size _ rfl
  have run := kdl_extend (A := A) (s := s1) (R := fun rr s' => rr = .ok (.ret (.ref s.heap.objs.size)) ∧ ∃ (h' : Heap) (tk : Nat) (acc : Array Value) (c' : Nat), s' = { s with heap := h', toks := tk } ∧
      (∀ b o, s.heap.get? b = some o → h'.get? b = some o) ∧ h'.get? s.heap.objs.size = some { cls := .type "list", dict := none, data := .seq acc c', slots := #[] } ∧ ItemsOf Pd acc n)
    K hh (K.keep _ _ hok fun b _ o q => old b o q) s.heap.objs.size (Nat.ne_of_gt lt.1) (Nat.ne_of_gt lt.2) (.ref s.heap.objs.size) 0 hS
    (fun h' tk acc c' hk e hi => ⟨rfl, h', tk, acc, c', by rw [← hs1], fun b o q => hk b o (Nat.ne_of_lt (Heap.lt_size q)) (old b o q), e, hi⟩) hn
  refine wpAny_mono run (fun fin s' h => ?_) (fun e s' h => absurd h.1 (by simp))
  cases fin with
  | done f =>
    obtain ⟨e, h', tk, acc, c', rfl, hk, hS', hi⟩ := h
    cases e
    show wpAny _ A (load s.heap.objs.size >>= _) _ _ _
    exact wpAny_bind (wpAny_load hS' (wpAny_pure (hQ h' tk acc hk hi)))
  | again c' =>
    refine ⟨h.1, codeAny_mono h.2 fun rr s'' z => ?_⟩
    obtain ⟨rfl, h', tk, acc, c', rfl, hk, hS', hi⟩ := z
    show wpAny _ A (load s.heap.objs.size >>= _) _ _ _
    exact wpAny_bind (wpAny_load hS' (wpAny_pure (hQ h' tk acc hk hi)))
theorem new_tuple (K : KdlSrc prog w T r d n Pd OK) (hh : A.handled = none) (hok : OK s.heap) (hn : n ≤ sizeLine) {Q₁ : Value → Shared → Prop}
    (hq : ∀ (h' : Heap) (tk : Nat) (acc : Array Value), (∀ b o, s.heap.get? b = some o → h'.get? b = some o) → ItemsOf Pd acc n → Q₁ (.ref h'.objs.size) { s with heap := h'.push { cls := .type "tuple", data := .seq acc }, toks := tk }) :
    codeAny (model prog w) A (.call (.builtin "tuple.__new__") ⟨[.type "tuple", .ref r], []⟩) (wants Q₁ E) s := by
  refine codeAny_of_tree ?_
  show wpAny _ A.in1 (do checkBuiltinCall "tuple.__new__" ⟨[.type "tuple", .ref r], []⟩; again (.builtin "tuple.__new__" ⟨[.type "tuple", .ref r], []⟩)) _ _ s
  refine wpAny_bind (wpAny_of_eq (F.newCall_tuple_1 _) (wpAny_pure ⟨plainId_quiet F.plain_tuple_new _, codeAny_builtin F.entry_tuple_new ?_⟩))
  rw [Around.under_plainId F.plain_tuple_new _]
  have a1 := sub_tuple_self
  have a2 := init_tuple_lookup
  have a3 := madeHere_tuple
  have a4 : s.TypeIs (.ref r) T := K.type s hok
  have a5 : A.in1.handled = none := hh
  wp_walk using wpAny_typeOf a4, gather (A := A.in1) K a5 hok hn
  rw [if_neg (by rw [K.notTuple]; decide)]
  wp_walk using gather (A := A.in1) K a5 hok hn
  intro h' tk acc hk hacc
  have ea : acc.toList.toArray = acc := by simp
  have hz : acc.size ≤ sizeLine := by rw [hacc.1]; exact hn
  show wpAny _ _ (Builtin.Tuple.tupleExact acc.toList.toArray >>= fun v => ret v) _ _ _
  rw [ea]
  unfold Builtin.Tuple.tupleExact
  exact wpAny_bind (wpAny_newObj_type (wpAny_pure (hq h' tk acc hk hacc)) hz)
theorem call_tuple_src (K : KdlSrc prog w T r d n Pd OK) (hh : A.handled = none) (hok : OK s.heap) (hn : n ≤ sizeLine) {Q : Value → Shared → Prop}
    (hq : ∀ (h' : Heap) (tk : Nat) (acc : Array Value), (∀ b o, s.heap.get? b = some o → h'.get? b = some o) → ItemsOf Pd acc n → Q (.ref h'.objs.size) { s with heap := h'.push { cls := .type "tuple", data := .seq acc }, toks := tk }) :
    wpAny (model prog w) A (call (.type "tuple") [.ref r]) Q E s := by
  have made := new_tuple (A := A.in1) (E := E) K hh hok hn (Q₁ := fun obj s₁ => s₁.TypeIs obj "tuple" ∧ Q obj s₁) fun h' tk acc hk hacc => ⟨⟨_, Heap.get?_push_size _ rfl, rfl⟩, hq h' tk acc hk hacc⟩
  refine callType_codes F.called_tuple (F.typeCall_tuple_1 _) F.entry_object_init made fun obj s₁ z => ?_
  exact ⟨z.1, F.args_object_init_2 obj _, object_init_meets F.called_tuple.init.lookup F.called_tuple.made (by decide) prog w A.in1 _ s₁ ⟨z.1, rfl, z.2⟩⟩
end
end TmD
namespace Tm
open PySem PySem.Spec PyProof.Rows L2
theorem vals_keys {prog : Program} {w : World} {kvs : List (L2.Key × V)} {vs : List (L2.Key × Value)} (kv : KV kvs vs) (acc : List Value) (hl : acc.length = vs.length) (h : ∀ (i : Nat) (v : Value), acc[i]? = some v → ∃ k x, vs[i]? = some (k, x) ∧ (mixKind prog w).is k v = true) :
    Vals (kvs.map fun e => kV e.1) acc := by
  induction kv generalizing acc with
  | nil =>
    cases acc with
    | nil => exact .nil
    | cons a r => simp at hl
  | cons r t ih =>
    cases acc with
    | nil => simp at hl
    | cons a r' =>
      obtain ⟨k, x, e, hk⟩ := h 0 a rfl
      simp only [List.getElem?_cons_zero, Option.some.injEq] at e
      refine .cons ?_ (ih r' (by simpa using hl) fun i v hv => by simpa using h (i + 1) v (by simpa using hv))
      show RelV (kV _) a
      rw [r.1, e]
      exact relV_key (show keyIs k a = true from hk)
/-- tuple(d) -/
theorem tupleD {X : Cx} (hc : X.calm = true := by rfl) : CallR X (.type "tuple") (fun xs H Q => ∃ (d : Addr) (kvs : List (L2.Key × V)), xs = [.ref d] ∧ H d = some (.dK kvs) ∧ ∀ p, H p = none → Q (.ref p) (upd H p (.tup (kvs.map fun e => kV e.1)))) := by
  intro pins s σ H xs us Q I r h
  obtain ⟨d, kvs, rfl, hd, q⟩ := h
  obtain ⟨u, rfl, ru⟩ := vals1 r
  have eu : u = Value.ref d := ru
  subst eu
  obtain ⟨hz, sys, vs, kv, hdo⟩ := I.hok d _ hd
  obtain ⟨ep, hat⟩ := hdo.dictAt
  have lk : kvs.length = vs.length := Paired.length kv
  refine TmD.call_tuple_src (PySem.W.kdl_dict (knd := mixKind X.prog X.w) (kvs := vs) (ep := ep) sys) (I.ok.hd hc) hat (by rw [← lk]; exact hz) fun h' tk acc hk hacc => ?_
  have I1 : Inv X pins σ H { s with heap := h', toks := tk } := I.kept hk
  have hv : Vals (kvs.map fun e => kV e.1) acc.toList := vals_keys kv acc.toList (by rw [Array.length_toList]; exact hacc.1) fun i v hv => hacc.2 i v (by rw [← Array.getElem?_toList]; exact hv)
  have ea : acc.toList.toArray = acc := by simp
  have I2 : Inv X pins σ (upd H h'.objs.size (.tup (kvs.map fun e => kV e.1))) { s with heap := h'.push { cls := .type "tuple", data := .seq acc.toList.toArray }, toks := tk } :=
    I1.laid (t' := tk) (fun b o e => Heap.get?_push_of_some _ e) (Nat.le_refl _) (show ObjOk X.prog X.w _ _ _ (.tup _) from ⟨by rw [List.length_map]; exact hz, acc.toList, hv, IsTup.new _ _⟩)
  rw [ea] at I2
  exact ⟨.ref h'.objs.size, _, I2, rfl, q _ (I1.hok.fresh (Nat.le_refl _))⟩
local macro_rules | `(tactic| walk_at "x") => `(tactic| dsimp only [tNext, tRet, tSeq, tCB, tCons, tNil, tAsg, tDrop, sFld])
section
variable {P : Program} {w : World} {K : PySem.W.Frag} {mg : Str → Option Value} {base : Heap} {C : Addr}
theorem ok_names (B : Bt mg) (T : Kc K C) (D : DfP K C "names" "Kind.names" s_names) : OkP P w K mg base C "names" 1 (sp_names C) := by
  refine D.ok sc_names (fun vs H Q E h => ?_) (fun f cdv A outer s H vs Q E hr h => ?_)
  · obtain ⟨v, t, rfl, _⟩ := h
    rfl
  · obtain ⟨v, t, rfl, ⟨a, dx, d, kvs, rfl, ha, hd, ht, hok, nd, hst⟩, q⟩ := h
    refine ⟨_, pss_one (ps_ret (pe_callTy tupleD (by rfl) B.tuple (by decide +kernel) (pa_cons (pe_fld (pv 0) rfl) pa_nil))), ?_⟩
    refine ⟨_, rfl, a, C, dx, _, _, rfl, ha, T.cl, T.nT, kf_T _ _, d, kvs, rfl, hd, fun p hp => ?_⟩
    have e : (kvs.map fun e => kV e.1) = (namesT t).map V.str := by
      have h1 := congrArg (List.map kV) (tabV_keys ht)
      rw [List.map_map, List.map_map] at h1
      exact h1
    rw [e]
    exact q p hp
end
end Tm

namespace Tm
open PySem PySem.Spec PyProof.Rows L2
local macro_rules | `(tactic| walk_at "x") => `(tactic| dsimp only [tNext, tRet, tSeq, tCB, tCons, tNil, tAsg, tDrop, sFld])
/-! ### the tables of the made kinds -/
def letr (word : Str) (i : Nat) : Str := word ++ (⟨#[97 + i]⟩ : Str)
def letT (word : Str) (rows : List Row) : Tab := rows.zipIdx.map fun z => (letr word z.2, z.1)
def cellT (n : Nat) : Tab := letT "put" ((List.range n).map fun (v : Nat) => List.replicate n ((v : Int), (0 : Int)))
def swapT (n : Nat) : Tab := letT "swap" ((List.range n).map fun (v : Nat) => (List.range n).map fun (s : Nat) => ((v : Int), (s : Int)))
def highT (n : Nat) : Tab := letT "raise" ((List.range n).map fun (l : Nat) => (List.range n).map fun (s : Nat) => ((if (l : Int) > (s : Int) then (l : Int) else (s : Int)), (0 : Int)))
def keptR (n : Nat) : Row := (List.range n).map fun (i : Nat) => (1 + (i : Int), 1 + (i : Int))
def slotT (n : Nat) : Tab := letT "set" ((keptR n).map fun p => p :: keptR n)
def fadeS (s n : Int) : Int := if s = n then 2 * n + 1 else if 2 * n + 1 < s + 1 then 2 * n + 1 else s + 1
def laterR (n : Nat) : Row := (List.range (2 * n + 1)).map fun (i : Nat) => (fadeS (1 + (i : Int)) n, (0 : Int))
def fadeT (n : Nat) : Tab := letT "set" [(1, 0) :: laterR n, ((n : Int) + 1, 0) :: laterR n]
def adderT (n : Nat) : Tab := [("add", (List.range n).map fun (s : Nat) => (((s : Int) + 1) % (n : Int), (s : Int)))]
def flagT : Tab := [("set", [(1, 0), (1, 1)])]
structure Gm (mg : Str → Option Value) : Prop where
  LETTERS : GV mg "LETTERS" (.str (PySem.Str.ofString "abcdefgh"))
theorem letters_at : ∀ k, k < 8 → (PySem.Str.ofString "abcdefgh").cps.toList[k]? = some (97 + k) := by decide +kernel
theorem paired_mapR {α β γ : Type} {F : α → γ → Prop} (f : β → γ) : ∀ {xs : List α} {ys : List β}, Paired (fun x y => F x (f y)) xs ys → Paired F xs (ys.map f)
  | _, _, .nil => .nil
  | _, _, .cons r t => .cons r (paired_mapR f t)
theorem paired_unmapR {α β γ : Type} {F : α → γ → Prop} (f : β → γ) : ∀ {xs : List α} {ys : List β}, Paired F xs (ys.map f) → Paired (fun x y => F x (f y)) xs ys
  | [], [], _ => .nil
  | _ :: _, [], h => by cases h
  | [], _ :: _, h => by cases h
  | _ :: _, _ :: _, .cons r t => .cons r (paired_unmapR f t)
/-! ### tuples made on the way -/
section
variable {α : Type} {K : PySem.W.Frag} {σ : L2.St} {H : Hp} {ta tb te : TE} {vs : List Nat} {j : Nat}
theorem ev_pair {x y : Int} (ha : Ev ta σ H fun v _ => v = .int x) (hb : ∀ H1, Same H H1 → Ev tb σ H1 fun v _ => v = .int y) : Ev (tTup (tCons ta (tCons tb tNil))) σ H (fun v H1 => PairV H1 v (x, y)) := fun Q q =>
  ha _ fun v H1 e1 h1 => hb H1 e1 _ fun u H2 e2 h2 => ⟨by show 2 ≤ sizeLine; decide, fun p hp => q _ _ (e1.trans (e2.trans (same_new hp))) ⟨p, rfl, by rw [upd_same, h1, h2]⟩⟩
/-- tuple(a new list of pairs) -/
theorem ev_rowOf {zs : List α} {f : α → Int × Int} (h : Ev te σ H fun v H1 => ∃ p ys, v = .ref p ∧ H1 p = some (.lst ys) ∧ Paired (fun v z => PairV H1 v (f z)) ys zs) :
    Ev (tCB (fun xs H Q => ∃ p ys, xs = [.ref p] ∧ ((SqL K H p ys ∧ ∀ l, H l = none → Q (.ref l) (upd H l (.tup ys))) ∨ (SqT K H p ys ∧ Q (.ref p) H))) (tCons te tNil)) σ H (fun v H1 => RowV H1 v (zs.map f)) := fun Q q =>
  h _ fun v H1 e1 hv => by
    obtain ⟨p, ys, rfl, hl, hP⟩ := hv
    exact ⟨p, ys, rfl, .inl ⟨SqL.of hl, fun l hl' => q _ _ (e1.trans (same_new hl')) ⟨l, ys, rfl, upd_same, paired_mapR f (Paired.mapP hP fun _ _ r => r.mono (tups_of (same_new hl')))⟩⟩⟩
theorem range_at {n i : Nat} {z : Nat} (h : (List.range n)[i]? = some z) : z = i ∧ i < n := by
  have hl := (List.getElem?_eq_some_iff.mp h).1
  rw [List.length_range] at hl
  rw [List.getElem?_range hl] at h
  exact ⟨(Option.some.inj h).symm, hl⟩
/-- [e for x in range(n)], a row of pairs -/
theorem ev_lcR {ta' : TA} {n : Nat} (h : EvA ta' σ H fun l _ => l = [.int (n : Int)]) (hn : n ≤ 1000) (R : Nat → V → Hp → Prop) (hw : ∀ x, wipe ((wipe σ vs).set j (some x)) vs = wipe σ vs) (hR : ∀ z v H H', TupS H H' → R z v H → R z v H')
    (hs : ∀ (i : Nat) H1, i < n → Same H H1 → Ev te ((wipe σ vs).set j (some (.int (i : Int)))) H1 (R i)) :
    Ev (tLc (iRng1 ta') (gName j) tYes te vs) σ H (fun v H1 => ∃ p ys, v = .ref p ∧ H1 p = some (.lst ys) ∧ Paired (fun v z => R z v H1) ys (List.range n)) := fun Q q =>
  lc_runR h (by omega) (List.range n) (by rw [List.length_range]; omega) (fun _ => true) R (by rw [List.length_range]; omega) hw hR
    (fun i z x H1 hi hx e => ⟨evt_yes, fun _ H3 e3 => by
      obtain ⟨rfl, hlt⟩ := range_at hi
      rw [hx]
      exact hs z H3 hlt (e.trans e3)⟩)
    (fun p H1 ys hp e hl hP => q _ _ e ⟨p, ys, rfl, hl, by rw [filter_all] at hP; exact hP⟩)
theorem ev_lcR2 {ta' : TA} {lo m : Int} {n : Nat} (h : EvA ta' σ H fun l _ => l = [.int lo, .int m]) (hlo : 0 ≤ lo ∧ lo ≤ 1000) (hm : m = lo + n) (hn : n ≤ 1000) (R : Nat → V → Hp → Prop) (hw : ∀ x, wipe ((wipe σ vs).set j (some x)) vs = wipe σ vs) (hR : ∀ z v H H', TupS H H' → R z v H → R z v H')
    (hs : ∀ (i : Nat) H1, i < n → Same H H1 → Ev te ((wipe σ vs).set j (some (.int (lo + (i : Int))))) H1 (R i)) :
    Ev (tLc (iRng2 ta') (gName j) tYes te vs) σ H (fun v H1 => ∃ p ys, v = .ref p ∧ H1 p = some (.lst ys) ∧ Paired (fun v z => R z v H1) ys (List.range n)) := fun Q q =>
  lc_runR2 h (by omega) (List.range n) (by rw [List.length_range]; omega) (fun _ => true) R (by rw [List.length_range]; omega) hw hR
    (fun i z x H1 hi hx e => ⟨evt_yes, fun _ H3 e3 => by
      obtain ⟨rfl, hlt⟩ := range_at hi
      rw [hx]
      exact hs z H3 hlt (e.trans e3)⟩)
    (fun p H1 ys hp e hl hP => q _ _ e ⟨p, ys, rfl, hl, by rw [filter_all] at hP; exact hP⟩)
theorem lcR_go {Q : VK} {ta' : TA} {n : Nat} (h : EvA ta' σ H fun l _ => l = [.int (n : Int)]) (hn : n ≤ 1000) (R : Nat → V → Hp → Prop) (hw : ∀ x, wipe ((wipe σ vs).set j (some x)) vs = wipe σ vs) (hR : ∀ z v H H', TupS H H' → R z v H → R z v H')
    (hs : ∀ (i : Nat) H1, i < n → Same H H1 → Ev te ((wipe σ vs).set j (some (.int (i : Int)))) H1 (R i))
    (hq : ∀ p H1 ys, Same H H1 → H1 p = some (.lst ys) → Paired (fun v z => R z v H1) ys (List.range n) → Q (.ref p) H1) : tLc (iRng1 ta') (gName j) tYes te vs σ H Q :=
  ev_lcR h hn R hw hR hs Q fun v H1 e hv => by
    obtain ⟨p, ys, rfl, hl, hP⟩ := hv
    exact hq p H1 ys e hl hP
theorem lcR2_go {Q : VK} {ta' : TA} {lo m : Int} {n : Nat} (h : EvA ta' σ H fun l _ => l = [.int lo, .int m]) (hlo : 0 ≤ lo ∧ lo ≤ 1000) (hm : m = lo + n) (hn : n ≤ 1000) (R : Nat → V → Hp → Prop) (hw : ∀ x, wipe ((wipe σ vs).set j (some x)) vs = wipe σ vs) (hR : ∀ z v H H', TupS H H' → R z v H → R z v H')
    (hs : ∀ (i : Nat) H1, i < n → Same H H1 → Ev te ((wipe σ vs).set j (some (.int (lo + (i : Int))))) H1 (R i))
    (hq : ∀ p H1 ys, Same H H1 → H1 p = some (.lst ys) → Paired (fun v z => R z v H1) ys (List.range n) → Q (.ref p) H1) : tLc (iRng2 ta') (gName j) tYes te vs σ H Q :=
  ev_lcR2 h hlo hm hn R hw hR hs Q fun v H1 e hv => by
    obtain ⟨p, ys, rfl, hl, hP⟩ := hv
    exact hq p H1 ys e hl hP
end
section
variable {P : Program} {w : World} {K : PySem.W.Frag} {mg : Str → Option Value} {base : Heap} {C : Addr}
/-! ### _lettered -/
abbrev s_lettered : Stmt := top 31
theorem sc_lettered : FnScope ["word", "rows", "index", "row"] ["word", "rows"] (defScope s_lettered) := ⟨rfl, rfl, rfl, by decide +kernel, rfl, by decide +kernel, by decide +kernel⟩
def sp_lettered (C : Addr) : Sp := fun vs H Q _ => ∃ (word : Str) (a : Addr) (xs : List V) (rows : List Row), vs = [.str word, .ref a] ∧ H a = some (.lst xs) ∧ Paired (RowV H) xs rows ∧ word.length ≤ 100 ∧ okTab (letT word rows) = true ∧ (namesT (letT word rows)).Nodup ∧
  ∀ v H' t', Same H H' → KindV C H' v t' → t'.Perm (letT word rows) → Q v H'
theorem zip_at {rows : List Row} {k : Nat} {z : Row × Nat} (h : rows.zipIdx[k]? = some z) : z.2 = k ∧ rows[k]? = some z.1 := by
  rw [List.getElem?_zipIdx] at h
  cases e : rows[k]? with
  | none => rw [e] at h; cases h
  | some r =>
    rw [e] at h
    have := Option.some.inj h
    rw [← this]
    exact ⟨Nat.zero_add _, rfl⟩
theorem ok_lettered (B : Bt mg) (G : Gm mg) (OC_Kind : OkC P w K mg base "Kind" C 5 ["self", "operations"] (sp_init C)) (D : Df K mg "_lettered" s_lettered ["word", "rows"]) : Ok P w K mg base "_lettered" 7 ["word", "rows"] (sp_lettered C) := by
  refine D.ok sc_lettered (fun vs H Q E h => ?_) (fun f cdv A outer s H vs Q E hr h => ?_)
  · obtain ⟨word, a, xs, rows, rfl, _⟩ := h
    rfl
  · obtain ⟨word, a, xs, rows, rfl, ha, hx, hwl, hok, nd, q⟩ := h
    have hlen := Paired.length hx
    have h6 : rows.length ≤ 6 := by
      have := hok
      unfold okTab at this
      simp only [Bool.and_eq_true, decide_eq_true_eq] at this
      have h2 := this.1.1.1.2
      unfold letT at h2
      rw [List.length_map, List.length_zipIdx] at h2
      exact h2
    refine ⟨_, pss_one (ps_ret (OC_Kind.make hr (ha := pa_cons (pe_dc (own := [("index", 2), ("row", 3)]) (g := gTup K 2 (gCons (gName 2) (gCons (gName 3) (gNil)))) (tt := tYes) rfl sc_lettered.nd (pi_enum (by rfl) B.enumerate (pa_cons (pv 1) (pa_nil))) (blkOk_by (own := [("index", 2), ("row", 3)]) (N := ["word", "rows", "index", "row"]) (sc := defScope s_lettered) (by decide +kernel)) (fun _ _ _ _ _ => pg_tup (by rfl) (pgs_cons (pg_name (i := 2) sc_lettered.nd rfl (.inl rfl)) (pgs_cons (pg_name (i := 3) sc_lettered.nd rfl (.inl rfl)) (pgs_nil)))) (fun _ _ _ _ _ => pts_nil) (fun _ _ _ _ _ => pe_op op_add_str (pv 0) (pe_ix ix_str (G.LETTERS.pe) (pv 2) (fun _ _ => rfl))) (fun _ _ _ _ _ => pv 3)) (pa_nil)))), ?_⟩
    dsimp only [tRet, tMake, tCons, tNil]
    refine dc_runE (K := K) (xs := xs) (fun Q q => ⟨_, rfl, q _ _ (Same.refl _) ⟨a, rfl, SqL.of ha⟩⟩) rows.zipIdx (by rw [List.length_zipIdx]; exact hlen) (fun _ => true) (fun z => Sum.inr (letr word z.2)) (fun z v H => RowV H v z.1) (by rw [List.length_zipIdx]; omega)
      (by
        have h1 : (rows.zipIdx.map fun z => (Sum.inr (letr word z.2) : L2.Key)) = (namesT (letT word rows)).map Sum.inr := by
          unfold namesT letT
          rw [List.map_map, List.map_map]
          rfl
        rw [h1, List.nodup_iff_pairwise_ne, List.pairwise_map]
        exact (List.nodup_iff_pairwise_ne.mp nd).imp fun h z => h (Sum.inr.inj z)) (by intro _ _; rfl)
      (fun z v H H' e h => h.mono e) (fun k z x H1 hk hx' e => ⟨evt_yes, fun _ H3 e3 => ?_, fun _ H3 e3 => ?_⟩) (fun p H1 kvs hp e hd hP => ?_)
    · obtain ⟨ez, hr'⟩ := zip_at hk
      have hk8 : k < 8 := by have := (List.getElem?_eq_some_iff.mp hr').1; omega
      intro Q q
      refine ⟨_, rfl, _, rfl, _, (k : Int), 97 + k, rfl, rfl, sz_le (by decide), atI_nat (letters_at k hk8), word, _, rfl, rfl, sz_le (by show word.length + 1 ≤ 100000; omega), ?_⟩
      refine q _ _ (Same.refl _) ?_
      rw [ez]
      rfl
    · obtain ⟨ez, hr'⟩ := zip_at hk
      obtain ⟨r, hr2, hrow⟩ := paired_ix2 hx hx'
      rw [hr'] at hr2
      cases hr2
      exact ev_is rfl (hrow.mono (tups_of (e.trans e3)))
    · rw [filter_all] at hP
      have ht : TabV H1 kvs (letT word rows) := paired_mapR _ hP
      exact mk_kind hd ht hok nd fun v H' t' e' hk pm => q v H' t' (e.trans e') hk pm
end
end Tm

namespace Tm
open PySem PySem.Spec PyProof.Rows L2
local macro_rules | `(tactic| walk_at "x") => `(tactic| dsimp only [tNext, tRet, tSeq, tCall, tC, tCons, tNil, tAsg, tDrop, sFld])
theorem cell_ok : ∀ n, n < 7 → 2 ≤ n → okTab (cellT n) = true ∧ (namesT (cellT n)).Nodup := by decide +kernel
theorem swap_ok : ∀ n, n < 7 → 2 ≤ n → okTab (swapT n) = true ∧ (namesT (swapT n)).Nodup := by decide +kernel
theorem high_ok : ∀ n, n < 7 → 2 ≤ n → okTab (highT n) = true ∧ (namesT (highT n)).Nodup := by decide +kernel
theorem slot_ok : ∀ n, n < 7 → 1 ≤ n → okTab (slotT n) = true ∧ (namesT (slotT n)).Nodup := by decide +kernel
theorem fade_ok : ∀ n, n < 6 → 1 ≤ n → okTab (fadeT n) = true ∧ (namesT (fadeT n)).Nodup := by decide +kernel
theorem adder_ok : ∀ n, n < 13 → 2 ≤ n → okTab (adderT n) = true ∧ (namesT (adderT n)).Nodup := by decide +kernel
theorem flag_ok : okTab flagT = true ∧ (namesT flagT).Nodup := by decide +kernel
/-- x = tuple(a new list of pairs), then the rest -/
theorem asg_row {α : Type} {K : PySem.W.Frag} {D : Ends} {σ : L2.St} {H : Hp} {te : TE} {i : Nat} {rest : TS} {zs : List α} {f : α → Int × Int} (h : Ev te σ H fun v H1 => ∃ p ys, v = .ref p ∧ H1 p = some (.lst ys) ∧ Paired (fun v z => PairV H1 v (f z)) ys zs)
    (k : ∀ v H1, Same H H1 → RowV H1 v (zs.map f) → rest D (σ.set i (some v)) H1) :
    tSeq (tAsg (tCB (fun xs H Q => ∃ p ys, xs = [.ref p] ∧ ((SqL K H p ys ∧ ∀ l, H l = none → Q (.ref l) (upd H l (.tup ys))) ∨ (SqT K H p ys ∧ Q (.ref p) H))) (tCons te tNil)) (gName i)) rest D σ H :=
  ev_rowOf (K := K) h _ fun v H1 e hv => k v H1 e hv
theorem paired_rep {α β : Type} {F : α → β → Prop} {x : α} {y : β} (h : F x y) : ∀ n, Paired F (List.replicate n x) (List.replicate n y)
  | 0 => .nil
  | n + 1 => .cons h (paired_rep h n)
section
variable {P : Program} {w : World} {K : PySem.W.Frag} {mg : Str → Option Value} {base : Heap} {C : Addr}
def sp_made (C : Addr) (lo hi : Nat) (T : Nat → Tab) : Sp := fun vs H Q _ => ∃ n : Nat, vs = [.int (n : Int)] ∧ lo ≤ n ∧ n ≤ hi ∧ ∀ v H' t', Same H H' → KindV C H' v t' → t'.Perm (T n) → Q v H'
abbrev NeedNum (P : Program) (w : World) (K : PySem.W.Frag) (mg : Str → Option Value) (base : Heap) := Ok P w K mg base "need_number" 2 ["value", "least", "most"] sp_need
abbrev Lett (P : Program) (w : World) (K : PySem.W.Frag) (mg : Str → Option Value) (base : Heap) (C : Addr) := Ok P w K mg base "_lettered" 7 ["word", "rows"] (sp_lettered C)
/-! ### cells -/
/-! ### swap and highest kinds: rows of rows -/
/-! ### slots -/
abbrev s_slot : Stmt := top 32
theorem sc_slot_kind : FnScope ["many", "kept", "state", "pair"] ["many"] (defScope s_slot) := ⟨rfl, rfl, rfl, by decide +kernel, rfl, by decide +kernel, by decide +kernel⟩
theorem ok_slot (B : Bt mg) (O_need_number : NeedNum P w K mg base) (O_lettered : Lett P w K mg base C) (D : Df K mg "slot_kind" s_slot ["many"]) : Ok P w K mg base "slot_kind" 8 ["many"] (sp_made C 1 6 slotT) := by
  refine D.ok sc_slot_kind (fun vs H Q E h => ?_) (fun f cdv A outer s H vs Q E hr h => ?_)
  · obtain ⟨n, rfl, _⟩ := h
    rfl
  · obtain ⟨n, rfl, h2, h6, q⟩ := h
    have hT := slot_ok n (by omega) h2
    refine ⟨_, pss_cons (ps_expr (O_need_number.call hr (ha := pa_cons (pv 0) (pa_cons (pe_int) (pa_cons (pe_int) (pa_nil))))))
      (pss_cons (ps_set (i := 1) sc_slot_kind.nd rfl (.inr rfl) (pe_callTy (tupleK (K := K)) (by rfl) B.tuple (by decide +kernel) (pa_cons (pe_lc (own := [("state", 2)]) (g := gName 2) (tt := tYes) rfl sc_slot_kind.nd (pi_range2 (by rfl) B.range (pa_cons (pe_int) (pa_cons (pe_op op_add (pv 0) (pe_int)) (pa_nil)))) (blkOk_by (own := [("state", 2)]) (N := ["many", "kept", "state", "pair"]) (sc := defScope s_slot) (by decide +kernel)) (fun _ _ _ _ _ => pg_name (i := 2) sc_slot_kind.nd rfl (.inl rfl)) (fun _ _ _ _ _ => pts_nil) (fun _ _ _ _ _ => pe_tup (pa_cons (pv 2) (pa_cons (pv 2) (pa_nil))))) (pa_nil))))
      (pss_one (ps_ret (O_lettered.call hr (ha := pa_cons (pe_str) (pa_cons (pe_lc (own := [("pair", 3)]) (g := gName 3) (tt := tYes) rfl sc_slot_kind.nd (pi_tup (pv 1)) (blkOk_by (own := [("pair", 3)]) (N := ["many", "kept", "state", "pair"]) (sc := defScope s_slot) (by decide +kernel)) (fun _ _ _ _ _ => pg_name (i := 3) sc_slot_kind.nd rfl (.inl rfl)) (fun _ _ _ _ _ => pts_nil) (fun _ _ _ _ _ => pe_tup (pa_cons (pv 3) (pa_starK (K := K) (pv 1) (pa_nil))))) (pa_nil))))))), ?_⟩
    refine ⟨_, rfl, n, 1, 6, rfl, by omega, by omega, ?_⟩
    dsimp only
    refine asg_row (f := fun i : Nat => (1 + (i : Int), 1 + (i : Int))) (zs := List.range n) ?_ fun v H1 e1 hv => ?_
    · exact ev_lcR2 (n := n) (lo := 1) (m := (n : Int) + 1) (fun Q q => ⟨_, rfl, _, _, rfl, rfl, q _ _ (Same.refl _) rfl⟩) (by omega) (by omega) (by omega) _ (by intro _; rfl) (fun z v H H' e h => h.mono e) (fun s H2 hs e2 => ev_pair (ev_is rfl rfl) fun _ _ => ev_is rfl rfl)
    obtain ⟨a, xs, rfl, ha, hx⟩ := hv
    have hkl : (keptR n).length = n := by simp [keptR]
    have hlen := Paired.length hx
    rw [List.length_map, List.length_range] at hlen
    walk_at "x"
    refine lc_runT (K := K) (xs := xs) (ev_is rfl ⟨a, rfl, SqT.of ha⟩) (keptR n) (by rw [hkl]; exact hlen) (fun _ => true) (fun z v H => RowV H v (z :: keptR n)) (by rw [hkl]; omega) (by intro _; rfl) (fun z v H H' e h => h.mono e)
      (fun i z v H2 hi y e => ⟨evt_yes, fun _ H3 e3 Q q => ?_⟩) (fun p H2 ys hp e2 hl hP => ?_)
    · obtain ⟨z', hz', hpz⟩ := paired_ix2 hx y
      have hz2 : z' = z := by
        have h0 : (keptR n)[i]? = some z' := hz'
        rw [hi] at h0
        exact (Option.some.inj h0).symm
      subst hz2
      have s3 : Same H1 H3 := e.trans e3
      refine ⟨_, rfl, _, rfl, a, xs, rfl, .inl (SqT.of (s3 _ _ ha)), by show (v :: (xs ++ [])).length ≤ sizeLine; exact sz_le (by simp; omega), fun p hp => q _ _ (same_new hp) ⟨p, _, rfl, upd_same, ?_⟩⟩
      rw [List.append_nil]
      have t4 := (tups_of s3).trans (tups_of (same_new (o := .tup (v :: xs)) hp))
      exact .cons (hpz.mono t4) (Paired.mapP hx fun _ _ r => r.mono t4)
    · rw [filter_all] at hP
      exact ⟨"set", p, ys, _, rfl, hl, paired_mapR _ hP, by decide, hT.1, hT.2, fun v H' t' e' hk pm => q v H' t' (e1.trans (e2.trans e')) hk pm⟩
end
end Tm

namespace Tm
open PySem PySem.Spec PyProof.Rows L2
local macro_rules | `(tactic| walk_at "x") => `(tactic| dsimp only [tNext, tRet, tSeq, tCall, tCB, tC, tCons, tNil, tAsg, tDrop, sFld])
/-! ### the place of a text in a list -/
def idxS : List Str → Str → Nat
  | [], _ => 0
  | w :: ws, x => if w = x then 0 else idxS ws x + 1
theorem idx_ok : ∀ {ws : List Str} {x : Str}, x ∈ ws → ws[idxS ws x]? = some x ∧ ∀ (m : Nat) (z : Str), m < idxS ws x → ws[m]? = some z → z ≠ x
  | [], _, h => by simp at h
  | w :: ws, x, h => by
    by_cases hw : w = x
    · have e : idxS (w :: ws) x = 0 := if_pos hw
      rw [e]
      exact ⟨by simp [hw], fun m z hm => absurd hm (Nat.not_lt_zero _)⟩
    · have e : idxS (w :: ws) x = idxS ws x + 1 := if_neg hw
      have hm : x ∈ ws := (List.mem_cons.mp h).resolve_left (fun z => hw z.symm)
      obtain ⟨h1, h2⟩ := idx_ok hm
      rw [e]
      refine ⟨by simpa using h1, fun m z hlt hz => ?_⟩
      cases m with
      | zero =>
        simp at hz
        rw [← hz]; exact hw
      | succ m => exact h2 m z (by omega) (by simpa using hz)
theorem indexFK {X : Cx} {K : PySem.W.Frag} (hK : X.K = K := by rfl) : MtR X "list.index" (rIndex K) := by subst hK; exact mt_index
theorem pe_bmK {X : Cx} {K : PySem.W.Frag} {T id : String} {r : V → List V → Hp → VK → Prop} {o e : Expr} {es : List Expr} {to : TE} {t : TA} {name : Str} {apos cpos : Pos} (pa : PlainAttrs T) (slot : Slot T name id) (hty : typeOf (.builtin id) = pure (.type "method_descriptor")) (hm : MtR X id r) (ho : PE X o to) (ha : PA X (e :: es) t)
    (hK : X.K = K := by rfl) (hbase : attributeBase o name X.env (eval o X.env) = eval o X.env := by rfl)
    (hfew : ((backTo cpos (starEach (e :: es) X.env)).all (fun x => !x.1) && (backToKw cpos (keywordEach [] X.env)).all (fun x => x.1.isSome) &&
      decide ((e :: es).length + ([] : List Keyword).length + (if ([] : List Keyword).isEmpty then 0 else 1) < 30)) = true := by rfl)
    (hline : (apos.endLine == cpos.line) = true := by rfl) (hs : starEach (e :: es) X.env = (false, eval e X.env) :: starEach es X.env := by rfl) (hp : (backTo cpos (starEach es X.env)).any (·.1) = false := by rfl) :
    PE X (.Call (.Attribute o name apos) (e :: es) [] cpos) (tBM K T r to t) := by subst hK; exact pe_bm pa slot hty hm ho ha hbase hfew hline hs hp
theorem ev_index {K : PySem.W.Frag} {σ : L2.St} {H : Hp} {i : Nat} {te : TE} {a : Addr} {ws : List Str} {x : Str} (hi : σ[i]? = some (some (.ref a))) (ha : H a = some (.lst (ws.map V.str))) (hx : x ∈ ws) (he : Ev te σ H fun v _ => v = .str x) :
    Ev (tBM K "list" (rIndex K) (tVar i) (tCons te tNil)) σ H (fun v _ => v = .int (idxS ws x : Nat)) := fun Q q => by
  refine ⟨_, hi, .inl ⟨rfl, _, SqL.of ha⟩, he _ fun v H1 e1 ev => ?_⟩
  subst ev
  obtain ⟨h1, h2⟩ := idx_ok hx
  refine ⟨a, ws.map V.str, .str x, idxS ws x, .str x, rfl, rfl, SqL.of (e1 _ _ ha), rfl, by simp [List.all_map, flatV], by rw [List.getElem?_map, h1]; rfl, by simp [eqV], fun m z' hm hz => ?_, q _ _ e1 rfl⟩
  rw [List.getElem?_map] at hz
  cases hw : ws[m]? with
  | none => rw [hw] at hz; cases hz
  | some z =>
    rw [hw] at hz
    have ez : V.str z = z' := Option.some.inj hz
    subst ez
    have := h2 m z hm hw
    simp [eqV, this]
/-! ### queues -/
def QW : List Str := ["", "a", "b", "aa", "ab", "ba", "bb"]
def qwords (n : Nat) : List Str := QW.filter fun w => decide (w.length ≤ n)
def longS (n : Nat) (l w : Str) : Str := if w.length < n then w ++ l else w
def joinR (n : Nat) (l : Str) : Row := (qwords n).map fun w => ((idxS (qwords n) (longS n l w) : Nat), (0 : Int))
def leaveR (n : Nat) : Row := (qwords n).map fun w => ((idxS (qwords n) (cutS w (some 1) none) : Nat), (idxS (qwords n) (cutS w none (some 1)) : Nat))
def queueT (n : Nat) : Tab := [("joina", joinR n "a"), ("joinb", joinR n "b"), ("leave", leaveR n)]
theorem queue_ok : ∀ n, n < 3 → 1 ≤ n → okTab (queueT n) = true ∧ (namesT (queueT n)).Nodup := by decide +kernel
theorem q_long : ∀ n, n < 3 → 1 ≤ n → ∀ l ∈ (["a", "b"] : List Str), ∀ w ∈ qwords n, longS n l w ∈ qwords n := by decide +kernel
theorem q_cut : ∀ n, n < 3 → 1 ≤ n → ∀ w ∈ qwords n, cutS w (some 1) none ∈ qwords n ∧ cutS w none (some 1) ∈ qwords n ∧ w.length ≤ 2 := by decide +kernel
theorem q_short : ∀ w ∈ QW, w.length ≤ 2 := by decide +kernel
theorem q_len : ∀ n, n < 3 → (qwords n).length ≤ 7 := by decide +kernel
section
variable {P : Program} {w : World} {K : PySem.W.Frag} {mg : Str → Option Value} {base : Heap} {C : Addr}
abbrev s_join : Stmt := top 36
theorem sc_join_row : FnScope ["words", "many", "letter", "longer", "word"] ["words", "many", "letter"] (defScope s_join) := ⟨rfl, rfl, rfl, by decide +kernel, rfl, by decide +kernel, by decide +kernel⟩
def sp_join : Sp := fun vs H Q _ => ∃ (a : Addr) (n : Nat) (l : Str), vs = [.ref a, .int (n : Int), .str l] ∧ H a = some (.lst ((qwords n).map V.str)) ∧ 1 ≤ n ∧ n ≤ 2 ∧ l ∈ (["a", "b"] : List Str) ∧ ∀ v H', Same H H' → RowV H' v (joinR n l) → Q v H'
theorem ok_join (B : Bt mg) (D : Df K mg "_join_row" s_join ["words", "many", "letter"]) : Ok P w K mg base "_join_row" 1 ["words", "many", "letter"] sp_join := by
  refine D.ok sc_join_row (fun vs H Q E h => ?_) (fun f cdv A outer s H vs Q E hr h => ?_)
  · obtain ⟨a, n, l, rfl, _⟩ := h
    rfl
  · obtain ⟨a, n, l, rfl, ha, h1, h2, hl, q⟩ := h
    have hlong := q_long n (by omega) h1 l hl
    have hsh : ∀ w ∈ qwords n, w.length ≤ 2 := fun w hw => q_short w (List.mem_filter.mp hw).1
    have hl1 : l.length = 1 := by
      rcases List.mem_cons.mp hl with z | z
      · rw [z]; decide +kernel
      · rcases List.mem_cons.mp z with z | z
        · rw [z]; decide +kernel
        · simp at z
    have hql := q_len n (by omega)
    refine ⟨_, pss_cons (ps_setLc (i := 3) (own := [("word", 4)]) (g := gName 4) (tt := tYes) rfl sc_join_row.nd rfl rfl (sw_true rfl rfl rfl (by decide +kernel)) (pi_list (pv 0)) (blkOk_by (own := [("word", 4)]) (N := ["words", "many", "letter", "longer", "word"]) (sc := defScope s_join) (by decide +kernel)) (fun _ _ _ _ _ => pg_name (i := 4) sc_join_row.nd rfl (.inl rfl)) (fun _ _ _ _ _ => pts_nil) (fun _ _ _ _ _ => pe_ifExp (pt_cmpR op_lt (pe_callB call_len_str (by rfl) B.len (by decide +kernel) (pa_cons (pv 4) (pa_nil))) (pv 1) (nomark _)) (pe_op op_add_str (pv 4) (pv 2)) (pv 4)))
      (pss_one (ps_ret (pe_callTy (tupleK (K := K)) (by rfl) B.tuple (by decide +kernel) (pa_cons (pe_lc (own := [("word", 4)]) (g := gName 4) (tt := tYes) rfl sc_join_row.nd (pi_list (pv 3)) (blkOk_by (own := [("word", 4)]) (N := ["words", "many", "letter", "longer", "word"]) (sc := defScope s_join) (by decide +kernel)) (fun _ _ _ _ _ => pg_name (i := 4) sc_join_row.nd rfl (.inl rfl)) (fun _ _ _ _ _ => pts_nil) (fun _ _ _ _ _ => pe_tup (pa_cons (pe_bmK (K := K) PySem.F.plainAttrs_list PySem.F.slot_list_index PySem.F.type_list_index (indexFK (K := K)) (pv 0) (pa_cons (pv 4) (pa_nil))) (pa_cons (pe_int) (pa_nil))))) (pa_nil))))), ?_⟩
    dsimp only [tSeq, tAsg]
    refine lc_runL (K := K) (xs := (qwords n).map V.str) (ev_is rfl ⟨a, rfl, SqL.of ha⟩) (qwords n) (List.length_map ..) (fun _ => true) (fun w v _ => v = V.str (longS n l w)) (by omega) (by intro _; rfl) (fun _ _ _ _ _ h => h)
      (fun i w v H1 hi hx e => ⟨evt_yes, fun _ H3 e3 Q q => ?_⟩) (fun p H1 ys hp e hls hP => ?_)
    · rw [List.getElem?_map, hi] at hx
      have ex : V.str w = v := Option.some.inj hx
      subst ex
      have hw2 := hsh w (List.mem_of_getElem? hi)
      refine ⟨_, rfl, w, rfl, sz_le (by omega), _, rfl, _, _, rfl, rfl, _, rfl, ?_⟩
      by_cases hc : w.length < n
      · refine ifT (decide_eq_true (by omega)) ?_
        refine ⟨_, rfl, _, rfl, _, _, rfl, rfl, sz_le (by omega), q _ _ (Same.refl _) ?_⟩
        rw [longS, if_pos hc]
      · refine ifF (decide_eq_false (by omega)) ?_
        refine ⟨_, rfl, q _ _ (Same.refl _) ?_⟩
        rw [longS, if_neg hc]
    · rw [filter_all] at hP
      have ey : ys = ((qwords n).map (longS n l)).map V.str := by
        clear hls
        generalize qwords n = ws at hP
        induction hP with
        | nil => rfl
        | cons r t ih => rw [r, ih]; rfl
      rw [ey] at hls
      dsimp only [gName]
      walk_at "x"

      refine lc_runL (K := K) (xs := ((qwords n).map (longS n l)).map V.str) (ev_is rfl ⟨p, rfl, SqL.of hls⟩) (qwords n) (by simp) (fun _ => true) (fun w v H => PairV H v ((idxS (qwords n) (longS n l w) : Nat), (0 : Int))) (by omega) (by intro _; rfl) (fun _ _ _ _ e h => h.mono e)
        (fun i w v H2 hi hx e2 => ⟨evt_yes, fun _ H3 e3 => ?_⟩) (fun p2 H2 ys2 hp2 e2 hl2 hP2 => ?_)
      · rw [List.getElem?_map, List.getElem?_map, hi] at hx
        have ex : V.str (longS n l w) = v := Option.some.inj hx
        subst ex
        refine ev_pair ?_ fun _ _ => ev_c rfl
        exact ev_index (ws := qwords n) rfl ((e.trans (e2.trans e3)) _ _ ha) (hlong w (List.mem_of_getElem? hi)) (ev_is rfl rfl)
      · rw [filter_all] at hP2
        refine ⟨p2, ys2, rfl, .inl ⟨SqL.of hl2, fun l3 hl3 => q _ _ (e.trans (e2.trans (same_new hl3))) ⟨l3, ys2, rfl, upd_same, ?_⟩⟩⟩
        exact paired_mapR _ (Paired.mapP hP2 fun _ _ r => r.mono (tups_of (same_new hl3)))
end
end Tm

namespace Tm
open PySem PySem.Spec PyProof.Rows L2
local macro_rules | `(tactic| walk_at "x") => `(tactic| dsimp only [tNext, tRet, tSeq, tCall, tCB, tC, tCons, tNil, tAsg, tDrop, sFld])
/-- a constant tuple of texts of the top -/
structure GT (K : PySem.W.Frag) (mg : Str → Option Value) (x : Str) (ws : List Str) : Prop where
  ex : ∃ a, mg x = some (.ref a) ∧ ∀ H, SqT K H a (ws.map V.str)
theorem merge1 (k : L2.Key) (v : V) : mergeK [] [(k, v)] = [(k, v)] := rfl
section
variable {P : Program} {w : World} {K : PySem.W.Frag} {mg : Str → Option Value} {base : Heap} {C : Addr}
abbrev s_faded : Stmt := top 34
theorem sc_faded : FnScope ["state", "many", "forgotten"] ["state", "many"] (defScope s_faded) := ⟨rfl, rfl, rfl, by decide +kernel, rfl, by decide +kernel, by decide +kernel⟩
def sp_faded : Sp := fun vs H Q _ => ∃ s n : Int, vs = [.int s, .int n] ∧ Q (.int (fadeS s n)) H
theorem ok_faded (B : Bt mg) (D : Df K mg "_faded" s_faded ["state", "many"]) : Ok P w K mg base "_faded" 1 ["state", "many"] sp_faded := by
  refine D.ok sc_faded (fun vs H Q E h => ?_) (fun f cdv A outer s H vs Q E hr h => ?_)
  · obtain ⟨s, n, rfl, _⟩ := h
    rfl
  · obtain ⟨s, n, rfl, q⟩ := h
    refine ⟨_, pss_cons (ps_set (i := 2) sc_faded.nd rfl (.inl rfl) (pe_op op_add (pe_op op_mul (pe_int) (pv 1)) (pe_int)))
      (pss_cons (ps_if (pt_cmpR op_eq (pv 0) (pv 1) (nomark _))
        (pss_one (ps_ret (pv 2)))
        (pss_nil))
      (pss_one (ps_ret (pe_callB (call_min2 rfl) (by rfl) B.min (by decide +kernel) (pa_cons (pe_op op_add (pv 0) (pe_int)) (pa_cons (pv 2) (pa_nil))))))), ?_⟩
    refine ⟨_, rfl, _, _, rfl, rfl, .inl ⟨by decide, by decide⟩, _, _, rfl, rfl, ?_⟩
    refine ⟨_, rfl, _, rfl, rfl, _, rfl, ?_⟩
    by_cases hc : s = n
    · refine ifT (by simp [hc]) ?_
      refine ⟨_, rfl, ?_⟩
      have e : fadeS s n = 2 * n + 1 := if_pos hc
      rw [e] at q
      exact q
    · refine ifF (by simp [hc]) ?_
      refine ⟨_, rfl, _, _, rfl, rfl, _, rfl, _, _, rfl, ?_⟩
      have e : fadeS s n = if 2 * n + 1 < s + 1 then 2 * n + 1 else s + 1 := if_neg hc
      rw [e] at q
      exact q
abbrev s_fading : Stmt := top 33
theorem sc_fading_kind : FnScope ["many", "later", "state"] ["many"] (defScope s_fading) := ⟨rfl, rfl, rfl, by decide +kernel, rfl, by decide +kernel, by decide +kernel⟩
theorem ok_fading (B : Bt mg) (O_need_number : NeedNum P w K mg base) (O_faded : Ok P w K mg base "_faded" 1 ["state", "many"] sp_faded) (O_lettered : Lett P w K mg base C) (D : Df K mg "fading_kind" s_fading ["many"]) : Ok P w K mg base "fading_kind" 8 ["many"] (sp_made C 1 5 fadeT) := by
  refine D.ok sc_fading_kind (fun vs H Q E h => ?_) (fun f cdv A outer s H vs Q E hr h => ?_)
  · obtain ⟨n, rfl, _⟩ := h
    rfl
  · obtain ⟨n, rfl, h2, h6, q⟩ := h
    have hT := fade_ok n (by omega) h2
    refine ⟨_, pss_cons (ps_expr (O_need_number.call hr (ha := pa_cons (pv 0) (pa_cons (pe_int) (pa_cons (pe_int) (pa_nil))))))
      (pss_cons (ps_set (i := 1) sc_fading_kind.nd rfl (.inl rfl) (pe_callTy (tupleK (K := K)) (by rfl) B.tuple (by decide +kernel) (pa_cons (pe_lc (own := [("state", 2)]) (g := gName 2) (tt := tYes) rfl sc_fading_kind.nd (pi_range2 (by rfl) B.range (pa_cons (pe_int) (pa_cons (pe_op op_add (pe_op op_mul (pe_int) (pv 0)) (pe_int)) (pa_nil)))) (blkOk_by (own := [("state", 2)]) (N := ["many", "later", "state"]) (sc := defScope s_fading) (by decide +kernel)) (fun _ _ _ _ _ => pg_name (i := 2) sc_fading_kind.nd rfl (.inl rfl)) (fun _ _ _ _ _ => pts_nil) (fun _ _ _ _ _ => pe_tup (pa_cons (O_faded.call hr (ha := pa_cons (pv 2) (pa_cons (pv 0) (pa_nil)))) (pa_cons (pe_int) (pa_nil))))) (pa_nil))))
      (pss_one (ps_ret (O_lettered.call hr (ha := pa_cons (pe_str) (pa_cons (pe_lst (pa_cons (pe_tup (pa_cons (pe_tup (pa_cons (pe_int) (pa_cons (pe_int) (pa_nil)))) (pa_starK (K := K) (pv 1) (pa_nil)))) (pa_cons (pe_tup (pa_cons (pe_tup (pa_cons (pe_op op_add (pv 0) (pe_int)) (pa_cons (pe_int) (pa_nil)))) (pa_starK (K := K) (pv 1) (pa_nil)))) (pa_nil)))) (pa_nil))))))), ?_⟩
    refine ⟨_, rfl, n, 1, 5, rfl, by omega, by omega, ?_⟩
    dsimp only
    refine asg_row (f := fun i : Nat => (fadeS (1 + (i : Int)) n, (0 : Int))) (zs := List.range (2 * n + 1)) ?_ fun v H1 e1 hv => ?_
    · exact ev_lcR2 (n := 2 * n + 1) (lo := 1) (m := 2 * (n : Int) + 2) (fun Q q => ⟨_, rfl, _, _, rfl, rfl, .inl ⟨by decide, by decide⟩, _, _, rfl, rfl, q _ _ (Same.refl _) rfl⟩) (by omega) (by omega) (by omega) _ (by intro _; rfl) (fun z v H H' e h => h.mono e)
        (fun s H2 hs e2 => ev_pair (fun Q q => ⟨_, rfl, _, rfl, _, _, rfl, q _ _ (Same.refl _) rfl⟩) fun _ _ => ev_c rfl)
    obtain ⟨a, xs, rfl, ha, hx⟩ := hv
    have hlen := Paired.length hx
    rw [List.length_map, List.length_range] at hlen
    refine ⟨by show 2 ≤ sizeLine; decide, fun p1 hp1 => ?_⟩
    refine ⟨_, rfl, a, xs, rfl, .inl (SqT.of ((same_new hp1) _ _ ha)), by show (V.ref p1 :: (xs ++ [])).length ≤ sizeLine; exact sz_le (by simp; omega), fun p2 hp2 => ?_⟩
    rw [List.append_nil]
    have e2 : Same H1 (upd (upd H1 p1 (.tup [.int 1, .int 0])) p2 (.tup (.ref p1 :: xs))) := (same_new hp1).trans (same_new hp2)
    have r1 : RowV (upd (upd H1 p1 (.tup [.int 1, .int 0])) p2 (.tup (.ref p1 :: xs))) (.ref p2) ((1, 0) :: laterR n) := by
      refine ⟨p2, _, rfl, upd_same, .cons ⟨p1, rfl, ?_⟩ (Paired.mapP hx fun _ _ r => r.mono (tups_of e2))⟩
      rw [upd_ne (fun z => by rw [z, upd_same] at hp2; cases hp2), upd_same]
    generalize upd (upd H1 p1 (.tup [.int 1, .int 0])) p2 (.tup (.ref p1 :: xs)) = H2 at e2 r1
    refine ⟨_, rfl, _, _, rfl, rfl, by show 2 ≤ sizeLine; decide, fun p3 hp3 => ?_⟩
    refine ⟨_, rfl, a, xs, rfl, .inl (SqT.of ((same_new hp3) _ _ (e2 _ _ ha))), by show (V.ref p3 :: (xs ++ [])).length ≤ sizeLine; exact sz_le (by simp; omega), fun p4 hp4 => ?_⟩
    rw [List.append_nil]
    have e3 : Same H2 (upd (upd H2 p3 (.tup [.int ((n : Int) + 1), .int 0])) p4 (.tup (.ref p3 :: xs))) := (same_new hp3).trans (same_new hp4)
    have r2 : RowV (upd (upd H2 p3 (.tup [.int ((n : Int) + 1), .int 0])) p4 (.tup (.ref p3 :: xs))) (.ref p4) (((n : Int) + 1, 0) :: laterR n) := by
      refine ⟨p4, _, rfl, upd_same, .cons ⟨p3, rfl, ?_⟩ (Paired.mapP hx fun _ _ r => r.mono (tups_of (e2.trans e3)))⟩
      rw [upd_ne (fun z => by rw [z, upd_same] at hp4; cases hp4), upd_same]
    generalize upd (upd H2 p3 (.tup [.int ((n : Int) + 1), .int 0])) p4 (.tup (.ref p3 :: xs)) = H3 at e3 r2
    refine ⟨by show 2 ≤ sizeLine; decide, fun l hl => ?_⟩
    refine ⟨"set", l, _, [(1, 0) :: laterR n, ((n : Int) + 1, 0) :: laterR n], rfl, upd_same, .cons ((r1.mono (tups_of e3)).mono (tups_of (same_new hl))) (.cons (r2.mono (tups_of (same_new hl))) .nil), by decide, hT.1, hT.2, fun v H' t' e' hk pm => q v H' t' ((e1.trans (e2.trans (e3.trans (same_new hl)))).trans e') hk pm⟩
/-! ### flags, adders -/
end
end Tm

namespace Tm
open PySem PySem.Spec PyProof.Rows L2
local macro_rules | `(tactic| walk_at "x") => `(tactic| dsimp only [tNext, tRet, tSeq, tCall, tCB, tC, tCons, tNil, tAsg, tDrop, sFld])
theorem strs_eq : ∀ {ys : List V} {ws : List Str}, Paired (fun v z => v = V.str z) ys ws → ys = ws.map V.str
  | _, _, .nil => rfl
  | _, _, .cons r t => by rw [r, strs_eq t]; rfl
section
variable {P : Program} {w : World} {K : PySem.W.Frag} {mg : Str → Option Value} {base : Heap} {C : Addr}
abbrev s_queue : Stmt := top 35
theorem sc_queue_kind : FnScope ["many", "words", "leave", "word"] ["many"] (defScope s_queue) := ⟨rfl, rfl, rfl, by decide +kernel, rfl, by decide +kernel, by decide +kernel⟩
theorem ok_queue (B : Bt mg) (G : GT K mg "QUEUE_WORDS" QW) (O_need_number : NeedNum P w K mg base) (O_join_row : Ok P w K mg base "_join_row" 1 ["words", "many", "letter"] sp_join) (OC_Kind : OkC P w K mg base "Kind" C 5 ["self", "operations"] (sp_init C)) (D : Df K mg "queue_kind" s_queue ["many"]) : Ok P w K mg base "queue_kind" 8 ["many"] (sp_made C 1 2 queueT) := by
  obtain ⟨aq, hmq, hq⟩ := G.ex
  refine D.ok sc_queue_kind (fun vs H Q E h => ?_) (fun f cdv A outer s H vs Q E hr h => ?_)
  · obtain ⟨n, rfl, _⟩ := h
    rfl
  · obtain ⟨n, rfl, h1, h2, q⟩ := h
    have hT := queue_ok n (by omega) h1
    have hcut := q_cut n (by omega) h1
    have hql := q_len n (by omega)
    refine ⟨_, pss_cons (ps_expr (O_need_number.call hr (ha := pa_cons (pv 0) (pa_cons (pe_int) (pa_cons (pe_int) (pa_nil))))))
      (pss_cons (ps_set (i := 1) sc_queue_kind.nd rfl (.inr rfl) (pe_lc (own := [("word", 3)]) (g := gName 3) (tt := _) rfl sc_queue_kind.nd (pi_tup (pe_glob (v := .ref aq) (by rfl) hmq rfl)) (blkOk_by (own := [("word", 3)]) (N := ["many", "words", "leave", "word"]) (sc := defScope s_queue) (by decide +kernel)) (fun _ _ _ _ _ => pg_name (i := 3) sc_queue_kind.nd rfl (.inl rfl)) (fun _ _ _ _ _ => pts_one (pt_cmpR op_le (pe_callB call_len_str (by rfl) B.len (by decide +kernel) (pa_cons (pv 3) (pa_nil))) (pv 0) (nomark _))) (fun _ _ _ _ _ => pv 3)))
      (pss_cons (ps_set (i := 2) sc_queue_kind.nd rfl (.inl rfl) (pe_callTy (tupleK (K := K)) (by rfl) B.tuple (by decide +kernel) (pa_cons (pe_lc (own := [("word", 3)]) (g := gName 3) (tt := tYes) rfl sc_queue_kind.nd (pi_list (pv 1)) (blkOk_by (own := [("word", 3)]) (N := ["many", "words", "leave", "word"]) (sc := defScope s_queue) (by decide +kernel)) (fun _ _ _ _ _ => pg_name (i := 3) sc_queue_kind.nd rfl (.inl rfl)) (fun _ _ _ _ _ => pts_nil) (fun _ _ _ _ _ => pe_tup (pa_cons (pe_bmK (K := K) PySem.F.plainAttrs_list PySem.F.slot_list_index PySem.F.type_list_index (indexFK (K := K)) (pv 1) (pa_cons (pe_slice sl_str (pv 3) (po_some (pe_int)) (po_none)) (pa_nil))) (pa_cons (pe_bmK (K := K) PySem.F.plainAttrs_list PySem.F.slot_list_index PySem.F.type_list_index (indexFK (K := K)) (pv 1) (pa_cons (pe_slice sl_str (pv 3) (po_none) (po_some (pe_int))) (pa_nil))) (pa_nil))))) (pa_nil))))
      (pss_one (ps_ret (OC_Kind.make hr (ha := pa_cons (pe_disp (pps_cons (pe_str) (O_join_row.call hr (ha := pa_cons (pv 1) (pa_cons (pv 0) (pa_cons (pe_str) (pa_nil))))) (pps_cons (pe_str) (O_join_row.call hr (ha := pa_cons (pv 1) (pa_cons (pv 0) (pa_cons (pe_str) (pa_nil))))) (pps_cons (pe_str) (pv 2) (pps_nil)))) (by rfl) (by rfl) (fun z => by cases z) (by decide)) (pa_nil))))))), ?_⟩
    refine ⟨_, rfl, n, 1, 2, rfl, by omega, by omega, ?_⟩
    dsimp only [tSeq, tAsg]
    refine lc_runT (K := K) (xs := QW.map V.str) (ev_c ⟨aq, rfl, hq _⟩) QW (List.length_map ..) (fun w => decide (w.length ≤ n)) (fun w v _ => v = V.str w) (by decide) (by intro _; rfl) (fun _ _ _ _ _ h => h)
      (fun i w v H1 hi hx e => ?_) (fun p H1 ys hp e hls hP => ?_)
    · rw [List.getElem?_map, hi] at hx
      have ex : V.str w = v := Option.some.inj hx
      subst ex
      have hw2 := q_short w (List.mem_of_getElem? hi)
      refine ⟨fun Q q => ?_, fun _ H3 e3 => ev_is rfl rfl⟩
      refine ⟨_, rfl, w, rfl, sz_le (by omega), _, rfl, _, _, rfl, rfl, _, rfl, ?_⟩
      have ed : decide ((w.length : Int) ≤ (n : Int)) = decide (w.length ≤ n) := decide_eq_decide.mpr (by omega)
      have q2 := q H1 (Same.refl _)
      rw [← ed] at q2
      exact q2
    · have ey := strs_eq hP
      have hls : H1 p = some (.lst ((qwords n).map V.str)) := by rw [hls, ey]; rfl
      dsimp only [gName]
      refine asg_row (f := fun w : Str => (((idxS (qwords n) (cutS w (some 1) none) : Nat) : Int), ((idxS (qwords n) (cutS w none (some 1)) : Nat) : Int))) (zs := qwords n) ?_ fun v H2 e2 hv => ?_
      · intro Q q
        refine lc_runL (K := K) (xs := (qwords n).map V.str) (ev_is rfl ⟨p, rfl, SqL.of hls⟩) (qwords n) (List.length_map ..) (fun _ => true) (fun w v H => PairV H v (((idxS (qwords n) (cutS w (some 1) none) : Nat) : Int), ((idxS (qwords n) (cutS w none (some 1)) : Nat) : Int))) (by omega) (by intro _; rfl) (fun _ _ _ _ e h => h.mono e)
          (fun i w v H2 hi hx e2 => ⟨evt_yes, fun _ H3 e3 => ?_⟩) (fun p2 H2 ys2 hp2 e2 hl2 hP2 => ?_)
        · rw [List.getElem?_map, hi] at hx
          have ex : V.str w = v := Option.some.inj hx
          subst ex
          obtain ⟨c1, c2, c3⟩ := hcut w (List.mem_of_getElem? hi)
          refine ev_pair ?_ fun H4 e4 => ?_
          · exact ev_index (ws := qwords n) rfl ((e2.trans e3) _ _ hls) c1 (fun Q q => ⟨_, rfl, _, rfl, w, rfl, sz_le (by omega), q _ _ (Same.refl _) rfl⟩)
          · exact ev_index (ws := qwords n) rfl ((e2.trans (e3.trans e4)) _ _ hls) c2 (fun Q q => ⟨_, rfl, _, rfl, w, rfl, sz_le (by omega), q _ _ (Same.refl _) rfl⟩)
        · rw [filter_all] at hP2
          exact q _ _ e2 ⟨p2, ys2, rfl, hl2, hP2⟩
      · have hrow : RowV H2 v (leaveR n) := hv
        intro d hd
        have hp2 : H2 p = some (.lst ((qwords n).map V.str)) := e2 _ _ hls
        refine ⟨_, rfl, _, rfl, p, n, "a", rfl, (same_new hd) _ _ hp2, h1, h2, by decide +kernel, fun u1 H3 e3 r1 => ?_⟩
        refine ⟨_, rfl, _, rfl, p, n, "b", rfl, e3 _ _ ((same_new hd) _ _ hp2), h1, h2, by decide +kernel, fun u2 H4 e4 r2 => ?_⟩
        have e24 : Same H2 H4 := (same_new hd).trans (e3.trans e4)
        have hd4 : H4 d = some (.dK []) := e4 _ _ (e3 _ _ upd_same)
        refine ⟨_, rfl, hd4, [(Sum.inr "joina", u1), (Sum.inr "joinb", u2), (Sum.inr "leave", v)], rfl, by show 3 ≤ 15; decide, ?_⟩
        have hm : mergeK [] [((Sum.inr ("joina" : Str) : L2.Key), u1), (Sum.inr ("joinb" : Str), u2), (Sum.inr ("leave" : Str), v)] = [(Sum.inr ("joina" : Str), u1), (Sum.inr ("joinb" : Str), u2), (Sum.inr ("leave" : Str), v)] := by
          have n1 : ¬ ((Sum.inr ("joina" : Str) : L2.Key) = Sum.inr ("joinb" : Str)) := by decide +kernel
          have n2 : ¬ ((Sum.inr ("joina" : Str) : L2.Key) = Sum.inr ("leave" : Str)) := by decide +kernel
          have n3 : ¬ ((Sum.inr ("joinb" : Str) : L2.Key) = Sum.inr ("leave" : Str)) := by decide +kernel
          simp [mergeK, putK, n1, n2, n3]
        rw [hm]
        have eH : Same H (upd H4 d (.dK [(Sum.inr ("joina" : Str), u1), (Sum.inr ("joinb" : Str), u2), (Sum.inr ("leave" : Str), v)])) := same_mut (e.trans (e2.trans e24)) (e.free (e2.free hd))
        have tu : TupS H4 (upd H4 d (.dK [(Sum.inr ("joina" : Str), u1), (Sum.inr ("joinb" : Str), u2), (Sum.inr ("leave" : Str), v)])) := tups_upd hd4 (fun xs z => by cases z)
        exact mk_kind (t := queueT n) upd_same (.cons ⟨rfl, r1.mono ((tups_of e4).trans tu)⟩ (.cons ⟨rfl, r2.mono tu⟩ (.cons ⟨rfl, hrow.mono ((tups_of e24).trans tu)⟩ .nil))) hT.1 hT.2
          fun v H' t' e' hk pm => q v H' t' (eH.trans e') hk pm
end
end Tm

namespace Tm
open PySem PySem.Spec PyProof.Rows L2
local macro_rules | `(tactic| walk_at "x") => `(tactic| dsimp only [tNext, tRet, tSeq, tCall, tCB, tC, tCons, tNil, tAsg, tDrop, sFld])
/-! ### the vat of drawn numbers: a list of three whole numbers -/
def VatV (H : Hp) (l : Addr) : Prop := ∃ a b c : Int, H l = some (.lst [.int a, .int b, .int c])
/-- all but l stays, l is a vat again -/
def KL (l : Addr) (H H' : Hp) : Prop := (∀ b o, H b = some o → b ≠ l → H' b = some o) ∧ VatV H' l
theorem KL.trans {l : Addr} {H H1 H2 : Hp} (a : KL l H H1) (b : KL l H1 H2) : KL l H H2 := ⟨fun c o h n => b.1 c o (a.1 c o h n) n, b.2⟩
theorem KL.of {l : Addr} {H H' : Hp} (v : VatV H l) (e : Same H H') : KL l H H' := ⟨fun b o h _ => e b o h, by obtain ⟨a, b, c, h⟩ := v; exact ⟨a, b, c, e _ _ h⟩⟩
theorem KL.set {l : Addr} {H : Hp} (a b c : Int) : KL l H (upd H l (.lst [.int a, .int b, .int c])) := ⟨fun d o h n => by rw [upd_ne n]; exact h, a, b, c, upd_same⟩
theorem KL.tups {l : Addr} {H H' : Hp} (v : VatV H l) (k : KL l H H') : TupS H H' := fun a xs h => k.1 a _ h fun z => by
  obtain ⟨p, q, r, e⟩ := v
  rw [z, e] at h
  cases h
theorem opP {X : Cx} : OpR X (binaryOp .Pow) (rI (fun i j => 0 ≤ j ∧ (Builtin.Int.intBits i : Int) * j ≤ 2 ^ 27) fun i j => .int (i ^ j.toNat)) := opI fun _ _ _ _ _ _ _ hc q => pow_int hc.1 hc.2 q
section
variable {P : Program} {w : World} {K : PySem.W.Frag} {mg : Str → Option Value} {base : Heap} {C : Addr}
theorem KindV.kl {l : Addr} {H H' : Hp} {v : V} {t : Tab} (va : VatV H l) (k : KL l H H') (h : KindV C H v t) : KindV C H' v t := by
  obtain ⟨a, dx, d, kvs, e1, e2, e3, e4, e5⟩ := h
  obtain ⟨p, q, r, e⟩ := va
  refine ⟨a, dx, d, kvs, e1, k.1 _ _ e2 (fun z => ?_), k.1 _ _ e3 (fun z => ?_), e4.mono (KL.tups ⟨p, q, r, e⟩ k), e5⟩
  · rw [z, e] at e2
    cases e2
  · rw [z, e] at e3
    cases e3
end
end Tm

/-! len(x), str(x) by the class's own methods. -/
namespace Tm
open PySem PySem.Spec PyProof.Rows L2
/-- a class's own special method -/
structure SpM (K : PySem.W.Frag) (C : Addr) (m : Str) (f : Addr) : Prop where
  fnd : PySem.W.findIn K (.ref C) m = some (some (.ref f))
  isf : PySem.W.isFn K (.ref f) = true
structure OkS (P : Program) (w : World) (K : PySem.W.Frag) (mg : Str → Option Value) (base : Heap) (C : Addr) (m : Str) (k : Nat) (ps : List Str) (sp : Sp) : Prop where
  ex : ∃ (f : Addr) (fd : FuncData), SpM K C m f ∧ FnOk P w K mg base CX0 k f fd ps sp ∧ Binds K fd ps []
/-- len, str of an object by its own method: what it tells -/
def rLenO (C : Addr) (sp : Sp) : List V → Hp → VK → Prop := fun xs H Q => ∃ a dx fs, xs = [.ref a] ∧ H a = some (.ins C dx fs) ∧ sp [.ref a] H (fun v H' => ∃ n : Nat, v = .int (n : Int) ∧ n < 1000000 ∧ Q (.int (n : Int)) H') E0
def rStrO (C : Addr) (sp : Sp) : List V → Hp → VK → Prop := fun xs H Q => ∃ a dx fs, xs = [.ref a] ∧ H a = some (.ins C dx fs) ∧ sp [.ref a] H (fun v H' => ∃ z : Str, v = .str z ∧ Q (.str z) H') E0
section
variable {X : Cx} {pins : List (Addr × Obj)} {σ : L2.St} {H : Hp} {s : Shared} {k : Nat} {f a C : Addr} {fd : FuncData} {ps : List Str} {sp : Sp} {Q : VK}
/-- a call one deeper -/
theorem run_in (F : FnOk X.prog X.w X.K X.mg X.base CX0 k f fd ps sp) {A : Around} (hr : Room k A) (e0 : Env0 X.prog X.w X.K X.mg X.base A X.stack s H) (hb : Binds X.K fd ps []) (I : Inv X pins σ H s) (hq : sp [.ref a] H Q E0) :
    wpAny (model X.prog X.w) A (call (.ref f) [.ref a]) (EP X pins σ Q) X.xe s := by
  have hl : ([Value.ref a] ++ ([] : List Value)).length = ps.length := by
    have e := F.len _ _ _ _ hq
    exact e
  refine wpAny_call (codeAny_mono (F.run A X.stack s H ⟨[.ref a], []⟩ [.ref a] [.ref a] Q E0 hr e0 (hb s [.ref a] I.kIn hl) (.cons rfl .nil) hq) fun r s' z => ?_)
  cases r with
  | error e => exact (pass0 (X := X)) pins σ H s e s' I z
  | ok fl =>
    cases fl with
    | ret u => exact I.after z
    | next => exact z.elim
    | brk => exact z.elim
    | cont => exact z.elim
theorem call_lenO (O : OkS X.prog X.w X.K X.mg X.base C "__len__" k ["self"] sp) (hr : Room (k + 1) X.A) : CallR X (.builtin "len") (rLenO C sp) := by
  intro pins s σ H xs us Q I r h
  obtain ⟨a, dx, fs, rfl, ha, hq⟩ := h
  obtain ⟨f, fd, M, F, hb⟩ := O.ex
  rw [Vals.ref1 r]
  obtain ⟨mA, O2, _⟩ := ins_get I.hok ha
  obtain ⟨od, J, _⟩ := O2.look
  obtain ⟨m, hF⟩ := I.fr
  refine PySem.W.len_K hF I.ok.mod.kin J M.fnd M.isf (wpAny_mono (run_in F hr.in1 I.env0.in1 hb I hq) (fun u s' z => ?_) fun _ _ z => z)
  obtain ⟨v, H', I', rv, n, ev, hn, q⟩ := z
  subst ev
  obtain ⟨t, rfl⟩ := rv
  exact ⟨⟨by omega, by omega⟩, ⟨.int (n : Int), H', I'.tok _, ⟨_, rfl⟩, q⟩⟩
theorem call_strO (O : OkS X.prog X.w X.K X.mg X.base C "__str__" k ["self"] sp) (hr : Room (k + 2) X.A) : CallR X (.type "str") (rStrO C sp) := by
  intro pins s σ H xs us Q I r h
  obtain ⟨a, dx, fs, rfl, ha, hq⟩ := h
  obtain ⟨f, fd, M, F, hb⟩ := O.ex
  rw [Vals.ref1 r]
  obtain ⟨mA, O2, _⟩ := ins_get I.hok ha
  obtain ⟨od, J, _⟩ := O2.look
  refine PySem.W.kso_call (by have := hr.un; show X.A.units + 1 + 1 < _; omega) I.kIn J M.fnd M.isf (wpAny_mono (run_in F hr.in1.in1 I.env0.in1.in1 hb I hq) (fun u s' z => ?_) fun _ _ z => z)
  obtain ⟨v, H', I', rv, y, ev, q⟩ := z
  subst ev
  obtain ⟨t, rfl⟩ := rv
  exact ⟨.str y, H', I', ⟨_, rfl⟩, q⟩
end
end Tm

/-! x == y, x != y of two objects of one class that has its own __eq__ and no __ne__. -/
namespace TmN
open PySem PySem.Spec PyProof.Rows PySem.W PySem.Builtin
section
variable {prog : Program} {w : World} {A : Around} {E : Value → Shared → Prop} {s : Shared} {K : Frag} {x y f C : Addr} {ox oy : Obj} {od od' : Option Obj}
theorem slot_bound {M : Model} {name : Str} {id : String} {args : List Value} {Q : Option Value → Shared → Prop} (X : K.In s.heap) (I : InstAt s.heap x ox C od) (hs : findIn K (.ref C) name = some (some (.builtin id)))
    (hb : ∀ self, bindSpecial (.builtin id) self = pure (.builtin id, [self])) (h : wpAny M A (call (.builtin id) (.ref x :: args)) (fun v => Q (some v)) E s) : wpAny M A (callSpecialIfBound? (.ref x) name args) Q E s := by
  simp only [callSpecialIfBound?, bindSpecialIfBound?]
  refine wpAny_holding (wpAny_bind (wpAny_bind (wpAny_bind (I.type.here ((looks_findIn X hs).here ?_)))))
  simp only [hb]
  refine wpAny_bind (wpAny_askSetting (wpAny_ite ?_))
  have last : wpAny M A (call (.builtin id) ([.ref x] ++ args) >>= fun v => pure (some v)) Q E s := wpAny_bind (wpAny_mono h (fun v s' z => wpAny_pure z) fun _ _ z => z)
  split
  · exact wpAny_bind (wpAny_pure (wpAny_pure last))
  · exact wpAny_tryCatch (wpAny_bind (wpAny_pure (wpAny_pure last)))
def BlBack (Q : Value → Shared → Prop) (v : Value) (s' : Shared) : Prop := ∃ b : Bool, v = .bool b ∧ Q (.bool (!b)) s'
theorem obj_ne {Q : Value → Shared → Prop} (hu : A.in1.units < cLine) (X : K.In s.heap) (I : InstAt s.heap x ox C od) (hm : mroIn K C (.type "object") = some true) (he : findIn K (.ref C) "__eq__" = some (some (.ref f))) (hf : isFn K (.ref f) = true)
    (h : wpAny (model prog w) A.in1 (call (.ref f) [.ref x, .ref y]) (BlBack Q) E s) : wpAny (model prog w) A (call (.builtin "object.__ne__") [.ref x, .ref y]) Q E s := by
  refine wpAny_call (codeAny_call_builtin PySem.F.cmp_object.ne.plain PySem.F.cmpEntry_ne (check_slot (i := "object.__ne__") (owner := "object") (n := "__ne__") (by decide +kernel) (by decide +kernel) (I.type.andThen (looks_mroIn X hm)) (PySem.F.cmpArgs_ne _ _) ?_))
  unfold Builtin.«object.__ne__»
  refine wpAny_bind (m := slotArgs "__ne__" 1 _) (wpAny_pure ?_)
  refine wpAny_bind (m := cRoomFor _ _) (wpAny_cRoomFor hu ?_)
  refine wpAny_bind (m := callSpecialIfBound? (.ref x) (Str.ofString "__eq__") [.ref y]) (ifBound_K X I he hf (wpAny_mono h (fun r s' hq => ?_) fun _ _ z => z))
  obtain ⟨b, rfl, q⟩ := hq
  exact wpAny_bind (wpAny_truthy_bool (wpAny_pure q))
theorem ne_own {Q : Value → Shared → Prop} (hu : A.units < cLine) (hu1 : A.in1.units < cLine) (X : K.In s.heap) (I : InstAt s.heap x ox C od) (J : InstAt s.heap y oy C od') (hn : findIn K (.ref C) "__ne__" = some (some (.builtin "object.__ne__")))
    (hm : mroIn K C (.type "object") = some true) (he : findIn K (.ref C) "__eq__" = some (some (.ref f))) (hf : isFn K (.ref f) = true)
    (h : wpAny (model prog w) A.in1 (call (.ref f) [.ref x, .ref y]) (BlBack Q) E s) : wpAny (model prog w) A (richCompare .NotEq (.ref x) (.ref y)) Q E s := by
  unfold richCompare
  simp only [oneThing_ref]
  refine wpAny_holding (wpAny_bind (wpAny_cRoomFor hu ?_))
  refine wpAny_bind (I.type.here (wpAny_bind (J.type.here ?_)))
  rw [show (Value.ref C != Value.ref C) = false from by simp]
  simp only [Bool.false_eq_true, if_false]
  refine wpAny_bind (wpAny_pure ?_)
  simp only [Bool.false_eq_true, if_false]
  refine wpAny_bind (m := tryCompare (.ref x) "__ne__" (.ref y)) ?_
  unfold tryCompare
  refine wpAny_bind (slot_bound X I hn PySem.F.cmp_object.ne.bind (obj_ne hu1 X I hm he hf (wpAny_mono h (fun r s' z => ?_) fun _ _ z => z)))
  obtain ⟨b, rfl, q⟩ := z
  exact ⟨b, rfl, wpAny_pure (wpAny_pure q)⟩
end
end TmN
namespace Tm
open PySem PySem.Spec PyProof.Rows L2
/-- what the == of the class tells, or its contrary -/
def rEqO (C : Addr) (sp : Sp) (neg : Bool) : R2 := fun x y H Q => ∃ a b dx dy fs gs, x = .ref a ∧ y = .ref b ∧ H a = some (.ins C dx fs) ∧ H b = some (.ins C dy gs) ∧ sp [.ref a, .ref b] H (fun v H' => ∃ c : Bool, v = .bl c ∧ Q (.bl (if neg then !c else c)) H') E0
section
variable {X : Cx} {pins : List (Addr × Obj)} {σ : L2.St} {H : Hp} {s : Shared} {k : Nat} {f a b C : Addr} {fd : FuncData} {ps : List Str} {sp : Sp} {Q : VK}
theorem run_in2 (F : FnOk X.prog X.w X.K X.mg X.base CX0 k f fd ps sp) {A : Around} (hr : Room k A) (e0 : Env0 X.prog X.w X.K X.mg X.base A X.stack s H) (hb : Binds X.K fd ps []) (I : Inv X pins σ H s) (hq : sp [.ref a, .ref b] H Q E0) :
    wpAny (model X.prog X.w) A (call (.ref f) [.ref a, .ref b]) (EP X pins σ Q) X.xe s := by
  have hl : ([Value.ref a, .ref b] ++ ([] : List Value)).length = ps.length := F.len _ _ _ _ hq
  refine wpAny_call (codeAny_mono (F.run A X.stack s H ⟨[.ref a, .ref b], []⟩ [.ref a, .ref b] [.ref a, .ref b] Q E0 hr e0 (hb s [.ref a, .ref b] I.kIn hl) (.cons rfl (.cons rfl .nil)) hq) fun r s' z => ?_)
  cases r with
  | error e => exact (pass0 (X := X)) pins σ H s e s' I z
  | ok fl =>
    cases fl with
    | ret u => exact I.after z
    | next => exact z.elim
    | brk => exact z.elim
    | cont => exact z.elim
/-- the class has its own == and no != -/
structure EqM (K : PySem.W.Frag) (C : Addr) : Prop where
  ne : PySem.W.findIn K (.ref C) "__ne__" = some (some (.builtin "object.__ne__"))
  mr : PySem.W.mroIn K C (.type "object") = some true
theorem op_eqO (O : OkS X.prog X.w X.K X.mg X.base C "__eq__" k ps sp) (hr : Room k X.A) : OpR X (compareOp .Eq) (rEqO C sp false) := by
  intro pins s σ H x y v u Q I rx ry h
  obtain ⟨a, b, dx, dy, fs, gs, rfl, rfl, ha, hb2, hq⟩ := h
  obtain ⟨f, fd, M, F, hb⟩ := O.ex
  cases rx
  cases ry
  obtain ⟨mA, O2, _⟩ := ins_get I.hok ha
  obtain ⟨mB, O3, _⟩ := ins_get I.hok hb2
  obtain ⟨od, J, _⟩ := O2.look
  obtain ⟨od', J', _⟩ := O3.look
  obtain ⟨m, hF⟩ := I.fr
  refine PySem.W.cmp_ofEq (PySem.W.cmp_K (op := .Eq) (tb := .ref C) (by have := hr.un; omega) hF I.ok.mod.kin J J'.type (by simp [PySem.W.notFirst]) M.fnd M.isf (wpAny_mono (run_in2 F hr I.env0 hb I hq) (fun r s' z => ?_) fun _ _ z => z))
  obtain ⟨v, H', I', rv, c, ev, q⟩ := z
  subst ev
  have er : r = Value.bool c := rv
  subst er
  exact ⟨.bl c, H', I', rfl, q⟩
theorem op_neO (O : OkS X.prog X.w X.K X.mg X.base C "__eq__" k ps sp) (N : EqM X.K C) (hr : Room (k + 1) X.A) : OpR X (compareOp .NotEq) (rEqO C sp true) := by
  intro pins s σ H x y v u Q I rx ry h
  obtain ⟨a, b, dx, dy, fs, gs, rfl, rfl, ha, hb2, hq⟩ := h
  obtain ⟨f, fd, M, F, hb⟩ := O.ex
  cases rx
  cases ry
  obtain ⟨mA, O2, _⟩ := ins_get I.hok ha
  obtain ⟨mB, O3, _⟩ := ins_get I.hok hb2
  obtain ⟨od, J, _⟩ := O2.look
  obtain ⟨od', J', _⟩ := O3.look
  refine PySem.W.cmp_ofNotEq (TmN.ne_own (by have := hr.un; omega) (by have := hr.un; show X.A.units + 1 < _; omega) I.kIn J J' N.ne N.mr M.fnd M.isf (wpAny_mono (run_in2 F hr.in1 I.env0.in1 hb I hq) (fun r s' z => ?_) fun _ _ z => z))
  obtain ⟨v, H', I', rv, c, ev, q⟩ := z
  subst ev
  have er : r = Value.bool c := rv
  subst er
  exact ⟨c, rfl, ⟨.bl (!c), H', I', rfl, q⟩⟩
end
end Tm

/-! Tables compared. -/
namespace Tm
open PySem PySem.Spec PyProof.Rows L2
/-! ### rows as data -/
def pD (p : Int × Int) : PyData := .tuple [.int p.1, .int p.2]
def rD (r : Row) : PyData := .tuple (r.map pD)
theorem dp_pair {K : PySem.W.Frag} {H : Hp} {v : V} {p : Int × Int} (h : PairV H v p) : Dp K H v (pD p) := by
  obtain ⟨a, rfl, h⟩ := h
  exact .tup (SqT.of h) (.cons (.int _) (.cons (.int _) .nil))
theorem dp_pairs {K : PySem.W.Frag} {H : Hp} : ∀ {vs : List V} {r : Row}, Paired (PairV H) vs r → DpAll K H vs (r.map pD)
  | _, _, .nil => .nil
  | _, _, .cons h t => .cons (dp_pair h) (dp_pairs t)
theorem dp_row {K : PySem.W.Frag} {H : Hp} {v : V} {r : Row} (h : RowV H v r) : Dp K H v (rD r) := by
  obtain ⟨a, vs, rfl, h1, h2⟩ := h
  exact .tup (SqT.of h1) (dp_pairs h2)
theorem can_pairs : ∀ r : Row, PyData.canLayAll0 (r.map pD) = true
  | [] => rfl
  | p :: r => by
    show (PyData.canLay0 (pD p) && PyData.canLayAll0 (r.map pD)) = true
    rw [can_pairs r]
    rfl
theorem depth_pairs : ∀ r : Row, PyData.depthAll (r.map pD) ≤ 1
  | [] => Nat.zero_le _
  | p :: r => by
    show max (PyData.depth (pD p)) (PyData.depthAll (r.map pD)) ≤ 1
    exact Nat.max_le.mpr ⟨Nat.le_refl 1, depth_pairs r⟩
theorem shaped_row (r : Row) : SeqAt.shaped (rD r) = true := by
  have h1 : PyData.canLay0 (rD r) = true := can_pairs r
  have h2 : PyData.depth (rD r) ≤ 64 := by
    show PyData.depthAll (r.map pD) + 1 ≤ 64
    have := depth_pairs r
    omega
  unfold SeqAt.shaped
  rw [h1, decide_eq_true h2]
  rfl
theorem eqv_pD (p q : Int × Int) : PyData.eqv (pD p) (pD q) = decide (p = q) := by
  show (PyData.eqv (.int p.1) (.int q.1) && (PyData.eqv (.int p.2) (.int q.2) && true)) = _
  show ((p.1 == q.1) && ((p.2 == q.2) && true)) = _
  obtain ⟨a, b⟩ := p
  obtain ⟨c, d⟩ := q
  rw [Bool.eq_iff_iff]
  simp
theorem eqv_pairs : ∀ r s : Row, PyData.eqvAll (r.map pD) (s.map pD) = decide (r = s)
  | [], [] => rfl
  | [], _ :: _ => by simp [PyData.eqvAll]
  | _ :: _, [] => by simp [PyData.eqvAll]
  | p :: r, q :: s => by
    show (PyData.eqv (pD p) (pD q) && PyData.eqvAll (r.map pD) (s.map pD)) = _
    rw [eqv_pD, eqv_pairs r s, Bool.eq_iff_iff]
    simp
theorem eqv_row (r s : Row) : PyData.eqv (rD r) (rD s) = decide (r = s) := eqv_pairs r s
theorem row_det {H : Hp} {v : V} {r s : Row} (h : RowV H v r) (k : RowV H v s) : r = s := by
  have e : ∀ {vs : List V} {r s : Row}, Paired (PairV H) vs r → Paired (PairV H) vs s → r = s := by
    intro vs
    induction vs with
    | nil =>
      intro r s h k
      cases h
      cases k
      rfl
    | cons v vs ih =>
      intro r s h k
      cases h with
      | cons h1 h2 =>
        cases k with
        | cons k1 k2 =>
          obtain ⟨a, rfl, e1⟩ := h1
          obtain ⟨b, eb, e2⟩ := k1
          cases eb
          rw [e1] at e2
          simp only [Option.some.injEq, HO.tup.injEq, List.cons.injEq, V.int.injEq, and_true] at e2
          rw [Prod.ext e2.1 e2.2, ih h2 k2]
  obtain ⟨a, vs, rfl, h1, h2⟩ := h
  obtain ⟨b, ws, eb, k1, k2⟩ := k
  cases eb
  rw [h1] at k1
  cases k1
  exact e h2 k2
/-! ### tables compared -/
def sameT (t u : Tab) : Bool := decide (t.length = u.length) && t.all fun e => decide (e ∈ u)
section
variable {X : Cx} {pins : List (Addr × Obj)} {σ : L2.St} {H : Hp} {s : Shared}
theorem row_eqAt (I : Inv X pins σ H s) {A : Around} (hu : A.units + 64 < cLine) {x y : V} {r q : Row} {v u : Value} (hx : RowV H x r) (hy : RowV H y q) (rx : RelV x v) (ry : RelV y u) : SeqAt.EqAt A s v u (decide (r = q)) := by
  obtain ⟨as, r1⟩ := Dp.reads I (rD r) x v (dp_row hx) rx
  obtain ⟨bs, r2⟩ := Dp.reads I (rD q) y u (dp_row hy) ry
  obtain ⟨a, _, ea, _⟩ := id hx
  obtain ⟨b, _, eb, _⟩ := id hy
  subst ea eb
  cases rx
  cases ry
  by_cases g : a = b
  · subst g
    rw [row_det hx hy, decide_eq_true rfl]
    exact SeqAt.EqAt.same _
  · refine SeqAt.EqAt.of_refs g fun prog w E Q hq => ?_
    refine SeqAt.compareEq_shaped r1 r2 (shaped_row r) (shaped_row q) hu ?_
    rw [eqv_row]
    exact hq
theorem tab_hits (I : Inv X pins σ H s) {A : Around} (hu : A.units + 64 < cLine) {kb : List (L2.Key × V)} {vb : List (L2.Key × Value)} {u : Tab} (rb : KV kb vb) (hb : TabV H kb u) (nd : (namesT u).Nodup) :
    ∀ {ka : List (L2.Key × V)} {va : List (L2.Key × Value)} {t : Tab}, KV ka va → TabV H ka t → PySem.W.KeqHits A s vb va (t.all fun e => decide (e ∈ u))
  | _, _, _, .nil, .nil => .nil
  | _, q :: _, e :: t, .cons r1 ra, .cons h1 ht => by
    obtain ⟨k1, v1⟩ := r1
    obtain ⟨h1, h2⟩ := h1
    obtain ⟨key, v⟩ := q
    have ek : key = Sum.inr e.1 := (show key = _ from k1.symm).trans h1
    subst ek
    have ih := tab_hits I hu rb hb nd ra ht
    show PySem.W.KeqHits A s vb ((Sum.inr e.1, v) :: _) (decide (e ∈ u) && t.all fun e => decide (e ∈ u))
    have rr : RelO (valV kb (Sum.inr e.1)) (valueAt vb (Sum.inr e.1)) := rb.val _
    by_cases g : e.1 ∈ namesT u
    · obtain ⟨⟨x, row⟩, hm, ex⟩ := List.mem_map.mp g
      have ex2 : x = e.1 := ex
      subst ex2
      obtain ⟨y, hy, hrow⟩ := tab_look hb nd hm
      rw [hy] at rr
      obtain ⟨z, hz, rz⟩ := rr.some_of
      have ed : decide (e ∈ u) = decide (e.2 = row) := decide_eq_decide.mpr ⟨fun me => row_unique nd (x := e.1) me hm, fun er => by rw [← er] at hm; exact hm⟩
      rw [ed]
      exact .hit hz (row_eqAt I hu h2 hrow v1 rz) ih
    · have hn : valV kb (Sum.inr e.1) = none := by
        have := tab_isSome e.1 hb
        rw [decide_eq_false g] at this
        cases hv : valV kb (Sum.inr e.1) with
        | none => rfl
        | some _ => rw [hv] at this; cases this
      rw [hn] at rr
      have hz : valueAt vb (Sum.inr e.1) = none := by
        cases hv : valueAt vb (Sum.inr e.1) with
        | none => rfl
        | some _ => rw [hv] at rr; exact rr.elim
      have ed : decide (e ∈ u) = false := decide_eq_false fun me => g (List.mem_map.mpr ⟨e, me, rfl⟩)
      rw [ed]
      exact .miss hz
end
section
variable {X : Cx}
def rTabs (neg : Bool) : R2 := fun x y H Q => ∃ a b ka kb t u, x = .ref a ∧ y = .ref b ∧ H a = some (.dK ka) ∧ H b = some (.dK kb) ∧ TabV H ka t ∧ TabV H kb u ∧ (namesT u).Nodup ∧ Q (.bl (if neg then !sameT t u else sameT t u)) H
theorem op_eqTab (hu : X.A.units + 65 < cLine) : OpR X (compareOp .Eq) (rTabs false) := by
  intro pins s σ H x y v w Q I rx ry h
  obtain ⟨a, b, ka, kb, t, u, rfl, rfl, ea, eb, ht, hu', nd, q⟩ := h
  cases rx
  cases ry
  obtain ⟨_, ya, va, ra, da⟩ := (show ObjOk X.prog X.w H s.heap a (.dK ka) from I.hok a _ ea)
  obtain ⟨_, yb, vb, rb, db⟩ := (show ObjOk X.prog X.w H s.heap b (.dK kb) from I.hok b _ eb)
  have hl : va.length = t.length := by rw [← ra.length]; exact Paired.length ht
  have hl2 : vb.length = u.length := by rw [← rb.length]; exact Paired.length hu'
  exact PySem.W.keq_eq (knd := mixKind X.prog X.w) ya yb da db (by omega) (fun _ => tab_hits I (A := X.A.in1) (by show X.A.units + 1 + 64 < _; omega) rb hu' nd ra ht) (fin_bl I q (by
    unfold sameT
    rw [hl, hl2, Bool.eq_iff_iff]
    simp))
theorem op_neTab (hu : X.A.units + 65 < cLine) : OpR X (compareOp .NotEq) (rTabs true) := by
  intro pins s σ H x y v w Q I rx ry h
  obtain ⟨a, b, ka, kb, t, u, rfl, rfl, ea, eb, ht, hu', nd, q⟩ := h
  cases rx
  cases ry
  obtain ⟨_, ya, va, ra, da⟩ := (show ObjOk X.prog X.w H s.heap a (.dK ka) from I.hok a _ ea)
  obtain ⟨_, yb, vb, rb, db⟩ := (show ObjOk X.prog X.w H s.heap b (.dK kb) from I.hok b _ eb)
  have hl : va.length = t.length := by rw [← ra.length]; exact Paired.length ht
  have hl2 : vb.length = u.length := by rw [← rb.length]; exact Paired.length hu'
  exact PySem.W.keq_ne (knd := mixKind X.prog X.w) ya yb da db (by omega) (fun _ => tab_hits I (A := X.A.in1) (by show X.A.units + 1 + 64 < _; omega) rb hu' nd ra ht) (fin_bl I q (by
    unfold sameT
    rw [hl, hl2, Bool.eq_iff_iff]
    simp))
end
end Tm

/-! sep.join(d), d a dict of texts. -/
namespace TmJ
open PySem PySem.Spec PyProof.Rows PySem.Builtin
theorem no_len : typeLookup (.type "dict_keyiterator") "__len__" = pure none := by rw [typeLookup_type, builtinLookup_eq_fast]; kernel_rfl
theorem has_hint : typeLookup (.type "dict_keyiterator") "__length_hint__" = pure (some (.builtin "dict_keyiterator.__length_hint__")) := by rw [typeLookup_type, builtinLookup_eq_fast]; kernel_rfl
section
variable {prog : Program} {w : World} {A : Around} {E : Value → Shared → Prop} {s : Shared} {J : Addr} {fp wr : List Addr} {G : Array GenState → Array GenState → Prop} {n : Nat} {Pi : Nat → Value → Prop} {St : Nat → Shared → Prop}
abbrev newL : Obj := { cls := .type "list", data := .seq ([] : List Value).toArray }
theorem gather_keys {Q : List Value → Shared → Prop} (W : WalksS prog w A.in1 J fp wr G n Pi St) (ty : ∀ i s, St i s → s.TypeIs (.ref J) "dict_keyiterator") (st0 : St 0 s) (below : ∀ b ∈ fp, b < s.heap.objs.size) (own : J ∈ fp) (hn : n ≤ sizeLine)
    (hq : ∀ s2 got, Moved wr G s s2 → ItemsOf Pi got n → Q got.toList s2) : wpAny (model prog w) A (collect (.ref J)) Q E s := by
  have out : s.heap.objs.size ∉ fp := fun m => absurd (below _ m) (Nat.lt_irrefl _)
  have apart : s.heap.objs.size ≠ J := fun e => out (by rw [e]; exact own)
  unfold collect
  refine wpAny_bind (wpAny_runValue (codeAny_builtin F.entry_proto_collect ?_))
  rw [Around.under_plainId F.plain_proto_collect _]
  show wpAny _ A.in1 (newList [] >>= fun L => again (.builtin "list.__iadd__" ⟨[L, .ref J], []⟩)) _ _ s
  refine wpAny_bind (wpAny_newObj_type (wpAny_pure ⟨plainId_quiet F.plain_list_iadd _, codeAny_builtin F.entry_list_iadd ?_⟩))
  rw [Around.under_plainId F.plain_list_iadd _]
  have st1 := W.frame 0 s (s.heap.push newL) s.toks st0 (Nat.le_refl _) fun b _ o e => Heap.get?_push_of_some _ e
  have at1 : (s.heap.push newL).get? s.heap.objs.size = some newL := Heap.get?_push_size _ rfl
  have ns : List.listSameRef (.ref s.heap.objs.size) (.ref J) = false := by simp [List.listSameRef, apart]
  show wpAny _ A.in1 (List.listExtendWith (.ref s.heap.objs.size) (.ref J) (.ref s.heap.objs.size)) _ _ _
  unfold List.listExtendWith
  refine wpAny_bind (wpAny_typeOf (ty 0 _ st1) ?_)
  rw [if_neg (by rw [ns]; decide)]
  refine wpAny_bind (W.self 0 _ _ _ st1 (wpAny_bind (wpAny_holding ?_)))
  unfold List.listLengthHint
  refine wpAny_bind (wpAny_specialOf (ty 0 _ st1) no_len ?_)
  show wpAny _ A.in1 (specialOf (Value.ref J) (Str.ofString "__length_hint__") >>= _) _ _ _
  refine wpAny_bind (wpAny_specialOf (ty 0 _ st1) has_hint ?_)
  generalize hx : ("dict_keyiterator.__length_hint__" : String) = x0
  (fail_if_success (clear hx x0))
  wp_delta
  rw [show splitId x0 = some ("dict_keyiterator", "__length_hint__") from by subst hx; decide +kernel]
  subst hx
  refine wpAny_bind (wpAny_isInstance (b := true) (ty 0 _ st1) (by rw [isSubtype_type]; kernel_rfl) (wpAny_pure ?_))
  rw [if_neg (by decide)]
  refine wpAny_pure ⟨plainId_quiet F.plain_extend_loop _, codeAny_extend_loopS W hn _ out _ n 0 _ _ _ rfl (Nat.zero_le _) st1 at1 (ItemsOf.nil Pi) fun s2 got c mv at2 it => ?_⟩
  show wpAny _ A (load s.heap.objs.size >>= _) _ _ s2
  exact wpAny_bind (wpAny_load at2 (wpAny_pure (hq s2 got (Moved.drop_new (o := newL) (tk := s.toks) mv (Nat.le_refl _)) it)))
end
end TmJ
namespace TmJ
open PySem PySem.Spec PyProof.Rows PySem.Builtin
section
variable {prog : Program} {w : World} {A : Around} {E : Value → Shared → Prop} {s : Shared} {x : Str} {t : Tok} {d : Addr} {kvs : List (L2.Key × Value)} {ep : Nat}
theorem join_dict {Q : Value → Shared → Prop} (hh : A.handled = none) (hd : (d == sysModules) = false) (hm : s.heap.DictAt (L2.mixKind prog w) d kvs ep) (hn : kvs.length ≤ sizeLine) (ys : List Str)
    (hv : ∀ got : List Value, got.length = kvs.length → (∀ (i : Nat) (v : Value), got[i]? = some v → ∃ k x, kvs[i]? = some (k, x) ∧ (L2.mixKind prog w).is k v = true) → StrsAre got ys)
    (hok : (ys.map (·.length)).sum + ys.length * x.length ≤ 16777216) (hq : ∀ (h' : Heap) (t' : Tok) (k : Nat), (∀ b o, s.heap.get? b = some o → h'.get? b = some o) → Q (.str (Txt.join x ys) t') { s with heap := h', toks := k }) :
    wpAny (model prog w) A (call (.builtin "str.join") [.str x t, .ref d]) Q E s := by
  have dty : s.TypeIs (.ref d) "dict" := hm.dictOf.typeIs
  have hlt : d < s.heap.objs.size := by
    obtain ⟨o, es, ho, _⟩ := id hm
    exact Heap.lt_size ho
  have hne : d ≠ s.heap.objs.size := Nat.ne_of_lt hlt
  refine wpAny_call (codeAny_call_builtin F.slot_str_join.plain F.entry_str_join (F.slot_str_join.check _ _ _ _ _ _ _ _ (typeIs_str _ _ _) (F.args_str_join_2 _ _) ?_))
  rw [join_tree_other]
  refine wpAny_bind (wpAny_typeOf dty ?_)
  show wpAny _ A.in1 ((pyIter (.ref d)).tryCatch _ >>= fun it => collect it >>= fun items => joinTail x items) _ _ s
  refine wpAny_bind (wpAny_tryCatch (wpAny_pyIter_dict hd hm ?_))
  have W := (Walks.dictKeys (knd := L2.mixKind prog w) (A := A.in1.in1) hh s.heap.objs.size d hne kvs ep).toS
  refine wpAny_bind (gather_keys W (fun i s st => st.1.typeIs) ⟨⟨_, Heap.get?_push_size _ rfl, rfl, rfl⟩, hm.push _⟩ (fun b hb => ?_) List.mem_cons_self hn fun s2 got mv hg => ?_)
  · have hsz : ∀ o : Obj, (s.heap.push o).objs.size = s.heap.objs.size + 1 := fun o => by simp [Heap.push]
    rw [hsz]
    rcases List.mem_cons.mp hb with z | z
    · rw [z]
      exact Nat.lt_succ_self _
    · rw [List.mem_singleton.mp z]
      exact Nat.lt_succ_of_lt hlt
  · obtain ⟨L, hL, hy⟩ := strsAre_values (hv got.toList (by rw [Array.length_toList]; exact hg.1) fun i v e => hg.2 i v (by rw [← Array.getElem?_toList]; exact e))
    subst hy
    rw [hL]
    have fit := joinOk_of hok
    unfold JoinOk at fit
    rw [Bool.not_eq_true'] at fit
    have g : Gives (joinTail x (strValues L)) (joinMade x L) := by
      have g0 := gives_joinTail x L fit
      cases L with
      | nil => exact g0
      | cons p r => cases r with
        | nil => exact g0
        | cons q r' => exact g0
    have es : s2 = { s with heap := s2.heap, toks := s2.toks } := by
      obtain ⟨h2, g2, d2, t2, o2⟩ := s2
      have e1 : g2 = s.gens := mv.gens
      have e2 : d2 = s.drawn := mv.drawn
      have e3 : o2 = s.os := mv.os
      rw [e1, e2, e3]
    have keep : ∀ b o, s.heap.get? b = some o → s2.heap.get? b = some o := fun b o e => mv.heap b o (fun hb => by
      rw [List.mem_singleton.mp hb] at e
      exact absurd (Heap.lt_size e) (Nat.lt_irrefl _)) (Heap.get?_push_of_some _ e)
    refine g prog w A (wants Q E) s2 (post_join L ⟨joinFit_length fit, fun t' k => ?_⟩)
    rw [es]
    exact hq s2.heap t' k keep
end
end TmJ
namespace Tm
open PySem PySem.Spec PyProof.Rows L2
/-- sep.join(d) -/
theorem mt_joinD {X : Cx} (hc : X.calm = true := by rfl) : MtR X "str.join" (fun x xs H Q => ∃ (a : Str) (d : Addr) (kvs : List (L2.Key × V)) (ys : List Str), x = .str a ∧ xs = [.ref d] ∧ H d = some (.dK kvs) ∧ kvs.map (·.1) = ys.map Sum.inr ∧
    (ys.map (·.length)).sum + ys.length * a.length ≤ 16777216 ∧ Q (.str (Txt.join a ys)) H) := by
  intro pins s σ H x xs v us Q I rx rs h
  obtain ⟨a, d, kvs, ys, rfl, rfl, hd, hk, hz, q⟩ := h
  obtain ⟨t, rfl⟩ := rx
  rw [Vals.ref1 rs]
  obtain ⟨hl, sys, vs, kv, hdo⟩ := I.hok d _ hd
  obtain ⟨ep, hat⟩ := hdo.dictAt
  have lk : kvs.length = vs.length := Paired.length kv
  refine TmJ.join_dict (I.ok.hd hc) sys hat (by rw [← lk]; exact hl) ys (fun got hg hi => ?_) hz fun h' t' k keep => ⟨.str _, H, I.kept keep, ⟨t', rfl⟩, q⟩
  have ev : (kvs.map fun e => kV e.1) = ys.map V.str := by
    have e1 := congrArg (List.map kV) hk
    rw [List.map_map, List.map_map] at e1
    exact e1
  have r := vals_keys kv got hg hi
  rw [ev] at r
  exact strs_of_vals r
end Tm

/-! Kind: size, operations, len, ==, str. -/
namespace Tm
open PySem PySem.Spec PyProof.Rows L2
local macro_rules | `(tactic| walk_at "x") => `(tactic| dsimp only [tNext, tRet, tSeq, tCall, tCB, tC, tCons, tNil, tAsg, tDrop, sFld])
structure DfS (K : PySem.W.Frag) (C : Addr) (m q : Str) (st : Stmt) (ps : List Str) : Prop where
  ex : ∃ (f : Addr) (fd : FuncData), SpM K C m f ∧ Fun K m q st f fd ∧ Binds K fd ps []
section
variable {P : Program} {w : World} {K : PySem.W.Frag} {mg : Str → Option Value} {base : Heap} {C : Addr} {m q x : Str} {st : Stmt} {ps N : List Str} {k : Nat} {sp : Sp}
theorem DfS.ok (D : DfS K C m q st ps) (S : FnScope N ps (defScope st)) (len : ∀ vs H Q E, sp vs H Q E → vs.length = ps.length) (hb : BodyOk P w K mg base q st N k sp) : OkS P w K mg base C m (k + 1) ps sp := by
  obtain ⟨f, fd, h1, h2, h3⟩ := D.ex
  exact ⟨f, fd, h1, h2.ok S len (fun cdv A outer s H vs Q E hr h => hb f cdv A outer s H vs Q E hr h), h3⟩
end
/-- what is true of the class, further -/
structure KcE (K : PySem.W.Frag) (C : Addr) : Prop where
  is_ : PySem.W.kitOne K (.ref C) (.ref C) = some true
  cla : PySem.W.findIn K (.ref C) "__class__" = some (some (.builtin "object.__class__"))
  cg : PySem.W.specialIn K (.builtin "object.__class__") "__get__" = some (some (.builtin "getset_descriptor.__get__"))
  ct : PySem.W.takesIn K (.builtin "object.__class__") = some true
  mr : PySem.W.mroIn K C (.type "object") = some true
section
variable {P : Program} {w : World} {K : PySem.W.Frag} {mg : Str → Option Value} {base : Heap} {C : Addr}
abbrev s_size : Stmt := inClass (top 23) 3
theorem sc_size : FnScope ["self"] ["self"] (defScope s_size) := ⟨rfl, rfl, rfl, by decide +kernel, rfl, by decide +kernel, by decide +kernel⟩
def sp_size (C : Addr) : Sp := fun vs H Q _ => ∃ (v : V) (t : Tab), vs = [v] ∧ KindV C H v t ∧ Q (.int (sizeT t : Int)) H
theorem ok_size (T : Kc K C) (D : DfP K C "size" "Kind.size" s_size) : OkP P w K mg base C "size" 1 (sp_size C) := by
  refine D.ok sc_size (fun vs H Q E h => ?_) (fun f cdv A outer s H vs Q E hr h => ?_)
  · obtain ⟨v, t, rfl, _⟩ := h
    rfl
  · obtain ⟨v, t, rfl, ⟨a, dx, d, kvs, rfl, ha, hd, ht, hok, nd, hst⟩, q⟩ := h
    exact ⟨_, pss_one (ps_ret (pe_fld (pv 0) rfl)), _, rfl, a, C, dx, _, _, rfl, ha, T.cl, T.nS, kf_S _ _, q⟩
abbrev s_ops : Stmt := inClass (top 23) 1
theorem sc_ops : FnScope ["self"] ["self"] (defScope s_ops) := ⟨rfl, rfl, rfl, by decide +kernel, rfl, by decide +kernel, by decide +kernel⟩
def sp_ops (C : Addr) : Sp := fun vs H Q _ => ∃ (v : V) (t : Tab), vs = [v] ∧ KindV C H v t ∧ ∀ p kvs, H p = none → TabV H kvs t → Q (.ref p) (upd H p (.dK kvs))
theorem ok_ops (B : Bt mg) (T : Kc K C) (D : DfP K C "operations" "Kind.operations" s_ops) : OkP P w K mg base C "operations" 1 (sp_ops C) := by
  refine D.ok sc_ops (fun vs H Q E h => ?_) (fun f cdv A outer s H vs Q E hr h => ?_)
  · obtain ⟨v, t, rfl, _⟩ := h
    rfl
  · obtain ⟨v, t, rfl, ⟨a, dx, d, kvs, rfl, ha, hd, ht, hok, nd, hst⟩, q⟩ := h
    refine ⟨_, pss_one (ps_ret (pe_callTy call_dictD (by rfl) B.dict (by decide +kernel) (pa_cons (pe_fld (pv 0) rfl) (pa_nil)))), ?_⟩
    exact ⟨_, rfl, a, C, dx, _, _, rfl, ha, T.cl, T.nT, kf_T _ _, d, kvs, rfl, .inl hd, fun p hp => q p kvs hp ht⟩
abbrev s_klen : Stmt := inClass (top 23) 15
theorem sc_klen : FnScope ["self"] ["self"] (defScope s_klen) := ⟨rfl, rfl, rfl, by decide +kernel, rfl, by decide +kernel, by decide +kernel⟩
def sp_klen (C : Addr) : Sp := fun vs H Q _ => ∃ (v : V) (t : Tab), vs = [v] ∧ KindV C H v t ∧ Q (.int (t.length : Int)) H
theorem ok_klen (B : Bt mg) (T : Kc K C) (D : DfS K C "__len__" "Kind.__len__" s_klen ["self"]) : OkS P w K mg base C "__len__" 1 ["self"] (sp_klen C) := by
  refine D.ok sc_klen (fun vs H Q E h => ?_) (fun f cdv A outer s H vs Q E hr h => ?_)
  · obtain ⟨v, t, rfl, _⟩ := h
    rfl
  · obtain ⟨v, t, rfl, ⟨a, dx, d, kvs, rfl, ha, hd, ht, hok, nd, hst⟩, q⟩ := h
    refine ⟨_, pss_one (ps_ret (pe_callB call_lenD (by rfl) B.len (by decide +kernel) (pa_cons (pe_fld (pv 0) rfl) (pa_nil)))), ?_⟩
    refine ⟨_, rfl, a, C, dx, _, _, rfl, ha, T.cl, T.nT, kf_T _ _, ?_⟩
    have e : (kvs.length : Int) = (t.length : Int) := by rw [Paired.length ht]
    rw [← e] at q
    exact ⟨d, kvs, rfl, hd, q⟩
abbrev s_keq : Stmt := inClass (top 23) 16
theorem sc_keq : FnScope ["self", "other"] ["self", "other"] (defScope s_keq) := ⟨rfl, rfl, rfl, by decide +kernel, rfl, by decide +kernel, by decide +kernel⟩
def sp_keq (C : Addr) : Sp := fun vs H Q _ => ∃ (v u : V) (t s : Tab), vs = [v, u] ∧ KindV C H v t ∧ KindV C H u s ∧ Q (.bl (sameT t s)) H
theorem ok_keq (B : Bt mg) (T : Kc K C) (TE : KcE K C) (gC : mg "Kind" = some (.ref C)) (D : DfS K C "__eq__" "Kind.__eq__" s_keq ["self", "other"]) : OkS P w K mg base C "__eq__" 1 ["self", "other"] (sp_keq C) := by
  refine D.ok sc_keq (fun vs H Q E h => ?_) (fun f cdv A outer s H vs Q E hr h => ?_)
  · obtain ⟨v, u, t, s, rfl, _⟩ := h
    rfl
  · obtain ⟨v, u, t, s', rfl, ⟨a, dx, d, kvs, rfl, ha, hd, ht, hok, nd, hst⟩, ⟨b, dy, e, kvu, rfl, hb, he, hu, hok2, nd2, hst2⟩, q⟩ := h
    have hu65 : (A.deeper (envOfC "Kind.__eq__" (defScope s_keq) s.heap.objs.size f cdv)).units + 65 < cLine := by
      have := hr.un
      omega
    refine ⟨_, pss_one (ps_ret (pe_and (pe_callB (isiK (K := K)) (by rfl) B.isinstance (by decide +kernel) (pa_cons (pv 1) (pa_cons (pe_glob (v := .ref C) (by rfl) gC rfl) (pa_nil)))) (pe_one (pe_cmpR (op_eqTab hu65) (pe_fld (pv 0) rfl) (pe_fld (pv 1) rfl) (nomark _))))), ?_⟩
    refine ⟨_, rfl, _, .ref C, _, _, true, rfl, .own C, .base (.ins hb T.cl TE.cla TE.cg TE.ct TE.mr), TE.is_, _, rfl, ?_⟩
    refine ifT rfl ?_
    exact ⟨_, rfl, a, C, dx, _, _, rfl, ha, T.cl, T.nT, kf_T _ _, _, rfl, b, C, dy, _, _, rfl, hb, T.cl, T.nT, kf_T _ _, d, e, kvs, kvu, t, s', rfl, rfl, hd, he, ht, hu, nd2, q⟩
theorem sum_le8 : ∀ l : List Str, (∀ x ∈ l, x.length ≤ 8) → (l.map (·.length)).sum ≤ 8 * l.length
  | [], _ => Nat.zero_le _
  | x :: l, h => by
    have h1 := h x List.mem_cons_self
    have h2 := sum_le8 l fun y hy => h y (List.mem_cons_of_mem _ hy)
    simp only [List.map_cons, List.sum_cons, List.length_cons]
    omega
theorem dig12 : ∀ n : Nat, n < 13 → (Str.ofString (toString (n : Int))).length ≤ 2 := by decide +kernel
abbrev s_kstr : Stmt := inClass (top 23) 17
theorem sc_kstr : FnScope ["self", "words"] ["self"] (defScope s_kstr) := ⟨rfl, rfl, rfl, by decide +kernel, rfl, by decide +kernel, by decide +kernel⟩
def strT (t : Tab) : Str := ((Str.empty ++ ("kind of " : Str)) ++ (toString (sizeT t : Int) : Str)) ++ (" states: " : Str) ++ Txt.join " " (namesT t)
def sp_kstr (C : Addr) : Sp := fun vs H Q _ => ∃ (v : V) (t : Tab), vs = [v] ∧ KindV C H v t ∧ Q (.str (strT t)) H
theorem ok_kstr (B : Bt mg) (T : Kc K C) (D : DfS K C "__str__" "Kind.__str__" s_kstr ["self"]) : OkS P w K mg base C "__str__" 1 ["self"] (sp_kstr C) := by
  refine D.ok sc_kstr (fun vs H Q E h => ?_) (fun f cdv A outer s H vs Q E hr h => ?_)
  · obtain ⟨v, t, rfl, _⟩ := h
    rfl
  · obtain ⟨v, t, rfl, ⟨a, dx, d, kvs, rfl, ha, hd, ht, hok, nd, hst⟩, q⟩ := h
    refine ⟨_, pss_cons (ps_set (i := 1) sc_kstr.nd rfl (.inl rfl) (pe_bm PySem.F.plainAttrs_str PySem.F.slot_str_join PySem.F.type_str_join mt_joinD (pe_str) (pa_cons (pe_fld (pv 0) rfl) (pa_nil))))
      (pss_one (ps_ret (pe_joined (.cons pe_str (.cons (pe_fmt (pe_fld (pv 0) rfl)) (.cons pe_str (.cons (pe_fmt (pv 1)) .nil))))))), ?_⟩
    have hok' := hok
    unfold okTab at hok'
    simp only [Bool.and_eq_true, decide_eq_true_eq] at hok'
    obtain ⟨⟨⟨⟨k1, k2⟩, k3⟩, k4⟩, k5⟩ := hok'
    have hs : ((namesT t).map (·.length)).sum ≤ 8 * (namesT t).length := sum_le8 _ fun x hx => by
      obtain ⟨e, he, rfl⟩ := List.mem_map.mp hx
      have := List.all_eq_true.mp k5 e he
      simp only [Bool.and_eq_true, okName, decide_eq_true_eq] at this
      exact this.1.1.2
    have hl : (namesT t).length = t.length := List.length_map ..
    have hj : (Txt.join " " (namesT t)).length ≤ 60 := by
      have h1 := StrLaws.join_length_le " " (namesT t)
      have h2 : ((" " : Str)).length = 1 := by decide +kernel
      rw [h2] at h1
      rw [show Txt.join " " (namesT t) = Str.join " " (namesT t) from TL.join_eq _ _]
      exact Nat.le_trans h1 (show ((namesT t).map (·.length)).sum + (namesT t).length * 1 ≤ 60 by omega)
    have hd12 := dig12 (sizeT t) (by omega)
    have l1 : ("kind of " : Str).length = 8 := by decide +kernel
    have l2 : (" states: " : Str).length = 9 := by decide +kernel
    have l0 : (Str.empty).length = 0 := rfl
    refine ⟨rfl, _, rfl, a, C, dx, _, _, rfl, ha, T.cl, T.nT, kf_T _ _, " ", d, kvs, namesT t, rfl, rfl, hd, tabV_keys ht, ?_, ?_⟩
    · have h2 : ((" " : Str)).length = 1 := by decide +kernel
      rw [h2]
      omega
    · refine ⟨"kind of ", rfl, by rw [Str.length_append]; exact sz_le (by omega), _, rfl, a, C, dx, _, _, rfl, ha, T.cl, T.nS, kf_S _ _, .inr ⟨_, rfl, ?_, _, rfl, ?_, " states: ", rfl, ?_, _, rfl, .inl ⟨Txt.join " " (namesT t), rfl, sz_le (Nat.le_trans hj (by decide)), _, rfl, ?_, q⟩⟩⟩
      · have : (sizeT t : Int).natAbs ≤ 12 := by omega
        have h3 : (sizeT t : Int).natAbs.log2 ≤ (sizeT t : Int).natAbs := Nat.log2_le_self _
        omega
      · refine sz_le ?_
        rw [Str.length_append, Str.length_append]
        have h7 : (Str.ofString (toString (sizeT t : Int))).length ≤ 2 := hd12
        show Str.empty.length + ("kind of " : Str).length + (Str.ofString (toString (sizeT t : Int))).length ≤ 100000
        omega
      · refine sz_le ?_
        rw [Str.length_append, Str.length_append, Str.length_append]
        have h7 : (Str.ofString (toString (sizeT t : Int))).length ≤ 2 := hd12
        show Str.empty.length + ("kind of " : Str).length + (Str.ofString (toString (sizeT t : Int))).length + (" states: " : Str).length ≤ 100000
        omega
      · refine sz_le ?_
        rw [Str.length_append, Str.length_append, Str.length_append, Str.length_append]
        have h7 : (Str.ofString (toString (sizeT t : Int))).length ≤ 2 := hd12
        show Str.empty.length + ("kind of " : Str).length + (Str.ofString (toString (sizeT t : Int))).length + (" states: " : Str).length + (Txt.join " " (namesT t)).length ≤ 100000
        omega
end
end Tm

/-! {e for x in xs}, e a whole number. -/
namespace Tm
open PySem PySem.Spec PyProof.Rows L2
def setI (w : World) (D : Addr) (S : Int → Bool) (n : Nat) : HO := SetO w D S n
/-- one number more -/
def moreI (S : Int → Bool) (c : Int) : Int → Bool := fun j => S j || decide (j = c)
def tSci (w : World) (wi : TI) (g : TG) (tt : TT) (te : TE) (vs : List Nat) : TE := fun σ H Q => wi σ H fun J Hi => ∀ D, Hi D = none → ∃ W : Nat → Nat → Hp → Prop, (∃ m, W 0 m (upd Hi D (setI w D (fun _ => false) 0))) ∧
  ∀ i m H, W i m H → (J.stop i H ∧ Q (.ref D) H) ∨ (J.go i H ∧ ∃ Nx : Hp → Prop, (∀ H', Nx H' → ∃ m', m' < m ∧ W (i + 1) m' H') ∧
    ∀ x H', J.yld i H x H' → g x (wipe σ vs) H' fun σ2 H2 => wipe σ2 vs = wipe σ vs ∧ tt σ2 H2 fun b H3 => if b = true then te σ2 H3 fun y H4 => ∃ (c : Int) (S : Int → Bool) (n : Nat), y = .int c ∧ H4 D = some (setI w D S n) ∧ n + 1 < scanBound ∧ Nx (upd H4 D (setI w D (moreI S c) (if S c = true then n else n + 1))) else Nx H3)
section
variable {X : Cx}
theorem add_in {pins : List (Addr × Obj)} {σ : L2.St} {H : Hp} {s : Shared} {E : Value → Shared → Prop} {D : Addr} {S : Int → Bool} {n : Nat} {c : Int} {t : Tok} {Q : Value → Shared → Prop} (I : Inv X pins σ H s) (at_ : H D = some (setI X.w D S n)) (few : n + 1 < scanBound)
    (k : ∀ s2, Inv X pins σ (upd H D (setI X.w D (moreI S c) (if S c = true then n else n + 1))) s2 → Q .none s2) : wpAny (model X.prog X.w) X.A (call (.builtin "set.add") [.ref D, .int c t]) Q E s := by
  refine setR_add (setO_get I at_) few fun g sb new => k _ ?_
  have there : ∃ u, g.get? D = some u := by
    obtain ⟨o, _, _, _, ho, _⟩ := id new
    exact ⟨o, ho⟩
  exact I.write (e := D) (t' := s.toks + 1) (by rw [at_]; exact True.intro) (.inl rfl) (fun b u nb e => (sb.2 b nb).trans e) there (setO_new new)
abbrev bareSet (w : World) : Obj := { cls := .type "set", dict := none, data := .set #[] 0 (.fresh 0 0 (!w.params.followText "set-order")) }
theorem pe_sci {elt tg iter : Expr} {ifs : List Expr} {sco : Scope} {own : List (PySem.Str × Nat)} {pos : Pos} {wi : TI} {g : TG} {tt : TT} {te : TE} (calm : X.calm = true) (nd : X.N.Nodup) (it : PI X tg iter wi) (blk : BlkOk X.N X.env.scope sco own)
    (tgt : ∀ (s : Shared) (H : Hp) (C : Addr) (cl : List (PySem.Str × Addr)) (fp : List Addr), PG (X.blk s H sco (compEnvC sco cl C X.env) fp) tg g) (tst : ∀ (s : Shared) (H : Hp) (C : Addr) (cl : List (PySem.Str × Addr)) (fp : List Addr), PTs (X.blk s H sco (compEnvC sco cl C X.env) fp) ifs tt)
    (val : ∀ (s : Shared) (H : Hp) (C : Addr) (cl : List (PySem.Str × Addr)) (fp : List Addr), PE (X.blk s H sco (compEnvC sco cl C X.env) fp) elt te) (fold : ∀ x, foldedSetIterable iter X.env x = pure x := by intro _; rfl) :
    PE X (.SetComp elt [⟨tg, iter, ifs, 0⟩] sco pos) (tSci X.w wi g tt te (own.map (·.2))) := by
  refine ⟨fun pins s0 σ0 H0 Q0 I0 h0 => ?_⟩
  rw [PpSet.eval_SetComp]
  have caught : ∀ y ∈ sco.names, y.2 = .free → ∃ c, X.env.cells.lookup y.1 = some c := fun y hy e => (blk.free y hy e).elim (fun z => I0.ok.has _ (.inl z)) fun z => I0.ok.has _ (.inr z)
  refine wpAny_comprehension_free rfl fold (closure_ok caught) blk.kind (fun y hy e => by rw [blk.uniq y hy, e]) (thn (it.run pins s0 σ0 H0 _ I0 h0) fun xv sA hA => thn hA fun itv sB hB => ?_)
  obtain ⟨ia, fp, tn, J, HB, rfl, IB, T, stB, frB, run⟩ := hB
  refine PpSet.newSet_ok (newEnv_comp ?_)
  have noD : HB sB.heap.objs.size = none := IB.hok.fresh (Nat.le_refl _)
  obtain ⟨W, ⟨m0, w0⟩, turn⟩ := run _ noD
  generalize hs : ({ sB with heap := sB.heap.push (bareSet X.w) } : Shared) = sC
  have hC : sC.heap = sB.heap.push (bareSet X.w) := by rw [← hs]
  generalize hD : sB.heap.objs.size = D at noD turn w0
  have IC : Inv X pins σ0 (upd HB D (setI X.w D (fun _ => false) 0)) sC := by
    rw [← hs, ← hD]
    exact IB.laid (t' := sB.toks) (fun b o e => Heap.get?_push_of_some _ e) (Nat.le_refl _) (setO_new (setR_fresh X.w))
  have below : ∀ b ∈ fp, b < sB.heap.objs.size := fun b hb => let ⟨o, e, _⟩ := T.obj _ _ stB b hb; Heap.lt_size e
  have frC : ∀ b ∈ fp, FpOk X pins (upd HB D (setI X.w D (fun _ => false) 0)) b ∧ b < sC.heap.objs.size := fun b hb =>
    ⟨⟨(upd_ne (by rw [← hD]; exact Nat.ne_of_lt (below b hb))).trans (frB b hb).1, (frB b hb).2⟩, by rw [hC, Heap.size_push]; exact Nat.lt_succ_of_lt (below b hb)⟩
  have stC : tn 0 sC.heap := T.keep _ _ _ stB fun b _ o e => by rw [hC]; exact Heap.get?_push_of_some _ e
  generalize hH : upd HB D (setI X.w D (fun _ => false) 0) = HC at IC frC w0
  have ID := block_start IC blk nd frC
  generalize hcl : cellsFrom (sC.heap.objs.size + 1) sco.names (cloFrom X.env.cells sco.names []) = cl at ID
  have pT := tgt sC HC sC.heap.objs.size cl fp
  have pI := tst sC HC sC.heap.objs.size cl fp
  have pV := val sC HC sC.heap.objs.size cl fp
  show codeAny (model X.prog X.w) X.A (.compStart (.SetComp elt [⟨tg, iter, ifs, 0⟩] sco pos) 0 (.ref ia) (.ref D) (compEnvC sco cl sC.heap.objs.size X.env)) (compPost (model X.prog X.w) X.A X.xe none (EP X pins σ0 Q0) (.ref D) sC.heap.objs.size)
    { sC with heap := pushCells (sC.heap.push { cls := .type "dict", data := .dict #[] }) sco.names }
  have loc : (compEnvC sco cl sC.heap.objs.size X.env).locals = sC.heap.objs.size := rfl
  generalize hce : compEnvC sco cl sC.heap.objs.size X.env = ce at ID pT pI pV loc ⊢
  generalize hsD : ({ sC with heap := pushCells (sC.heap.push { cls := .type "dict", data := .dict #[] }) sco.names } : Shared) = sD at ID ⊢
  have stD : tn 0 sD.heap := T.keep _ _ _ stC fun b _ o e => by rw [← hsD]; exact pushCells_keeps _ _ _ _ (Heap.get?_push_of_some _ e)
  have still : ∀ {σ' : L2.St} {H' : Hp} {s' : Shared}, Inv (X.blk sC HC sco ce fp) [] σ' H' s' → (∀ b ∈ fp, H' b = none) → ∀ b ∈ fp, FpOk (X.blk sC HC sco ce fp) [] H' b := fun {σ' H' s'} Z no b hb =>
    ⟨no b hb, (Z.ok.exf b hb).1, Z.ok.exfs b hb, .inl hb, fun x c e => (Z.ok.exf b hb).2 x c e, fun p hp => absurd (show p ∈ ([] : List (Addr × Obj)) ++ [] from hp) (by simp)⟩
  have goes : codeAny (model X.prog X.w) X.A (.compLoop (.SetComp elt [⟨tg, iter, ifs, 0⟩] sco pos) 0 (.ref ia) (.ref D) ce) (compPost (model X.prog X.w) X.A X.xe none (EP X pins σ0 Q0) (.ref D) sC.heap.objs.size) sD := by
    refine PpSet.compLoopS_any (fun n s' => ∃ i H', Inv (X.blk sC HC sco ce fp) [] (wipe σ0 (own.map (·.2))) H' s' ∧ tn i s'.heap ∧ (∀ b ∈ fp, H' b = none) ∧ W i n H') ?_ m0 ⟨0, HC, ID, stD, fun b hb => (frC b hb).1.1, w0⟩
    rintro n sE ⟨i, HE, IE, stE, noE, wE⟩
    rcases turn i n HE wE with ⟨stop, last⟩ | ⟨go, Nx, nxt, step⟩
    · refine thnF (T.done (X.blk sC HC sco ce fp) rfl rfl rfl calm i [] sE _ HE (fun _ _ => False) IE (still IE noE) stE stop) fun r sF ⟨hr, IF⟩ => ?_
      subst hr
      have IG : Inv X pins σ0 HE sF := IC.call' (ch := fp) IF.os IF.base IF.hok IF.bare fun b hb => let z := (frC b hb).1; ⟨z.2.2.2.1, z.2.1, z.2.2.2.2.1, z.2.2.2.2.2⟩
      have noC : HE sC.heap.objs.size = none := by
        have z : HE ce.locals = none := IF.free
        rw [loc] at z
        exact z
      obtain ⟨m, hn, _⟩ := IF.loc
      replace hn : sF.heap.Ns ce.locals m := hn
      rw [loc] at hn
      have fr := IC.fpOk (H' := HE) (Nat.le_refl _) noC
      refine ⟨m, hn, fun g2 sb => ?_⟩
      exact ⟨.ref D, HE, IG.turned (t' := sF.toks) (fun b o hb e => (sb.2 b hb).trans e) fr.1 fr.2.1 fr.2.2.2.1 fr.2.2.2.2.1 fr.2.2.2.2.2, rfl, last⟩
    · refine thnF (T.item (X.blk sC HC sco ce fp) rfl rfl rfl calm i [] sE _ HE (fun _ _ => False) IE (still IE noE) stE go) fun r sF ⟨u, hr, hF⟩ => ?_
      subst hr
      refine thnF hF fun _ sG ⟨x, HG, IG, rG, yG, stG, noG⟩ => ?_
      have JG := IG.pinned (still IG noG) (T.obj _ _ stG)
      refine thnF (pT.run _ sG _ HG x u _ JG rG (step x HG yG)) fun _ sI ⟨σI, HI, II, wI, qI⟩ => ?_
      refine thnF (pI.run _ sI σI HI _ II qI) fun b sJ ⟨HJ, IJ, qJ⟩ => ?_
      have next : ∀ {s' : Shared} {H' : Hp}, Inv (X.blk sC HC sco ce fp) ([] ++ pinsAt fp sG.heap) σI H' s' → Nx H' →
          ∃ m, m < n ∧ ∃ i H', Inv (X.blk sC HC sco ce fp) [] (wipe σ0 (own.map (·.2))) H' s' ∧ tn i s'.heap ∧ (∀ b ∈ fp, H' b = none) ∧ W i m H' := fun {s' H'} Z nx => by
        obtain ⟨m, less, wN⟩ := nxt H' nx
        have pin : ∀ b ∈ fp, ∀ o, sG.heap.get? b = some o → s'.heap.get? b = some o ∧ H' b = none := fun b hb o e =>
          ⟨(Z.pin (b, o) (List.mem_append_right _ (List.mem_append_right _ (mem_pinsAt hb e)))).1, (Z.pin (b, o) (List.mem_append_right _ (List.mem_append_right _ (mem_pinsAt hb e)))).2.1⟩
        refine ⟨m, less, i + 1, H', (Z.unpinned (pins := [])).weak (by rw [← wI, wipe_length]) (fun j v e => ?_), T.keep _ _ _ stG fun b hb o e => (pin b hb o e).1, fun b hb => ?_, wN⟩
        · rw [← wI] at e
          exact (wipe_some e).1
        · obtain ⟨o, e, _⟩ := T.obj _ _ stG b hb
          exact (pin b hb o e).2
      cases b with
      | true =>
        simp only [if_true] at qJ ⊢
        refine thnF (pV.run _ sJ σI HJ _ IJ qJ) fun z sK ⟨yv, HK, IK, rK, c, S, k, ey, atD, few, nx⟩ => ?_
        subst ey
        obtain ⟨tk, rfl⟩ := rK
        exact add_in (X := X.blk sC HC sco ce fp) IK atD few fun sL IL => next IL nx
      | false =>
        simp only [Bool.false_eq_true, if_false] at qJ ⊢
        exact next IJ qJ
  exact PpSet.codeAny_compStart_set goes (T.self X.A 0 _ _ _ stD goes)
end
end Tm

/-! Kind.answers. -/
namespace Tm
open PySem PySem.Spec PyProof.Rows L2
local macro_rules | `(tactic| walk_at "x") => `(tactic| dsimp only [tNext, tRet, tSeq, tCall, tCB, tC, tCons, tNil, tAsg, tDrop, sFld])
/-- {pair[1] for pair in a row} and the like -/
theorem sci_row {K : PySem.W.Frag} {w : World} {σ : L2.St} {H : Hp} {Q : VK} {j : Nat} {te tl : TE} {vs : List Nat} {r : Row} {f : Int × Int → Int} (hl : Ev tl σ H fun v H1 => ∃ a xs, v = .ref a ∧ SqT K H1 a xs ∧ Paired (PairV H1) xs r) (hr : r.length ≤ 1000) (hw : ∀ x, wipe ((wipe σ vs).set j (some x)) vs = wipe σ vs)
    (he : ∀ x z H', PairV H' x z → Ev te ((wipe σ vs).set j (some x)) H' fun v _ => v = .int (f z))
    (hq : ∀ p H1 S n, Same H H1 → H1 p = some (SetO w p S n) → (∀ k, S k = true ↔ k ∈ r.map f) → n ≤ r.length → Q (.ref p) H1) : tSci w (iTup K tl) (gName j) tYes te vs σ H Q := by
  refine hl _ fun v H1 e h => ?_
  obtain ⟨a, xs, ea, hs, hp⟩ := h
  have hlen : xs.length = r.length := Paired.length hp
  refine ⟨a, ea, ⟨xs, hs⟩, fun D hD => ?_⟩
  have wk := walk_tup (K := K) (a := a) (xs := xs)
  refine ⟨fun i m H' => m = r.length - i ∧ i ≤ r.length ∧ Same H1 H' ∧ ∃ S n, H' D = some (SetO w D S n) ∧ (∀ k, S k = true ↔ k ∈ (r.take i).map f) ∧ n ≤ i, ⟨r.length, by simp, Nat.zero_le _, same_new hD, fun _ => false, 0, upd_same, by simp, Nat.le_refl _⟩, ?_⟩
  rintro i m H' ⟨rfl, hi, e2, S, n, hS, hm, hn⟩
  have hs' : SqT K H' a xs := same_seqT e2 hs
  by_cases hlt : i < r.length
  · refine .inr ⟨wk.goes i H' (by omega) hs', _, fun H2 p => p, fun x H2 y => ?_⟩
    obtain ⟨eH, hx⟩ := wk.yields i H' x H2 (by omega) hs' y
    rw [eH]
    obtain ⟨z, hz, hpz⟩ := paired_ix2 hp hx
    refine ⟨hw x, ?_⟩
    dsimp only [tYes]
    rw [if_pos rfl]
    refine he x z H' (hpz.mono (tups_of e2)) _ fun y H3 e3 ey => ?_
    refine ⟨f z, S, n, ey, e3 _ _ hS, by show n + 1 < 4096; omega, r.length - (i + 1), by omega, rfl, hlt, same_mut (e2.trans e3) hD, moreI S (f z), _, upd_same, fun k => ?_, ?_⟩
    · rw [take_one hz, List.map_append, List.mem_append, ← hm k]
      unfold moreI
      simp
    · split <;> omega
  · have ei : i = r.length := by omega
    subst ei
    rw [List.take_length] at hm
    exact .inl ⟨by rw [← hlen]; exact wk.stops H' hs', hq D H' S n (e.trans e2) hS hm hn⟩
section
variable {P : Program} {w : World} {K : PySem.W.Frag} {mg : Str → Option Value} {base : Heap} {C : Addr}
abbrev s_answers : Stmt := inClass (top 23) 5
theorem sc_answers : FnScope ["self", "name", "pair"] ["self", "name"] (defScope s_answers) := ⟨rfl, rfl, rfl, by decide +kernel, rfl, by decide +kernel, by decide +kernel⟩
def sp_answers (C : Addr) : Sp := fun vs H Q _ => ∃ (v : V) (t : Tab) (x : Str) (r : Row), vs = [v, .str x] ∧ KindV C H v t ∧ (x, r) ∈ t ∧ ∀ p H' (ns : List Int), Same H H' → H' p = some (.tup (ns.map V.int)) → ns.Pairwise (· < ·) → (∀ k, k ∈ ns ↔ k ∈ r.map (·.2)) → Q (.ref p) H'
theorem ok_answers (B : Bt mg) (T : Kc K C) (OM_need_operation : OkM P w K mg base C "_need_operation" 2 ["self", "name"] (sp_needop C)) (D : DfM K C "answers" "Kind.answers" s_answers ["self", "name"]) : OkM P w K mg base C "answers" 3 ["self", "name"] (sp_answers C) := by
  refine D.ok sc_answers (fun vs H Q E h => ?_) (fun f cdv A outer s H vs Q E hr h => ?_)
  · obtain ⟨v, t, x, r, rfl, _⟩ := h
    rfl
  · obtain ⟨v, t, x, r, rfl, hk, hm, q⟩ := h
    obtain ⟨a, dx, d, kvs, rfl, ha, hd, ht, hok, nd, hst⟩ := id hk
    have hu := hu_of hr
    have hin : x ∈ namesT t := List.mem_map.mpr ⟨_, hm, rfl⟩
    refine ⟨_, pss_cons (ps_expr (OM_need_operation.call hr T.cl (he := pv 0) (ha := pa_cons (pv 1) (pa_nil))))
      (pss_one (ps_ret (pe_callTy (tupleK (K := K)) (by rfl) B.tuple (by decide +kernel) (pa_cons (pe_callB (cr_sortedSet rfl) (by rfl) B.sorted (by decide +kernel) (pa_cons (pe_sci (own := [("pair", 2)]) (g := gName 2) (tt := tYes) rfl sc_answers.nd (pi_tup (pe_dget hu (pe_fld (pv 0) rfl) (pv 1) (fun _ _ => rfl))) (blkOk_by (own := [("pair", 2)]) (N := ["self", "name", "pair"]) (sc := defScope s_answers) (by decide +kernel)) (fun _ _ _ _ _ => pg_name (i := 2) sc_answers.nd rfl (.inl rfl)) (fun _ _ _ _ _ => pts_nil) (fun _ _ _ _ _ => pe_ix (ixTK (K := K)) (pv 2) (pe_int) (fun _ _ => rfl))) pa_nil)) pa_nil)))), ?_⟩
    refine ⟨_, rfl, a, dx, _, rfl, ha, kf_no _ _, _, rfl, _, t, x, rfl, hk, hin, ?_⟩
    obtain ⟨rv, hv, hrow⟩ := tab_look ht nd hm
    have hg := DGet.k (k := Sum.inr x) hd
    rw [hv] at hg
    obtain ⟨b, rs, rfl, hb, hrs⟩ := id hrow
    have hsz : r.length = sizeT t := size_of_ok hok _ hm
    have h12 : sizeT t ≤ 12 := by
      have := hok
      unfold okTab at this
      simp only [Bool.and_eq_true, decide_eq_true_eq] at this
      exact this.1.2
    walk_at "x"
    refine sci_row (K := K) (r := r) (f := fun z => z.2) (fun Q q => ?_) (by omega) (by intro _; rfl) (fun x z H' hz Q q => ?_) fun p H1 S n e hS hm2 hn => ?_
    · exact ⟨_, rfl, a, C, dx, _, _, rfl, ha, T.cl, T.nT, kf_T _ _, _, rfl, d, _, rfl, hg, q _ _ (Same.refl _) ⟨b, rs, rfl, SqT.of hb, hrs⟩⟩
    · obtain ⟨c, rfl, hc⟩ := hz
      exact ⟨_, rfl, c, _, _, .int z.2, rfl, rfl, SqT.of hc, atI_nat (j := 1) rfl, q _ _ (Same.refl _) rfl⟩
    · refine ⟨p, S, n, rfl, hS, by omega, fun ns l hpw hmem hl hnl => ?_⟩
      refine ⟨l, _, rfl, .inl ⟨SqL.of upd_same, fun l2 hl2 => ?_⟩⟩
      exact q l2 _ ns (e.trans ((same_new hnl).trans (same_new hl2))) upd_same hpw fun k => (hmem k).trans (hm2 k)
end
end Tm

/-! Kind.reached. -/
namespace Tm
open PySem PySem.Spec PyProof.Rows L2
local macro_rules | `(tactic| walk_at "x") => `(tactic| dsimp only [tNext, tRet, tSeq, tCall, tCB, tC, tCons, tNil, tAsg, tDrop, sFld])
section
variable {α : Type} {K : PySem.W.Frag} {σ : L2.St} {H : Hp} {Q : VK} {j : Nat} {tt : TT} {te : TE} {vs : List Nat}
/-- over the values of a locked dict -/
theorem lc_runV {td : TE} {d : Addr} {o : Obj} {kvs : List (L2.Key × V)} (hd : Ev td σ H fun v _ => v = .ref d) (hf : H d = some (.frz o (.dK kvs))) (zs : List α) (hlen : zs.length = kvs.length) (b : α → Bool) (R : α → V → Hp → Prop) (hz : zs.length ≤ 100000)
    (hw : ∀ x, wipe ((wipe σ vs).set j (some x)) vs = wipe σ vs) (hR : ∀ z v H H', TupS H H' → R z v H → R z v H')
    (hs : ∀ (k : Nat) z kv H1, zs[k]? = some z → kvs[k]? = some kv → Same H H1 → EvT tt ((wipe σ vs).set j (some kv.2)) H1 (b z) ∧ (b z = true → ∀ H3, Same H1 H3 → Ev te ((wipe σ vs).set j (some kv.2)) H3 (R z)))
    (hq : ∀ p H1 ys, H p = none → Same H H1 → H1 p = some (.lst ys) → Paired (fun v z => R z v H1) ys (zs.filter b) → Q (.ref p) H1) : tLc (iVals td) (gName j) tt te vs σ H Q := by
  refine hd _ fun v H1 e ev => ⟨d, o, kvs, ev, e _ _ hf, ?_⟩
  refine lc_name (Q := Q) walk_values zs b R hlen (by omega) hw hR (fun H2 e2 => e2 _ _ (e _ _ hf)) (fun i H v H' y => by rw [y.1]; exact Same.refl _) (fun i z x H2 H' hz' e2 y => ?_) (fun p H2 ys hp e2 => hq p H2 ys (e.free hp) (e.trans e2))
  obtain ⟨e3, k, hk⟩ := y
  rw [e3]
  exact hs i z (k, x) H2 hz' hk (e.trans e2)
end
/-- the states behind s, by the operations in their order -/
def nextN (t : Tab) (s : Nat) : List Nat := t.map fun e => match e.2[s]? with
  | some p => p.1.toNat
  | none => 0
/-- the loop of reached, by fuel: met, waiting -/
def runR (t : Tab) : Nat → List Nat → List Nat → Option (List Nat)
  | 0, met, [] => some met
  | 0, _, _ :: _ => none
  | n + 1, met, w => match w.getLast? with
    | none => some met
    | some h => if h ∈ met then runR t n met w.dropLast else runR t n (met ++ [h]) (w.dropLast ++ nextN t h)
def natV (l : List Nat) : List V := l.map fun (n : Nat) => V.int (n : Int)
def iN (l : List Nat) : List Int := l.map fun (n : Nat) => (n : Int)
theorem natV_iN (l : List Nat) : natV l = (iN l).map V.int := by simp [natV, iN]
theorem inV_nat (h : Nat) (l : List Nat) : inV (V.int (h : Int)) (natV l) = decide (h ∈ l) := by
  unfold inV natV
  rw [List.any_map, Bool.eq_iff_iff, List.any_eq_true, decide_eq_true_eq]
  constructor
  · rintro ⟨x, hx, e⟩
    have e2 : ((x : Int) == (h : Int)) = true := e
    have e3 : x = h := by
      have := beq_iff_eq.mp e2
      omega
    rw [← e3]
    exact hx
  · intro hm
    exact ⟨h, hm, show ((h : Int) == (h : Int)) = true from beq_self_eq_true _⟩
theorem natV_len (l : List Nat) : (natV l).length = l.length := List.length_map ..
theorem natV_last {l : List Nat} {h : Nat} (e : l.getLast? = some h) : (natV l)[(natV l).length - 1]? = some (V.int (h : Int)) := by
  rw [natV_len]
  unfold natV
  rw [List.getElem?_map, ← List.getLast?_eq_getElem?, e]
  rfl
theorem natV_drop (l : List Nat) : (natV l).dropLast = natV l.dropLast := by simp [natV, List.map_dropLast]
theorem natV_app (l r : List Nat) : natV l ++ natV r = natV (l ++ r) := by simp [natV]
theorem next_ok {t : Tab} (h : okTab t = true) {e : Str × Row} (he : e ∈ t) {s : Nat} (hs : s < sizeT t) : ∃ p, e.2[s]? = some p ∧ 0 ≤ p.1 ∧ p.1 < (sizeT t : Int) := by
  have hl := size_of_ok h e he
  unfold okTab at h
  simp only [Bool.and_eq_true] at h
  have q := List.all_eq_true.mp h.2 e he
  simp only [Bool.and_eq_true, okRow, decide_eq_true_eq] at q
  have hlt : s < e.2.length := by omega
  have k := List.all_eq_true.mp q.2.2 _ (List.getElem_mem hlt)
  unfold okPair at k
  simp only [Bool.and_eq_true, decide_eq_true_eq] at k
  exact ⟨e.2[s], List.getElem?_eq_getElem hlt, k.1.1.1, by omega⟩
theorem flat_nat (l : List Nat) : (natV l).all flatV = true := List.all_eq_true.mpr fun v hv => by
  obtain ⟨n, _, rfl⟩ := List.mem_map.mp hv
  rfl
/-- a tuple of numbers without a dict of its own -/
def TupD (H : Hp) (p : Addr) (ns : List Nat) : Prop := ∃ o : Obj, o.dict = none ∧ H p = some (.frz o (.tup (natV ns)))
theorem TupD.rd {H : Hp} {p : Addr} {ns : List Nat} (h : TupD H p ns) : Rd H p (.tup (natV ns)) := by
  obtain ⟨o, _, h⟩ := h
  exact .inr ⟨o, h⟩
theorem TupD.keep {H H' : Hp} {p : Addr} {ns : List Nat} (e : Same H H') (h : TupD H p ns) : TupD H' p ns := by
  obtain ⟨o, h1, h⟩ := h
  exact ⟨o, h1, e _ _ h⟩
/-- tuple(a list), the new tuple as it stands -/
theorem cr_tupF {X : Cx} {K : PySem.W.Frag} (hK : X.K = K := by rfl) : CallR X (.type "tuple") (fun xs H Q => ∃ p ys, xs = [.ref p] ∧ SqL K H p ys ∧ ∀ (l : Addr) (o : Obj), o.dict = none → H l = none → Q (.ref l) (upd H l (.frz o (.tup ys)))) := by
  subst hK
  intro pins s σ H xs us Q I r h
  obtain ⟨p, ys, rfl, hs, q⟩ := h
  rw [Vals.ref1 r]
  obtain ⟨its, rv, lst, room⟩ := I.list hs
  have cnt := rv.length
  refine call_tuple_list lst.isList (fun g kept => ?_) (by simp only [List.size_toArray] <;> omega)
  have J : Inv X pins σ H { s with heap := g } := I.kept (t' := s.toks) kept
  have new : ObjOk X.prog X.w (upd H g.objs.size (.frz { cls := .type "tuple", data := .seq its.toArray } (.tup ys))) (g.push { cls := .type "tuple", data := .seq its.toArray }) g.objs.size (.frz { cls := .type "tuple", data := .seq its.toArray } (.tup ys)) :=
    ⟨Heap.get?_push_size _ rfl, room, its, rv, IsTup.new _ _⟩
  exact ⟨.ref g.objs.size, _, J.laid (t' := s.toks) (fun b o e => Heap.get?_push_of_some _ e) (Nat.le_refl _) new, rfl, q _ _ rfl (J.hok.fresh (Nat.le_refl _))⟩
section
variable {P : Program} {w : World} {K : PySem.W.Frag} {mg : Str → Option Value} {base : Heap} {C : Addr}
end
end Tm

set_option maxHeartbeats 4000000
/-! set(xs), xs a list of whole numbers. -/
namespace Tm
open PySem PySem.Spec PyProof.Rows L2
section
variable {P : Program} {w : World} {B : Around} {G : Value → Shared → Prop} {z : Shared}
/-- what set(..) leaves: all members, the old heap kept -/
abbrev Filled (w : World) (z : Shared) (ns : List Int) (y : Shared) : Prop := ∃ (g : Heap) (n c : Nat), y = { z with heap := g, toks := n } ∧ SetR w g z.heap.objs.size (fun j => decide (j ∈ ns)) c ∧ c ≤ ns.length ∧ ∀ b o, z.heap.get? b = some o → g.get? b = some o
/-- the body of set.__init__, one list given -/
theorem init_list {l : Addr} {us : Array Value} {ns : List Int} (calm : B.handled = none) (lst : z.heap.IsList l us) (num : IntsAre us.toList ns) (few : ns.length + 1 < scanBound) :
    wpAny (model P w) B (Builtin.«set.__init__» ⟨[.ref z.heap.objs.size, .ref l], []⟩) (fun f y => f = .done (.ret .none) ∧ Filled w z ns y) G { z with heap := z.heap.push (bareSet w) } := by
  have cnt : us.size = ns.length := (Array.length_toList (xs := us)).symm.trans (IntsAre.length num)
  have new : (z.heap.push (bareSet w)).get? z.heap.objs.size = some (bareSet w) := Heap.get?_push_size _ rfl
  obtain ⟨⟨oc, od, oda, os⟩, old, e1, k, e2⟩ := lst
  dsimp only at e1 e2
  cases e1
  cases e2
  have at1 : (z.heap.push (bareSet w)).get? l = some { cls := .type "list", dict := od, data := .seq us k, slots := os } := Heap.get?_push_of_some _ old
  have is1 : (z.heap.push (bareSet w)).IsList l us := ⟨_, at1, rfl, k, rfl⟩
  have n1 := PySem.F.sub_list_set
  have n2 := PySem.F.sub_list_frozenset
  have n3 : (Value.type "list" == Value.type "dict") = false := by decide
  unfold Builtin.«set.__init__» noKeywords Builtin.Frozenset.updateFrom
  generalize e : pyIter = PI
  wp_walk
  subst e
  refine wpAny_pyIter_list is1 (wpAny_bind (wpAny_runValue ?_))
  have big : (z.heap.push (bareSet w)).objs.size = z.heap.objs.size + 1 := Heap.size_push ..
  have less := Heap.lt_size old
  have ne1 : l ≠ (z.heap.push (bareSet w)).objs.size := Nat.ne_of_lt (big ▸ Nat.lt_succ_of_lt less)
  have ne2 : z.heap.objs.size ≠ (z.heap.push (bareSet w)).objs.size := Nat.ne_of_lt (big ▸ Nat.lt_succ_self _)
  have out : z.heap.objs.size ∉ [(z.heap.push (bareSet w)).objs.size, l] := fun m => by
    rcases List.mem_cons.mp m with x | x
    · exact ne2 x
    · exact Nat.ne_of_gt less (List.mem_singleton.mp x)
  have val : ∀ (i : Nat) (v : Value), us[i]? = some v → ∃ c t, ns[i]? = some c ∧ v = .int c t := fun i v hv => by
    have lt : i < ns.length := cnt ▸ (Array.getElem?_eq_some_iff.mp hv).1
    obtain ⟨t, ev⟩ := IntsAre.int_at num i v ((Array.getElem?_toList ..).trans hv)
    refine ⟨ns[i], t, List.getElem?_eq_getElem lt, ev.trans ?_⟩
    rw [List.getD_eq_getElem?_getD, List.getElem?_eq_getElem lt]
    rfl
  refine set_update_ints (Walks.list (by simp [calm]) _ l ne1 us).toS z.heap.objs.size out ns cnt few val us.size 0 _ rfl (Nat.zero_le _) ⟨⟨_, Heap.get?_push_size _ rfl, rfl, rfl⟩, is1.push _⟩ ⟨0, Nat.le_refl 0, setR_new_at (Heap.get?_push_of_some _ new)⟩ fun y c mv hc hS => ?_
  obtain ⟨g, gs, dr, tk, os2⟩ := y
  have q1 := mv.gens
  have q2 := mv.drawn
  have q3 := mv.os
  dsimp only at q1 q2 q3
  subst q1 q2 q3
  refine wpAny_pure (wpAny_pure ⟨rfl, g, tk, c, rfl, hS, cnt ▸ hc, fun b o e => mv.heap b o (fun m => ?_) (Heap.get?_push_of_some _ (Heap.get?_push_of_some _ e))⟩)
  have lb := Heap.lt_size e
  rcases List.mem_cons.mp m with x | x
  · exact Nat.ne_of_lt lb x
  · exact Nat.ne_of_lt (big ▸ Nat.lt_succ_of_lt lb) (List.mem_singleton.mp x)
/-- the call -/
theorem set_list {A : Around} {s : Shared} {l : Addr} {us : Array Value} {ns : List Int} {R : Value → Shared → Prop} (calm : A.handled = none) (lst : s.heap.IsList l us) (num : IntsAre us.toList ns) (few : ns.length + 1 < scanBound)
    (end_ : ∀ y, Filled w s ns y → R (.ref s.heap.objs.size) y) : wpAny (model P w) A (call (.type "set") [.ref l]) R G s := by
  have C := PySem.F.called_set
  have ⟨m0, m1, mro⟩ := C.mro
  refine wpAny_call (codeAny_of_tree (?_ : wpAny _ _ (callAny (.type "set") _) _ _ _))
  refine wpAny_pure ⟨Code.quiet_builtin _ (by decide +kernel), codeAny_builtin F.entry_type_call ?_⟩
  rw [Around.under_plain (weight_type_call_type "set" [.ref l] []) rfl]
  have c1 := C.made
  have c2 := C.sub
  have c3 := C.notType
  have c4 := C.canCreate
  have c5 := F.typeCall_set_1 (.ref l)
  repeat (any_goals (first | assumption | wp_step))
  refine codeAny_mono (code_set_led1 (.ref l) (E := G) (Q₁ := fun o s1 => o = .ref s.heap.objs.size ∧ s1 = { s with heap := s.heap.push (bareSet w) }) ⟨rfl, rfl⟩) fun r1 s1 h1 => ?_
  match r1, h1 with
  | .ok (.ret _), h1 =>
    obtain ⟨rfl, rfl⟩ := h1
    have new : (s.heap.push (bareSet w)).get? s.heap.objs.size = some (bareSet w) := Heap.get?_push_size _ rfl
    have typ : Shared.TypeIs { s with heap := s.heap.push (bareSet w) } (.ref s.heap.objs.size) "set" := ⟨_, new, rfl⟩
    have i1 := C.init.lookup
    have i2 := C.init.bind (.ref s.heap.objs.size)
    repeat (any_goals (first | assumption | wp_step))
    refine codeAny_mono (codeAny_call_builtin (R := wants (fun r y => r = .none ∧ Filled w s ns y) G) C.init.plain F.entry_set_init (check_set_init_1 typ ?_)) fun r2 s2 h2 => ?_
    · exact wpAny_mono (init_list (by simp [calm]) lst num few) (fun f y q => by obtain ⟨rfl, q⟩ := q; exact ⟨rfl, q⟩) fun _ _ e => e
    · match r2, h2 with
      | .ok (.ret _), h2 =>
        obtain ⟨rfl, q⟩ := h2
        repeat (any_goals (first | assumption | wp_step))
        exact end_ _ q
      | .error _, e => exact e
  | .error _, e => exact e
end
def rSetL (K : PySem.W.Frag) (w : World) : List V → Hp → VK → Prop := fun xs H Q => ∃ (l : Addr) (ns : List Int), xs = [V.ref l] ∧ SqL K H l (ns.map V.int) ∧ ns.length ≤ 1000 ∧ ∀ p c, H p = none → c ≤ ns.length → Q (.ref p) (upd H p (setI w p (fun j => decide (j ∈ ns)) c))
theorem cr_setL {X : Cx} (calm : X.calm = true) : CallR X (.type "set") (rSetL X.K X.w) := by
  intro pins s σ H xs us Q I r h
  obtain ⟨l, ns, rfl, hl, few, q⟩ := h
  rw [Vals.ref1 r]
  obtain ⟨its, rv, pl, _⟩ := I.list hl
  refine set_list (I.ok.hd calm) pl.isList (ns := ns) (ints_of_vals rv) (by show _ < 4096; omega) fun y ⟨g, n, c, ey, new, hc, keep⟩ => ?_
  subst ey
  exact ⟨.ref s.heap.objs.size, _, I.laid (t' := n) keep (Nat.le_refl _) (setO_new new), rfl, q _ c (I.hok.fresh (Nat.le_refl _)) hc⟩
end Tm

/-! min(d), d a dict with texts for keys; _law_size. -/
namespace Tm
open PySem PySem.Spec PyProof.Rows L2
local macro_rules | `(tactic| walk_at "x") => `(tactic| dsimp only [tNext, tRet, tSeq, tCall, tCB, tC, tCons, tNil, tAsg, tDrop, sFld])
theorem best_le (bt : Nat → Nat → Bool) : ∀ k, argBest bt k ≤ k
  | 0 => Nat.le_refl _
  | k + 1 => by
    have := best_le bt k
    unfold argBest
    split <;> omega
theorem cmp_texts {P : Program} {w : World} {A : Around} {D : Nat → Value → Prop} (x : Nat → Str) (hx : ∀ i v, D i v → ∃ t, v = .str (x i) t) : CmpOf P w A .Lt D fun i j => decide ((x i).cps.toList < (x j).cps.toList) := by
  intro i j u v s Q G hu hv q
  obtain ⟨t1, rfl⟩ := hx i u hu
  obtain ⟨t2, rfl⟩ := hx j v hv
  exact richCompare_gives (op := .Lt) (typeIs_str s _ t1) (typeIs_str s _ t2) F.slot_str_lt F.entry_str_lt (F.args_str_lt_2 _ _) (gives_str_lt _ _ t1 t2) (fun e => nomatch e) q
def rMinT : List V → Hp → VK → Prop := fun vs H Q => ∃ (a : Addr) (kvs : List (L2.Key × V)) (ks : List Str), vs = [V.ref a] ∧ H a = some (.dK kvs) ∧ kvs.map (·.1) = ks.map Sum.inr ∧ ks ≠ [] ∧ ∀ x ∈ ks, Q (.str x) H
theorem cr_minT {X : Cx} (calm : X.calm = true) : CallR X (.builtin "min") rMinT := by
  intro pins s σ H vs us Q I r h
  obtain ⟨a, kvs, ks, rfl, ha, hk, ne, q⟩ := h
  rw [Vals.ref1 r]
  obtain ⟨_, sys, es, rel, dof⟩ := dk_of I.hok ha
  obtain ⟨ep, dat⟩ := dof.dictAt
  have less : a < s.heap.objs.size := by
    obtain ⟨_, _, e, _⟩ := id dat
    exact Heap.lt_size e
  have keys : es.map (·.1) = ks.map Sum.inr := (KV.keys rel).symm.trans hk
  have cnt : es.length = ks.length := by simpa using congrArg List.length keys
  have pos : 0 < es.length := cnt ▸ List.length_pos_iff.mpr ne
  have texts : ∀ (i : Nat) (v : Value), (∃ k x, es[i]? = some (k, x) ∧ (mixKind X.prog X.w).is k v = true) → ∃ t, v = Value.str (ks.getD i Str.empty) t := by
    rintro i v ⟨k, x, hx, is⟩
    have e1 := congrArg (·[i]?) keys
    simp only [List.getElem?_map, hx] at e1
    cases hi : ks[i]? with
    | none => rw [hi] at e1; cases e1
    | some y =>
      rw [hi] at e1
      cases e1
      obtain ⟨t, ev⟩ := Value.isStrOf_shape (show Value.isStrOf y v = true from is)
      exact ⟨t, by rw [ev, List.getD_eq_getElem?_getD, hi]; rfl⟩
  refine call_min_walk (wpAny_pyIter_dict (knd := mixKind X.prog X.w) sys dat ⟨_, _, _, _, _, _, _, rfl, Walks.dictKeys (knd := mixKind X.prog X.w) (A := X.A.in1) (I.ok.hd calm) _ a (Nat.ne_of_lt less) es ep, ⟨⟨_, Heap.get?_push_size _ rfl, rfl, rfl⟩, dat.keep fun b u e => Heap.get?_push_of_some _ e⟩, fun b hb => ?_, pos, cmp_texts (fun i => ks.getD i Str.empty) texts, fun v g n hv keep => ?_⟩)
  · have big : ∀ o, (s.heap.push o).objs.size = s.heap.objs.size + 1 := fun o => Heap.size_push ..
    refine Nat.lt_of_lt_of_eq ?_ (big _).symm
    rcases List.mem_cons.mp hb with e | e
    · exact e ▸ Nat.lt_succ_self _
    · exact List.mem_singleton.mp e ▸ Nat.lt_succ_of_lt less
  · obtain ⟨t, rfl⟩ := texts _ v hv
    refine ⟨.str _, H, I.kept (t' := n) fun b u e => keep b u (fun m => Nat.ne_of_lt (Heap.lt_size e) (List.mem_singleton.mp m)) (Heap.get?_push_of_some _ e), ⟨t, rfl⟩, q _ ?_⟩
    have in_ : argBest (fun i j => decide ((ks.getD i Str.empty).cps.toList < (ks.getD j Str.empty).cps.toList)) (es.length - 1) < ks.length := by
      have := best_le (fun i j => decide ((ks.getD i Str.empty).cps.toList < (ks.getD j Str.empty).cps.toList)) (es.length - 1)
      omega
    rw [List.getD_eq_getElem?_getD, List.getElem?_eq_getElem in_]
    exact List.getElem_mem in_
section
variable {P : Program} {w : World} {K : PySem.W.Frag} {mg : Str → Option Value} {base : Heap} {C : Addr}
/-- a dict that says a table -/
def DictV (H : Hp) (v : V) (t : Tab) : Prop := ∃ d kvs, v = .ref d ∧ H d = some (.dK kvs) ∧ TabV H kvs t ∧ (namesT t).Nodup ∧ okTab t = true
theorem tab_pos {t : Tab} (h : okTab t = true) : t ≠ [] := fun e => by
  rw [e] at h
  cases h
end
end Tm

/-! Sorted lists are one; the law's walk through the states. -/
namespace Tm
open PySem PySem.Spec PyProof.Rows L2
local macro_rules | `(tactic| walk_at "x") => `(tactic| dsimp only [tNext, tRet, tSeq, tCall, tCB, tC, tCons, tNil, tAsg, tDrop, sFld])
theorem ltc_no {a b : List Nat} : ltCps a b = false ↔ b ≤ a := by
  rw [ltCps_eq, decide_eq_false_iff_not, List.not_lt]
theorem rising_le : ∀ {l : List Str} {p : Str}, risingS p l = true → ∀ x ∈ l, p.cps.toList ≤ x.cps.toList
  | [], _, _, _, hx => nomatch hx
  | y :: r, p, h, x, hx => by
    have h2 : (!ltCps y.cps.toList p.cps.toList && risingS y r) = true := h
    simp only [Bool.and_eq_true, Bool.not_eq_true'] at h2
    have e := ltc_no.mp h2.1
    rcases List.mem_cons.mp hx with z | z
    · exact z ▸ e
    · exact List.le_trans e (rising_le h2.2 x z)
theorem sortedS_tail {x : Str} {l : List Str} (h : sortedS (x :: l) = true) : sortedS l = true := by
  cases l with
  | nil => rfl
  | cons y r =>
    have h2 : (!ltCps y.cps.toList x.cps.toList && risingS y r) = true := h
    simp only [Bool.and_eq_true] at h2
    exact h2.2
theorem sorted_one : ∀ {l m : List Str}, l.Perm m → sortedS l = true → sortedS m = true → l = m
  | [], m, p, _, _ => (List.nil_perm.mp p).symm ▸ rfl
  | x :: r, [], p, _, _ => absurd p.length_eq (by simp)
  | x :: r, y :: s, p, h1, h2 => by
    have e : x = y := by
      rcases List.mem_cons.mp (p.mem_iff.mp List.mem_cons_self) with z | z
      · exact z
      · rcases List.mem_cons.mp (p.mem_iff.mpr List.mem_cons_self) with u | u
        · exact u.symm
        · have a := rising_le (l := s) (p := y) h2 x z
          have b := rising_le (l := r) (p := x) h1 y u
          have c := List.le_antisymm b a
          cases x
          cases y
          congr 1
          exact Array.toList_inj.mp c
    subst e
    rw [sorted_one ((List.perm_cons x).mp p) (sortedS_tail h1) (sortedS_tail h2)]
/-- strictly rising lists of the same members -/
theorem rise_one : ∀ {l m : List Int}, l.Pairwise (· < ·) → m.Pairwise (· < ·) → (∀ k, k ∈ l ↔ k ∈ m) → l = m
  | [], [], _, _, _ => rfl
  | [], y :: s, _, _, h => nomatch (h y).mpr List.mem_cons_self
  | x :: r, [], _, _, h => nomatch (h x).mp List.mem_cons_self
  | x :: r, y :: s, h1, h2, h => by
    obtain ⟨a1, a2⟩ := List.pairwise_cons.mp h1
    obtain ⟨b1, b2⟩ := List.pairwise_cons.mp h2
    have e : x = y := by
      rcases List.mem_cons.mp ((h x).mp List.mem_cons_self) with z | z
      · exact z
      · rcases List.mem_cons.mp ((h y).mpr List.mem_cons_self) with u | u
        · exact u.symm
        · have := b1 x z
          have := a1 y u
          omega
    subst e
    rw [rise_one a2 b2 fun k => ⟨fun hk => ?_, fun hk => ?_⟩]
    · rcases List.mem_cons.mp ((h k).mp (List.mem_cons_of_mem _ hk)) with z | z
      · have := a1 k hk
        omega
      · exact z
    · rcases List.mem_cons.mp ((h k).mpr (List.mem_cons_of_mem _ hk)) with z | z
      · have := b1 k hk
        omega
      · exact z
def toN (r : Row) (h : Nat) : Nat := match r[h]? with
  | some p => p.1.toNat
  | none => 0
/-- found and what lies behind it by one operation, below n, rising -/
def stepN (n : Nat) (r : Row) (met : List Nat) : List Nat := (List.range n).filter fun k => decide (k ∈ met ++ met.map (toN r))
def roundN (t : Tab) (met : List Nat) : List Nat := t.foldl (fun m e => stepN (sizeT t) e.2 m) met
def walkN (t : Tab) (s : Nat) : Nat → List Nat
  | 0 => [s]
  | i + 1 => roundN t (walkN t s i)
theorem step_rise (n : Nat) (r : Row) (met : List Nat) : (iN (stepN n r met)).Pairwise (· < ·) := by
  unfold iN stepN
  rw [List.pairwise_map]
  exact List.Pairwise.imp (fun h => by omega) (List.Pairwise.filter _ List.pairwise_lt_range)
theorem step_few (n : Nat) (r : Row) (met : List Nat) : (stepN n r met).length ≤ n ∧ ∀ k ∈ stepN n r met, k < n := by
  refine ⟨?_, fun k hk => List.mem_range.mp (List.mem_filter.mp hk).1⟩
  have := List.length_filter_le (fun k => decide (k ∈ met ++ met.map (toN r))) (List.range n)
  rw [List.length_range] at this
  exact this
/-- what sorted(set(..)) gives is that -/
theorem step_is {n : Nat} {r : Row} {met : List Nat} {ns : List Int} (up : ns.Pairwise (· < ·)) (h : ∀ k, k ∈ ns ↔ k ∈ iN (met ++ met.map (toN r))) (hm : ∀ x ∈ met ++ met.map (toN r), x < n) : ns = iN (stepN n r met) := by
  refine rise_one up (step_rise n r met) fun k => ?_
  rw [h k]
  unfold iN stepN
  simp only [List.mem_map, List.mem_filter, List.mem_range, decide_eq_true_eq]
  exact ⟨fun ⟨x, hx, e⟩ => ⟨x, ⟨hm x hx, hx⟩, e⟩, fun ⟨x, hx, e⟩ => ⟨x, hx.2, e⟩⟩
theorem natV_map (l : List Nat) (f : Nat → Nat) : (l.map f).map (fun n : Nat => V.int (n : Int)) = natV (l.map f) := rfl
def partN (t : Tab) (m : List Nat) (k : Nat) : List Nat := (t.take k).foldl (fun m e => stepN (sizeT t) e.2 m) m
theorem part_next {t : Tab} {m : List Nat} {k : Nat} {e : Str × Row} (h : t[k]? = some e) : partN t m (k + 1) = stepN (sizeT t) e.2 (partN t m k) := by
  unfold partN
  rw [take_one h, List.foldl_append]
  rfl
theorem part_all (t : Tab) (m : List Nat) : partN t m t.length = roundN t m := by
  unfold partN roundN
  rw [List.take_length]
theorem DictV.keep {H H' : Hp} {v : V} {t : Tab} (h : DictV H v t) (e : Same H H') : DictV H' v t := by
  obtain ⟨d, kvs, e1, e2, e3, e4⟩ := h
  exact ⟨d, kvs, e1, e _ _ e2, e3.mono (tups_of e), e4⟩
section
variable {P : Program} {w : World} {K : PySem.W.Frag} {mg : Str → Option Value} {base : Heap} {C : Addr}
end
end Tm

/-! Done and gone. -/
namespace Tm
open PySem PySem.Spec PyProof.Rows L2
local macro_rules | `(tactic| walk_at "x") => `(tactic| dsimp only [tNext, tRet, tSeq, tCall, tCB, tC, tCons, tNil, tAsg, tDrop, sFld])
/-- one operation more: the state, what was told -/
def stepG (t : Tab) (st : Nat × List Int) (x : Str) : Nat × List Int := match t.find? fun e => decide (e.1 = x) with
  | some e => match e.2[st.1]? with
    | some p => (p.1.toNat, st.2 ++ [p.2])
    | none => st
  | none => st
def goneN (t : Tab) (s : Nat) (ns : List Str) : Nat × List Int := ns.foldl (stepG t) (s, [])
theorem gone_next {t : Tab} {s i : Nat} {ns : List Str} {x : Str} (h : ns[i]? = some x) : goneN t s (ns.take (i + 1)) = stepG t (goneN t s (ns.take i)) x := by
  unfold goneN
  rw [take_one h, List.foldl_append]
  rfl
theorem step_at {t : Tab} (ok : okTab t = true) {x : Str} (hx : x ∈ namesT t) {s : Nat} (hs : s < sizeT t) (told : List Int) :
    ∃ (r : Row) (p : Int × Int), (x, r) ∈ t ∧ r[s]? = some p ∧ stepG t (s, told) x = (p.1.toNat, told ++ [p.2]) ∧ 0 ≤ p.1 ∧ p.1.toNat < sizeT t := by
  obtain ⟨e0, h0, ee⟩ := List.mem_map.mp hx
  cases hf : t.find? fun e => decide (e.1 = x) with
  | none => exact absurd (decide_eq_true ee) (by simpa using List.find?_eq_none.mp hf e0 h0)
  | some e =>
    have hm := List.mem_of_find?_eq_some hf
    have e1 : e.1 = x := of_decide_eq_true (List.find?_some (p := fun e : Str × Row => decide (e.1 = x)) hf)
    obtain ⟨p, hp, p0, p1⟩ := next_ok ok hm hs
    refine ⟨e.2, p, by rw [← e1]; exact hm, hp, ?_, p0, by omega⟩
    unfold stepG
    rw [hf]
    dsimp only
    rw [hp]
section
variable {P : Program} {w : World} {K : PySem.W.Frag} {mg : Str → Option Value} {base : Heap} {C : Addr}
/-- [state, told] -/
def EndV (H : Hp) (v : V) (g : Nat × List Int) : Prop := ∃ p l, v = .ref p ∧ H p = some (.lst [.int (g.1 : Int), .ref l]) ∧ H l = some (.lst (g.2.map V.int))
theorem KindV.keep {H H' : Hp} {v : V} {t : Tab} (h : KindV C H v t) (e : Same H H') : KindV C H' v t := by
  obtain ⟨a, dx, d, kvs, e1, e2, e3, e4, e5⟩ := h
  exact ⟨a, dx, d, kvs, e1, e _ _ e2, e _ _ e3, e4.mono (tups_of e), e5⟩
/-! ### a choice of a list -/
def sp_pick : Sp := fun vs H Q _ => ∃ (l a : Addr) (xs : List V), vs = [.ref l, .ref a] ∧ VatV H l ∧ H a = some (.lst xs) ∧ a ≠ l ∧ 0 < xs.length ∧ xs.length ≤ 1000 ∧ ∀ v H', v ∈ xs → KL l H H' → Q v H'
end
end Tm

/-! What is reached: the loop of reached and the rounds of _law_states_from give the same, for any table. -/
namespace Tm
open PySem PySem.Spec PyProof.Rows L2
/-- closed under all operations -/
def ClosedN (t : Tab) (S : Nat → Prop) : Prop := ∀ x, S x → ∀ e ∈ t, S (toN e.2 x)
inductive ReachN (t : Tab) (s : Nat) : Nat → Prop where
  | start : ReachN t s s
  | step {x : Nat} (e : Str × Row) (h : ReachN t s x) (he : e ∈ t) : ReachN t s (toN e.2 x)
theorem reach_least {t : Tab} {s : Nat} {S : Nat → Prop} (h0 : S s) (hc : ClosedN t S) : ∀ x, ReachN t s x → S x := fun x h => by
  induction h with
  | start => exact h0
  | step e _ he ih => exact hc _ ih e he
theorem next_mem {t : Tab} {x y : Nat} : y ∈ nextN t x ↔ ∃ e ∈ t, y = toN e.2 x := by
  unfold nextN toN
  rw [List.mem_map]
  constructor
  · rintro ⟨e, he, rfl⟩
    exact ⟨e, he, rfl⟩
  · rintro ⟨e, he, rfl⟩
    exact ⟨e, he, rfl⟩
theorem toN_lt {t : Tab} (ok : okTab t = true) {e : Str × Row} (he : e ∈ t) {x : Nat} (hx : x < sizeT t) : toN e.2 x < sizeT t := by
  obtain ⟨p, hp, p0, p1⟩ := next_ok ok he hx
  unfold toN
  rw [hp]
  show p.1.toNat < sizeT t
  omega
/-! ### the loop -/
theorem runR_end {t : Tab} (ok : okTab t = true) {s : Nat} : ∀ (n : Nat) (met w : List Nat), w.length + 6 * (sizeT t - met.length) ≤ n → met.Nodup → (∀ x ∈ met, x < sizeT t) → (∀ x ∈ w, x < sizeT t) →
    (∀ x ∈ met, ReachN t s x) → (∀ x ∈ w, ReachN t s x) → (∀ x ∈ met, ∀ e ∈ t, toN e.2 x ∈ met ∨ toN e.2 x ∈ w) → (s ∈ met ∨ s ∈ w) →
    ∃ out, runR t n met w = some out ∧ out.Nodup ∧ (∀ x, x ∈ out ↔ ReachN t s x) ∧ out.length ≤ sizeT t := by
  have hk : t.length ≤ 6 := by
    have := ok
    unfold okTab at this
    simp only [Bool.and_eq_true, decide_eq_true_eq] at this
    exact this.1.1.1.2
  have few : ∀ met : List Nat, met.Nodup → (∀ x ∈ met, x < sizeT t) → met.length ≤ sizeT t := fun met nd h => by
    have := List.Nodup.length_le_of_subset nd (l₂ := List.range (sizeT t)) fun x hx => List.mem_range.mpr (h x hx)
    rwa [List.length_range] at this
  have done : ∀ met : List Nat, met.Nodup → (∀ x ∈ met, x < sizeT t) → (∀ x ∈ met, ReachN t s x) → (∀ x ∈ met, ∀ e ∈ t, toN e.2 x ∈ met ∨ toN e.2 x ∈ ([] : List Nat)) → (s ∈ met ∨ s ∈ ([] : List Nat)) →
      met.Nodup ∧ (∀ x, x ∈ met ↔ ReachN t s x) ∧ met.length ≤ sizeT t := fun met nd h1 h2 h3 h4 => by
    refine ⟨nd, fun x => ⟨h2 x, fun hx => ?_⟩, few met nd h1⟩
    refine reach_least (S := fun x => x ∈ met) (h4.elim id fun z => absurd z (by simp)) (fun y hy e he => (h3 y hy e he).elim id fun z => absurd z (by simp)) x hx
  intro n
  induction n with
  | zero =>
    intro met w hn nd m1 w1 m2 w2 cl st
    have hw : w = [] := by
      cases w with
      | nil => rfl
      | cons a b => simp at hn
    subst hw
    exact ⟨met, rfl, done met nd m1 m2 cl st⟩
  | succ n ih =>
    intro met w hn nd m1 w1 m2 w2 cl st
    cases hl : w.getLast? with
    | none =>
      have hw : w = [] := List.getLast?_eq_none_iff.mp hl
      subst hw
      refine ⟨met, ?_, done met nd m1 m2 cl st⟩
      unfold runR
      rfl
    | some h =>
      obtain ⟨w', hw⟩ : ∃ w', w = w' ++ [h] := by
        have := List.getLast?_eq_some_iff.mp hl
        exact this
      subst hw
      have e1 : runR t (n + 1) met (w' ++ [h]) = if h ∈ met then runR t n met w' else runR t n (met ++ [h]) (w' ++ nextN t h) := by
        rw [runR, hl]
        simp
      rw [e1]
      have hh := w1 h (by simp)
      by_cases hm : h ∈ met
      · rw [if_pos hm]
        refine ih met w' (by rw [List.length_append] at hn; simp at hn; omega) nd m1 (fun x hx => w1 x (by simp [hx])) m2 (fun x hx => w2 x (by simp [hx])) (fun x hx e he => ?_) ?_
        · rcases cl x hx e he with z | z
          · exact .inl z
          · rcases List.mem_append.mp z with z | z
            · exact .inr z
            · rw [List.mem_singleton.mp z]
              exact .inl hm
        · rcases st with z | z
          · exact .inl z
          · rcases List.mem_append.mp z with z | z
            · exact .inr z
            · rw [List.mem_singleton.mp z]
              exact .inl hm
      · rw [if_neg hm]
        have nd' : (met ++ [h]).Nodup := by
          rw [List.nodup_append]
          refine ⟨nd, by simp, fun a ha b hb => ?_⟩
          rw [List.mem_singleton.mp hb]
          intro z
          rw [z] at ha
          exact hm ha
        have m1' : ∀ x ∈ met ++ [h], x < sizeT t := fun x hx => by
          rcases List.mem_append.mp hx with z | z
          · exact m1 x z
          · rw [List.mem_singleton.mp z]
            exact hh
        have l1 := few _ nd' m1'
        have l2 : (nextN t h).length = t.length := by
          unfold nextN
          rw [List.length_map]
        refine ih (met ++ [h]) (w' ++ nextN t h) ?_ nd' m1' (fun x hx => ?_) (fun x hx => ?_) (fun x hx => ?_) (fun x hx e he => ?_) ?_
        · rw [List.length_append, List.length_append, l2]
          rw [List.length_append] at hn l1
          simp at hn l1 ⊢
          omega
        · rcases List.mem_append.mp hx with z | z
          · exact w1 x (by simp [z])
          · obtain ⟨e, he, rfl⟩ := next_mem.mp z
            exact toN_lt ok he hh
        · rcases List.mem_append.mp hx with z | z
          · exact m2 x z
          · rw [List.mem_singleton.mp z]
            exact w2 h (by simp)
        · rcases List.mem_append.mp hx with z | z
          · exact w2 x (by simp [z])
          · obtain ⟨e, he, rfl⟩ := next_mem.mp z
            exact .step e (w2 h (by simp)) he
        · rcases List.mem_append.mp hx with z | z
          · rcases cl x z e he with z2 | z2
            · exact .inl (by simp [z2])
            · rcases List.mem_append.mp z2 with z3 | z3
              · exact .inr (by simp [z3])
              · exact .inl (by simp [List.mem_singleton.mp z3])
          · rw [List.mem_singleton.mp z]
            exact .inr (List.mem_append_right _ (next_mem.mpr ⟨e, he, rfl⟩))
        · rcases st with z | z
          · exact .inl (by simp [z])
          · rcases List.mem_append.mp z with z | z
            · exact .inr (by simp [z])
            · exact .inl (by simp [List.mem_singleton.mp z])
theorem runR_ok {t : Tab} (ok : okTab t = true) {s : Nat} (hs : s < sizeT t) : ∃ out, runR t 100 [] [s] = some out ∧ out.Nodup ∧ (∀ x, x ∈ out ↔ ReachN t s x) ∧ out.length ≤ sizeT t := by
  have h12 : sizeT t ≤ 12 := by
    have := ok
    unfold okTab at this
    simp only [Bool.and_eq_true, decide_eq_true_eq] at this
    exact this.1.2
  exact runR_end ok 100 [] [s] (by show 1 + 6 * (sizeT t - 0) ≤ 100; omega) .nil (fun _ h => nomatch h) (fun x hx => by rw [List.mem_singleton.mp hx]; exact hs) (fun _ h => nomatch h) (fun x hx => by rw [List.mem_singleton.mp hx]; exact .start) (fun _ h => nomatch h) (.inr List.mem_cons_self)
/-! ### the rounds -/
theorem step_has {n k : Nat} {r : Row} {m : List Nat} : k ∈ stepN n r m ↔ k < n ∧ (k ∈ m ∨ ∃ x ∈ m, toN r x = k) := by
  unfold stepN
  rw [List.mem_filter, List.mem_range, decide_eq_true_eq, List.mem_append, List.mem_map]
theorem fold_keep {n k : Nat} (hk : k < n) : ∀ (es : List (Str × Row)) (m : List Nat), k ∈ m → k ∈ es.foldl (fun m e => stepN n e.2 m) m
  | [], _, h => h
  | e :: es, m, h => fold_keep hk es _ (step_has.mpr ⟨hk, .inl h⟩)
theorem fold_add {n x : Nat} (hx : x < n) : ∀ (es : List (Str × Row)) (m : List Nat), x ∈ m → ∀ e ∈ es, toN e.2 x < n → toN e.2 x ∈ es.foldl (fun m e => stepN n e.2 m) m
  | [], _, _, e, he, _ => nomatch he
  | d :: es, m, h, e, he, hn => by
    rcases List.mem_cons.mp he with z | z
    · rw [z] at hn ⊢
      exact fold_keep hn es _ (step_has.mpr ⟨hn, .inr ⟨x, h, rfl⟩⟩)
    · exact fold_add hx es _ (step_has.mpr ⟨hx, .inl h⟩) e z hn
theorem fold_only {t : Tab} {s n : Nat} : ∀ (es : List (Str × Row)) (m : List Nat), (∀ e ∈ es, e ∈ t) → (∀ x ∈ m, ReachN t s x) → ∀ x ∈ es.foldl (fun m e => stepN n e.2 m) m, ReachN t s x
  | [], _, _, h => h
  | e :: es, m, ht, h => fold_only es _ (fun d hd => ht d (by simp [hd])) fun x hx => by
    rcases (step_has.mp hx).2 with z | ⟨y, hy, rfl⟩
    · exact h x z
    · exact .step e (h y hy) (ht e (by simp))
theorem fold_nice {n : Nat} : ∀ (es : List (Str × Row)) (m : List Nat), m.Nodup → (∀ x ∈ m, x < n) → (es.foldl (fun m e => stepN n e.2 m) m).Nodup ∧ ∀ x ∈ es.foldl (fun m e => stepN n e.2 m) m, x < n
  | [], _, nd, h => ⟨nd, h⟩
  | e :: es, m, _, _ => fold_nice es _ (List.Pairwise.filter _ List.nodup_range) fun x hx => (step_has.mp hx).1
theorem sub_back {A B : List Nat} (nA : A.Nodup) (h : ∀ x ∈ A, x ∈ B) (hl : B.length ≤ A.length) (nB : B.Nodup) : ∀ x ∈ B, x ∈ A := fun x hx => by
  by_cases hA : x ∈ A
  · exact hA
  · have := List.Nodup.length_le_of_subset (l₁ := x :: A) (l₂ := B) (List.nodup_cons.mpr ⟨hA, nA⟩) fun y hy => by
      rcases List.mem_cons.mp hy with z | z
      · rw [z]
        exact hx
      · exact h y z
    rw [List.length_cons] at this
    omega
theorem walk_facts {t : Tab} {s : Nat} (hs : s < sizeT t) : ∀ i, (walkN t s i).Nodup ∧ (∀ x ∈ walkN t s i, x < sizeT t) ∧ (∀ x ∈ walkN t s i, ReachN t s x) ∧ s ∈ walkN t s i
  | 0 => ⟨by simp [walkN], fun x hx => by rw [List.mem_singleton.mp hx]; exact hs, fun x hx => by rw [List.mem_singleton.mp hx]; exact .start, List.mem_cons_self⟩
  | i + 1 => by
    obtain ⟨h1, h2, h3, h4⟩ := walk_facts hs i
    obtain ⟨g1, g2⟩ := fold_nice (n := sizeT t) t _ h1 h2
    exact ⟨g1, g2, fold_only t _ (fun _ h => h) h3, fold_keep hs t _ h4⟩
theorem walk_grows {t : Tab} (ok : okTab t = true) {s : Nat} (hs : s < sizeT t) : ∀ i, (∃ j, j ≤ i ∧ ClosedN t fun x => x ∈ walkN t s j) ∨ i + 1 ≤ (walkN t s i).length
  | 0 => .inr (Nat.le_refl _)
  | i + 1 => by
    rcases walk_grows ok hs i with ⟨j, hj, c⟩ | h
    · exact .inl ⟨j, by omega, c⟩
    · obtain ⟨h1, h2, h3, h4⟩ := walk_facts hs i
      obtain ⟨g1, g2, g3, g4⟩ := walk_facts hs (i + 1)
      have up : ∀ x ∈ walkN t s i, x ∈ walkN t s (i + 1) := fun x hx => fold_keep (h2 x hx) t _ hx
      by_cases hl : (walkN t s (i + 1)).length ≤ (walkN t s i).length
      · refine .inl ⟨i, by omega, fun x hx e he => ?_⟩
        exact sub_back h1 up hl g1 _ (fold_add (h2 x hx) t _ hx e he (toN_lt ok he (h2 x hx)))
      · exact .inr (by omega)
theorem walk_all {t : Tab} (ok : okTab t = true) {s : Nat} (hs : s < sizeT t) : ∀ x, x ∈ walkN t s (sizeT t) ↔ ReachN t s x := by
  obtain ⟨h1, h2, h3, h4⟩ := walk_facts hs (sizeT t)
  have few : (walkN t s (sizeT t)).length ≤ sizeT t := by
    have := List.Nodup.length_le_of_subset h1 (l₂ := List.range (sizeT t)) fun x hx => List.mem_range.mpr (h2 x hx)
    rwa [List.length_range] at this
  have later : ∀ j d, ∀ x ∈ walkN t s j, x ∈ walkN t s (j + d) := fun j d => by
    induction d with
    | zero => exact fun x hx => hx
    | succ d ih => exact fun x hx => fold_keep ((walk_facts hs (j + d)).2.1 x (ih x hx)) t _ (ih x hx)
  intro x
  refine ⟨h3 x, fun hx => ?_⟩
  rcases walk_grows ok hs (sizeT t) with ⟨j, hj, c⟩ | h
  · have := reach_least (S := fun x => x ∈ walkN t s j) (walk_facts hs j).2.2.2 c x hx
    have := later j (sizeT t - j) x this
    rwa [show j + (sizeT t - j) = sizeT t by omega] at this
  · omega
theorem walk_up {t : Tab} (ok : okTab t = true) {s : Nat} (hs : s < sizeT t) : (iN (walkN t s (sizeT t))).Pairwise (· < ·) := by
  have h1 : 1 ≤ sizeT t := by omega
  obtain ⟨k, hk⟩ : ∃ k, sizeT t = k + 1 := ⟨sizeT t - 1, by omega⟩
  have ht : t ≠ [] := fun z => by
    rw [z] at h1
    simp [sizeT] at h1
  rw [hk]
  have : ∀ (es : List (Str × Row)) (m : List Nat) (n : Nat), es ≠ [] → (iN (es.foldl (fun m e => stepN n e.2 m) m)).Pairwise (· < ·) := by
    intro es
    induction es with
    | nil => exact fun _ _ z => absurd rfl z
    | cons e es ih =>
      intro m n _
      cases es with
      | nil => exact step_rise n e.2 m
      | cons d es => exact ih _ n (by simp)
  exact this t _ _ ht
/-- what reached tells is what the rounds give -/
theorem reached_is {t : Tab} (ok : okTab t = true) {s : Nat} (hs : s < sizeT t) {out : List Nat} (nd : out.Nodup) (h : ∀ x, x ∈ out ↔ ReachN t s x) {ns : List Int} (p : ns.Perm (iN out)) (up : ns.Pairwise (· ≤ ·)) : ns = iN (walkN t s (sizeT t)) := by
  have nn : ns.Nodup := by
    refine p.symm.nodup ?_
    unfold iN
    exact List.pairwise_map.mpr (nd.imp fun h e => h (by omega))
  have up2 : ns.Pairwise (· < ·) := by
    refine (up.and nn).imp ?_
    intro a b ⟨h1, h2⟩
    omega
  refine rise_one up2 (walk_up ok hs) fun k => ?_
  rw [p.mem_iff]
  unfold iN
  rw [List.mem_map, List.mem_map]
  exact ⟨fun ⟨x, hx, e⟩ => ⟨x, (walk_all ok hs x).mpr ((h x).mp hx), e⟩, fun ⟨x, hx, e⟩ => ⟨x, (h x).mpr ((walk_all ok hs x).mp hx), e⟩⟩
end Tm

/-! _law_states_from of a dict in any order. -/
namespace Tm
open PySem PySem.Spec PyProof.Rows L2
local macro_rules | `(tactic| walk_at "x") => `(tactic| dsimp only [tNext, tRet, tSeq, tCall, tCB, tC, tCons, tNil, tAsg, tDrop, sFld])
section
variable {P : Program} {w : World} {K : PySem.W.Frag} {mg : Str → Option Value} {base : Heap} {C : Addr}
def sp_statesG : Sp := fun vs H Q _ => ∃ (v : V) (t u : Tab) (s : Nat), vs = [v, .int (s : Int)] ∧ DictV H v t ∧ u.Perm t ∧ sortedS (namesT u) = true ∧ s < sizeT t ∧ ∀ p H', Same H H' → H' p = some (.tup (natV (walkN u s (sizeT u)))) → Q (.ref p) H'
end
end Tm

/-! _law_choices: some items of a list, in a drawn order. -/
namespace Tm
open PySem PySem.Spec PyProof.Rows L2
local macro_rules | `(tactic| walk_at "x") => `(tactic| dsimp only [tNext, tRet, tSeq, tCall, tCB, tC, tCons, tNil, tAsg, tDrop, sFld])
theorem erase_perm {α : Type} : ∀ {l : List α} {i : Nat} (h : i < l.length), (l[i] :: l.eraseIdx i).Perm l
  | a :: l, 0, _ => .refl _
  | a :: l, i + 1, h => (List.Perm.swap a (l[i]'(by simpa using h)) (l.eraseIdx i)).trans (.cons a (erase_perm (by simpa using h)))
section
variable {P : Program} {w : World} {K : PySem.W.Frag} {mg : Str → Option Value} {base : Heap}
end
end Tm

/-! General: sorted lists are one, tables are one, data; what the fresh dict of items wants. -/
namespace Tm
open PySem PySem.Spec PyProof.Rows L2
theorem tab_one : ∀ {t' t : Tab}, t'.Perm t → namesT t' = namesT t → (namesT t).Nodup → t' = t
  | [], t, p, _, _ => (List.nil_perm.mp p).symm ▸ rfl
  | x :: r, [], p, _, _ => absurd p.length_eq (by simp)
  | x :: r, y :: s, p, e, nd => by
    have e1 : x.1 = y.1 ∧ namesT r = namesT s := by
      have e2 : x.1 :: namesT r = y.1 :: namesT s := e
      exact List.cons.inj e2
    have nd2 : y.1 ∉ namesT s ∧ (namesT s).Nodup := List.nodup_cons.mp nd
    have exy : x = y := by
      rcases List.mem_cons.mp (p.mem_iff.mp List.mem_cons_self) with z | z
      · exact z
      · exact absurd (e1.1 ▸ List.mem_map.mpr ⟨x, z, rfl⟩) nd2.1
    subst exy
    rw [tab_one ((List.perm_cons x).mp p) e1.2 nd2.2]
theorem tab_same {t' t : Tab} (p : t'.Perm t) (s1 : sortedS (namesT t') = true) (s2 : sortedS (namesT t) = true) (nd : (namesT t).Nodup) : t' = t := tab_one p (sorted_one (p.map _) s1 s2) nd
abbrev goodT (t : Tab) : Prop := sortedS (namesT t) = true ∧ (namesT t).Nodup
theorem can_all : ∀ {ds : List PyData}, (∀ d ∈ ds, PyData.canLay0 d = true) → PyData.canLayAll0 ds = true
  | [], _ => rfl
  | d :: r, h => by
    show (PyData.canLay0 d && PyData.canLayAll0 r) = true
    rw [h d List.mem_cons_self, can_all fun x hx => h x (List.mem_cons_of_mem _ hx)]
    rfl
theorem depth_all {n : Nat} : ∀ {ds : List PyData}, (∀ d ∈ ds, PyData.depth d ≤ n) → PyData.depthAll ds ≤ n
  | [], _ => Nat.zero_le _
  | d :: r, h => Nat.max_le.mpr ⟨h d List.mem_cons_self, depth_all fun x hx => h x (List.mem_cons_of_mem _ hx)⟩
theorem eqv_all : ∀ {ds : List PyData}, (∀ d ∈ ds, PyData.eqv d d = true) → PyData.eqvAll ds ds = true
  | [], _ => rfl
  | d :: r, h => by
    show (PyData.eqv d d && PyData.eqvAll r r) = true
    rw [h d List.mem_cons_self, eqv_all fun x hx => h x (List.mem_cons_of_mem _ hx)]
    rfl
structure Nice (n : Nat) (d : PyData) : Prop where
  can : PyData.canLay0 d = true
  deep : PyData.depth d ≤ n
  eqv : PyData.eqv d d = true
theorem Nice.shaped {n : Nat} {d : PyData} (h : Nice n d) (hn : n ≤ 64) : SeqAt.shaped d = true := by
  unfold SeqAt.shaped
  rw [h.can, decide_eq_true (Nat.le_trans h.deep hn)]
  rfl
theorem Nice.list {n : Nat} {ds : List PyData} (h : ∀ d ∈ ds, Nice n d) : Nice (n + 1) (.list ds) :=
  ⟨can_all fun d hd => (h d hd).can, Nat.succ_le_succ (depth_all fun d hd => (h d hd).deep), eqv_all fun d hd => (h d hd).eqv⟩
theorem Nice.tuple {n : Nat} {ds : List PyData} (h : ∀ d ∈ ds, Nice n d) : Nice (n + 1) (.tuple ds) :=
  ⟨can_all fun d hd => (h d hd).can, Nat.succ_le_succ (depth_all fun d hd => (h d hd).deep), eqv_all fun d hd => (h d hd).eqv⟩
theorem nice_int (i : Int) : Nice 0 (.int i) := ⟨rfl, Nat.le_refl _, beq_self_eq_true i⟩
theorem nice_str {x : Str} (h : PyData.strOk x = true) : Nice 0 (.str x) := ⟨h, Nat.le_refl _, beq_self_eq_true x⟩
theorem nice_strs {xs : List Str} (h : xs.all PyData.strOk = true) : Nice 1 (.list (xs.map .str)) := .list fun d hd => by
  obtain ⟨x, hx, rfl⟩ := List.mem_map.mp hd
  exact nice_str (List.all_eq_true.mp h x hx)
theorem nice_ints (xs : List Int) : Nice 1 (.tuple (xs.map .int)) := .tuple fun d hd => by
  obtain ⟨x, _, rfl⟩ := List.mem_map.mp hd
  exact nice_int x
theorem nice_tups (xs : List (List Int)) : Nice 2 (.list (xs.map fun l => .tuple (l.map .int))) := .list fun d hd => by
  obtain ⟨x, _, rfl⟩ := List.mem_map.mp hd
  exact nice_ints x
section
variable {K : PySem.W.Frag} {H : Hp}
theorem dp_strs : ∀ xs : List Str, DpAll K H (xs.map V.str) (xs.map PyData.str)
  | [] => .nil
  | x :: r => .cons (.str x) (dp_strs r)
theorem dp_ints : ∀ xs : List Int, DpAll K H (xs.map V.int) (xs.map PyData.int)
  | [] => .nil
  | x :: r => .cons (.int x) (dp_ints r)
theorem dp_tups : ∀ {vs : List V} {ls : List (List Int)}, Paired (fun v l => ∃ a, v = .ref a ∧ SqT K H a (l.map V.int)) vs ls → DpAll K H vs (ls.map fun l => .tuple (l.map .int))
  | _, _, .nil => .nil
  | _, _, .cons ⟨a, e, h⟩ t => by
    subst e
    exact .cons (.tup h (dp_ints _)) (dp_tups t)
theorem dp_rowL {p : Addr} {vs : List V} {r : Row} (h : SqL K H p vs) (hp : Paired (PairV H) vs r) : Dp K H (.ref p) (.list (r.map pD)) := .lst h (dp_pairs hp)
end
theorem nice_pairs (r : Row) : Nice 2 (.list (r.map pD)) := .list fun d hd => by
  obtain ⟨x, _, rfl⟩ := List.mem_map.mp hd
  exact .tuple fun d hd => by
    rcases List.mem_cons.mp hd with e | e
    · rw [e]; exact nice_int _
    · rw [List.mem_singleton.mp e]; exact nice_int _
theorem row_range (r : Row) : (List.range r.length).map (fun s => r.getD s (0, 0)) = r := by
  refine List.ext_getElem? fun i => ?_
  rw [List.getElem?_map]
  by_cases h : i < r.length
  · rw [List.getElem?_range h, Option.map_some, List.getD_eq_getElem?_getD, List.getElem?_eq_getElem h]
    rfl
  · rw [List.getElem?_eq_none (by rw [List.length_range]; omega), List.getElem?_eq_none (by omega)]
    rfl
theorem lc_pairs {K : PySem.W.Frag} {σ : L2.St} {H : Hp} {Q : VK} {j k : Nat} {te : TE} {vs : List Nat} {tl : TE} {rs : List V} {r : Row} (hl : Ev tl σ H fun v H1 => ∃ a, v = .ref a ∧ SqT K H1 a rs) (hrs : Paired (PairV H) rs r) (hz : r.length ≤ 100000)
    (hw : ∀ x y, wipe (((wipe σ vs).set j (some x)).set k (some y)) vs = wipe σ vs) (R : Int × Int → V → Hp → Prop) (hR : ∀ z v H H', TupS H H' → R z v H → R z v H')
    (he : ∀ z H3, z ∈ r → Same H H3 → Ev te (((wipe σ vs).set j (some (.int z.1))).set k (some (.int z.2))) H3 (R z))
    (hq : ∀ p H1 ys, Same H H1 → H1 p = some (.lst ys) → Paired (fun v z => R z v H1) ys r → Q (.ref p) H1) : tLc (iTup K tl) (gTup K 2 (gCons (gName j) (gCons (gName k) gNil))) tYes te vs σ H Q := by
  refine hl _ fun v H1 e h => ?_
  obtain ⟨a, ea, hs'⟩ := h
  have hlen := Paired.length hrs
  refine ⟨a, ea, ⟨rs, hs'⟩, lc_go (Q := Q) (walk_tup) r (fun _ => true) R hlen.symm (by omega) hR (fun H2 e2 => same_seqT e2 hs') (fun i z x H2 H' hz e2 y Qg qg => ?_) (fun p H2 ys hp e2 hl hP => hq p H2 ys (e.trans e2) hl (by rw [filter_all] at hP; exact hP))⟩
  obtain ⟨rfl, y⟩ := y
  obtain ⟨z', hz', hpz⟩ := paired_ix2 hrs y
  obtain rfl : z' = z := by rw [hz] at hz'; exact (Option.some.inj hz').symm
  obtain ⟨pc, rfl, hpc⟩ := hpz.mono (tups_of (e.trans e2))
  refine ⟨pc, _, rfl, SqT.of hpc, rfl, _, _, rfl, ?_⟩
  dsimp only [gName]
  refine ⟨_, _, rfl, ?_⟩
  dsimp only [gName]
  refine ⟨rfl, ?_⟩
  exact qg _ _ (hw _ _) (Same.refl _) evt_yes fun _ H3 e3 => he _ H3 (List.mem_of_getElem? hz) ((e.trans e2).trans e3)
theorem paired_fun {α : Type} {f : α → V} : ∀ {ys : List V} {zs : List α}, Paired (fun v z => v = f z) ys zs → ys = zs.map f
  | _, _, .nil => rfl
  | _, _, .cons h t => by rw [h, paired_fun t]; rfl
theorem dp_nil {K : PySem.W.Frag} {H : Hp} {p : Addr} (h : H p = some (.lst [])) : Dp K H (.ref p) (.list []) := .lst (SqL.of h) .nil
theorem same_self (t : Tab) : sameT t t = true := by
  unfold sameT
  rw [decide_eq_true rfl, Bool.true_and, List.all_eq_true]
  exact fun e he => decide_eq_true he
theorem same_perm {t u : Tab} (p : t.Perm u) : sameT u t = true := by
  unfold sameT
  rw [decide_eq_true p.length_eq.symm, Bool.true_and, List.all_eq_true]
  exact fun e he => decide_eq_true (p.mem_iff.mpr he)
theorem same_seqL {K : PySem.W.Frag} {H H' : Hp} {a : Addr} {xs : List V} (e : Same H H') (h : SqL K H a xs) : SqL K H' a xs := by
  rcases h with (h | ⟨o, h⟩) | h
  · exact .inl (.inl (e _ _ h))
  · exact .inl (.inr ⟨o, e _ _ h⟩)
  · exact .inr h
theorem paired_mem {α β : Type} {F : α → β → Prop} : ∀ {xs : List α} {zs : List β}, Paired F xs zs → ∀ x ∈ xs, ∃ z ∈ zs, F x z
  | _, _, .nil, _, h => nomatch h
  | _, _, .cons h t, x, hx => by
    rcases List.mem_cons.mp hx with e | e
    · exact ⟨_, List.mem_cons_self, e ▸ h⟩
    · obtain ⟨z, hz, f⟩ := paired_mem t x e
      exact ⟨z, List.mem_cons_of_mem _ hz, f⟩
theorem same_kl {l : Addr} {H0 H2 H3 : Hp} (e : Same H0 H2) (hl : H0 l = none) (k : KL l H2 H3) : Same H0 H3 := fun b o hb => k.1 b o (e b o hb) fun z => by rw [z, hl] at hb; cases hb
theorem VatV.keep {H H' : Hp} {l : Addr} (h : VatV H l) (e : Same H H') : VatV H' l := by
  obtain ⟨x, y, z, h⟩ := h
  exact ⟨x, y, z, e _ _ h⟩
theorem nice_up {n m : Nat} {d : PyData} (h : Nice n d) (e : n ≤ m) : Nice m d := ⟨h.can, Nat.le_trans h.deep e, h.eqv⟩
theorem pair_ok : ∀ p : Int × Int, SeqAt.shaped (pD p) = true ∧ PyData.eqv (pD p) (pD p) = true := fun p => ⟨rfl, by rw [eqv_pD]; exact decide_eq_true rfl⟩
theorem g_flag : goodT flagT := by decide +kernel
section
variable {σ : L2.St} {H : Hp} {C : Addr} {te te1 te2 : TE} {t t1 t2 : Tab} {E : XK}
theorem ev_made {n lo hi : Nat} {T : Nat → Tab} (h : lo ≤ n ∧ n ≤ hi) (good : goodT (T n)) : Ev (tCall (sp_made C lo hi T) [] E (tCons (tC (.int (n : Int))) tNil)) σ H fun v H1 => KindV C H1 v (T n) := fun Q q => by
  refine ⟨n, rfl, h.1, h.2, fun k H1 t' e1 hk pm => ?_⟩
  have et : t' = T n := by
    obtain ⟨_, _, _, _, _, _, _, _, _, _, st⟩ := id hk
    exact tab_same pm st good.1 good.2
  subst et
  exact q _ _ e1 hk
theorem ev_eqK {neg : Bool} (h1 : Ev te1 σ H fun v H1 => KindV C H1 v t1) (h2 : ∀ H1, Same H H1 → Ev te2 σ H1 fun v H2 => KindV C H2 v t2) : Ev (tOp (rEqO C (sp_keq C) neg) te1 te2) σ H fun v _ => v = .bl (if neg then !sameT t1 t2 else sameT t1 t2) := fun Q q =>
  h1 _ fun v1 H1 e1 k1 => h2 H1 e1 _ fun v2 H2 e2 k2 => by
    have k1' := k1.keep e2
    obtain ⟨a, dx, d, kvs, rfl, ha, _⟩ := id k1'
    obtain ⟨b, dy, d2, kvs2, rfl, hb, _⟩ := id k2
    exact ⟨a, b, dx, dy, _, _, rfl, rfl, ha, hb, _, _, _, _, rfl, k1', k2, _, rfl, q _ _ (e1.trans e2) rfl⟩
theorem ev_opsrow {x : Str} {r : Row} (h : Ev te σ H fun v H1 => KindV C H1 v t) (hm : (x, r) ∈ t) (nd : (namesT t).Nodup) : Ev (tDGet (tProp C (sp_ops C) [] E te) (tC (.str x))) σ H fun v H1 => RowV H1 v r := fun Q q =>
  h _ fun v H1 e1 k1 => by
    obtain ⟨a, dx, d, kvs, rfl, ha, _⟩ := id k1
    refine ⟨a, dx, _, rfl, ha, .ref a, t, rfl, k1, fun p kv hp ht => ?_⟩
    have e2 := same_new (o := .dK kv) hp
    obtain ⟨rv, hv, hrow⟩ := tab_look ht nd hm
    have hg := DGet.k (k := Sum.inr x) (upd_same (H := H1) (a := p) (o := .dK kv))
    rw [hv] at hg
    exact ⟨p, rv, rfl, hg, q _ _ (e1.trans e2) (hrow.mono (tups_of e2))⟩
theorem ev_names (h : Ev te σ H fun v H1 => KindV C H1 v t) : Ev (tProp C (sp_names C) [] E te) σ H fun v H1 => ∃ p, v = .ref p ∧ H1 p = some (.tup ((namesT t).map V.str)) := fun Q q =>
  h _ fun v H1 e1 k1 => by
    obtain ⟨a, dx, d, kvs, rfl, ha, _⟩ := id k1
    exact ⟨a, dx, _, rfl, ha, .ref a, t, rfl, k1, fun p hp => q _ _ (e1.trans (same_new hp)) ⟨p, rfl, upd_same⟩⟩
theorem ev_after {s : Nat} {x : Str} {r : Row} {p : Int × Int} (h : Ev te σ H fun v H1 => KindV C H1 v t) (hm : (x, r) ∈ t) (hr : r[s]? = some p) : Ev (tMeth C "after" (sp_after C) [] E te (tCons (tC (.int (s : Int))) (tCons (tC (.str x)) tNil))) σ H fun v H1 => PairV H1 v p := fun Q q =>
  h _ fun v H1 e1 k1 => by
    obtain ⟨a, dx, d, kvs, rfl, ha, _⟩ := id k1
    exact ⟨a, dx, _, rfl, ha, kf_no _ _, _, t, s, x, r, p, rfl, k1, hm, hr, fun u hu => q _ _ e1 hu⟩
end
/-! ### a fresh dict that is walked is locked for good -/
def tFrz (t : TE) : TE := fun σ H Q => t σ H fun x H1 => ∃ d u, x = .ref d ∧ H1 d = some u ∧ Mut (some u) ∧ ∀ od, Q x (upd H1 d (.frz od u))
theorem pe_frz {X : Cx} {e : Expr} {t : TE} (h : PE X e t) : PE X e (tFrz t) := by
  refine ⟨fun pins s σ H Q I hw => ?_⟩
  refine thn (h.run pins s σ H _ I hw) fun v s1 ⟨x, H1, I1, r, d, u, ex, hd, mu, q⟩ => ?_
  obtain ⟨od, I2⟩ := I1.lock hd mu
  exact ⟨x, _, I2, r, q od⟩
end Tm

/-! need_kind; Kind.silent, Kind.without. -/
namespace Tm
open PySem PySem.Spec PyProof.Rows L2
local macro_rules | `(tactic| walk_at "x") => `(tactic| dsimp only [tNext, tRet, tSeq, tCall, tCB, tC, tCons, tNil, tAsg, tDrop, sFld])
theorem piT {X : Cx} {K : PySem.W.Frag} {tg e : Expr} {te : TE} (he : PE X e te) (hK : X.K = K := by rfl) : PI X tg e (iTup K te) := by subst hK; exact pi_tup he
theorem piL {X : Cx} {K : PySem.W.Frag} {tg e : Expr} {te : TE} (he : PE X e te) (hK : X.K = K := by rfl) : PI X tg e (iList K te) := by subst hK; exact pi_list he
/-- a dict comprehension over the items of a locked table: a table again -/
theorem dc_tabI {K : PySem.W.Frag} {σ : L2.St} {H : Hp} {Q : VK} {i j : Nat} {tt : TT} {tk tv td : TE} {vs : List Nat} {d : Addr} {o : Obj} {kvs : List (L2.Key × V)} {t : Tab} (hd : Ev td σ H fun v _ => v = .ref d) (hf : H d = some (.frz o (.dK kvs))) (ht : TabV H kvs t)
    (few : t.length ≤ 100000) (b : Str × Row → Bool) (f : Str × Row → Str) (g : Str × Row → Row) (nd : (t.map f).Nodup) (hw : ∀ x y, wipe (((wipe σ vs).set i (some x)).set j (some y)) vs = wipe σ vs)
    (hs : ∀ e v H1, e ∈ t → Same H H1 → RowV H1 v e.2 → EvT tt (((wipe σ vs).set i (some (.str e.1))).set j (some v)) H1 (b e) ∧ (b e = true → Ev tk (((wipe σ vs).set i (some (.str e.1))).set j (some v)) H1 (fun y _ => y = .str (f e))) ∧
      (b e = true → Ev tv (((wipe σ vs).set i (some (.str e.1))).set j (some v)) H1 (fun y H' => RowV H' y (g e))))
    (hq : ∀ p H1 kvs', Same H H1 → H1 p = some (.dK kvs') → TabV H1 kvs' ((t.filter b).map fun e => (f e, g e)) → Q (.ref p) H1) :
    tDc (iItems td) (gTup K 2 (gCons (gName i) (gCons (gName j) gNil))) tt tk tv vs σ H Q := by
  refine dc_runI (K := K) (o := o) (kvs := kvs) hd hf t (Paired.length ht).symm b (fun e => Sum.inr (f e)) (fun e v H => RowV H v (g e)) few ?_ hw (fun z v H H' e h => h.mono e) (fun k z kv H1 hz hk e => ?_) (fun p H1 kvs' hp e hd' hP => ?_)
  · rw [show (t.map fun e => (Sum.inr (f e) : L2.Key)) = (t.map f).map Sum.inr from by rw [List.map_map]; rfl, List.nodup_iff_pairwise_ne, List.pairwise_map]
    exact (List.nodup_iff_pairwise_ne.mp nd).imp fun h z => h (Sum.inr.inj z)
  · obtain ⟨z', hz', hk1, hk2⟩ := paired_ix2 ht hk
    rw [hz] at hz'
    cases hz'
    rw [hk1]
    have hm := List.mem_of_getElem? hz
    exact ⟨(hs z kv.2 H1 hm e (hk2.mono (tups_of e))).1, fun hb H3 e3 => (hs z kv.2 H3 hm (e.trans e3) (hk2.mono (tups_of (e.trans e3)))).2.1 hb, fun hb H3 e3 => (hs z kv.2 H3 hm (e.trans e3) (hk2.mono (tups_of (e.trans e3)))).2.2 hb⟩
  · have ht2 : TabV H1 kvs' ((t.filter b).map fun e => (f e, g e)) := paired_mapR _ hP
    exact hq p H1 kvs' e hd' ht2
section
variable {K : PySem.W.Frag} {σ : L2.St} {H : Hp} {tl te : TE} {vs : List Nat} {j : Nat}
/-- tuple([pair made of pair for pair in row]) -/
theorem ev_mapRow {r : Row} (hl : Ev tl σ H fun v H1 => RowV H1 v r) (hr : r.length ≤ 1000) (hw : ∀ x, wipe ((wipe σ vs).set j (some x)) vs = wipe σ vs) (h : Int × Int → Int × Int)
    (he : ∀ x z H1, z ∈ r → Same H H1 → PairV H1 x z → Ev te ((wipe σ vs).set j (some x)) H1 (fun v H' => PairV H' v (h z))) :
    Ev (tCB (fun xs H Q => ∃ p ys, xs = [.ref p] ∧ ((SqL K H p ys ∧ ∀ l, H l = none → Q (.ref l) (upd H l (.tup ys))) ∨ (SqT K H p ys ∧ Q (.ref p) H))) (tCons (tLc (iTup K tl) (gName j) tYes te vs) tNil)) σ H (fun v H1 => RowV H1 v (r.map h)) := by
  refine ev_rowOf (zs := r) (f := h) fun Q q => ?_
  refine lc_bindT hl fun v H1 e1 hv => ?_
  obtain ⟨a, xs, rfl, ha, hx⟩ := hv
  have hlen := Paired.length hx
  refine lc_runT (K := K) (xs := xs) (fun Q q => q _ _ (Same.refl _) ⟨a, rfl, SqT.of ha⟩) r hlen (fun _ => true) (fun z v H => PairV H v (h z)) (by omega) hw (fun z v H H' e h => h.mono e)
    (fun i z x H2 hz hx' e2 => ⟨evt_yes, fun _ H3 e3 => ?_⟩) (fun p H2 ys hp e2 hl hP => q _ _ (e1.trans e2) ⟨p, ys, rfl, hl, by rw [filter_all] at hP; exact hP⟩)
  obtain ⟨z', hz', hpz⟩ := paired_ix2 hx hx'
  rw [hz] at hz'
  cases hz'
  exact he x z H3 (List.mem_of_getElem? hz) (e1.trans (e2.trans e3)) (hpz.mono (tups_of (e2.trans e3)))
theorem mut_dK {kvs : List (L2.Key × V)} : Mut (some (.dK kvs)) := trivial
end
theorem few_tab {t : Tab} (h : okTab t = true) : t.length ≤ 100000 := by
  unfold okTab at h
  simp only [Bool.and_eq_true, decide_eq_true_eq] at h
  exact Nat.le_trans h.1.1.1.2 (by decide)
theorem few_row {t : Tab} {e : Str × Row} (h : okTab t = true) (he : e ∈ t) : e.2.length ≤ 1000 := by
  rw [size_of_ok h _ he]
  unfold okTab at h
  simp only [Bool.and_eq_true, decide_eq_true_eq] at h
  exact Nat.le_trans h.1.2 (by decide)
theorem lock_ins {H : Hp} {a C dx d : Addr} {fs : List (Str × V)} {od : Obj} {kvs : List (L2.Key × V)} (ha : H a = some (.ins C dx fs)) (hd : H d = some (.dK kvs)) : (upd H d (.frz od (.dK kvs))) a = some (.ins C dx fs) := by
  rw [upd_ne (fun z => by rw [z, hd] at ha; cases ha)]
  exact ha
theorem ev_pick {K : PySem.W.Frag} {σ : L2.St} {H : Hp} {i j : Nat} {x : V} {p : Int × Int} {y : Int} (hi : σ[i]? = some (some x)) (hx : PairV H x p) (hj : [p.1, p.2][j]? = some y) : Ev (tOp (rIxT K) (tVar i) (tC (.int (j : Int)))) σ H fun v _ => v = .int y := fun Q q => by
  obtain ⟨c, rfl, hc⟩ := hx
  refine ⟨_, hi, c, _, _, .int y, rfl, rfl, SqT.of hc, ?_, q _ _ (Same.refl _) rfl⟩
  rcases j with _ | _ | j
  · cases hj
    exact atI_nat (j := 0) rfl
  · cases hj
    exact atI_nat (j := 1) rfl
  · cases hj
theorem unlock {H H1 : Hp} {d p : Addr} {od : Obj} {kvs kvs' : List (L2.Key × V)} {t : Tab} (hd : H d = some (.dK kvs)) (e : Same (upd H d (.frz od (.dK kvs))) H1) (hp : H1 p = some (.dK kvs')) (ht : TabV H1 kvs' t) :
    H1 d = some (.frz od (.dK kvs)) ∧ Same H (upd H1 d (.dK kvs)) ∧ (upd H1 d (.dK kvs)) p = some (.dK kvs') ∧ TabV (upd H1 d (.dK kvs)) kvs' t := by
  have h1 := e _ _ (upd_same (H := H) (a := d))
  refine ⟨h1, lock_out hd e, ?_, ht.mono (tups_upd h1 fun xs z => by cases z)⟩
  rw [upd_ne (fun z => by rw [z, h1] at hp; cases hp)]
  exact hp
def silT (t : Tab) : Tab := t.map fun e => (e.1, e.2.map fun p => (p.1, (0 : Int)))
def cutT (x : Str) (t : Tab) : Tab := t.filter fun e => !decide (e.1 = x)
theorem tab_self (t : Tab) : t.map (fun e => (e.1, e.2)) = t := List.map_id' t
section
variable {P : Program} {w : World} {K : PySem.W.Frag} {mg : Str → Option Value} {base : Heap} {C : Addr}
abbrev s_needkind : Stmt := top 19
theorem sc_need_kind : FnScope ["value"] ["value"] (defScope s_needkind) := ⟨rfl, rfl, rfl, by decide +kernel, rfl, by decide +kernel, by decide +kernel⟩
def sp_needkind (C : Addr) : Sp := fun vs H Q _ => ∃ (v : V) (t : Tab), vs = [v] ∧ KindV C H v t ∧ Q .non H
theorem ok_needkind (B : Bt mg) (T : Kc K C) (TE : KcE K C) (gC : mg "Kind" = some (.ref C)) (D : Df K mg "need_kind" s_needkind ["value"]) : Ok P w K mg base "need_kind" 1 ["value"] (sp_needkind C) := by
  refine D.ok sc_need_kind (fun vs H Q E h => ?_) (fun f cdv A outer s H vs Q E hr h => ?_)
  · obtain ⟨v, t, rfl, _⟩ := h
    rfl
  · obtain ⟨v, t, rfl, ⟨a, dx, d, kvs, rfl, ha, hd, ht, hok, nd, hst⟩, q⟩ := h
    refine ⟨_, pss_one (ps_if (pt_not (pt_val (pe_callB (isiK (K := K)) (by rfl) B.isinstance (by decide +kernel) (pa_cons (pv 0) (pa_cons (pe_glob (v := .ref C) (by rfl) gC rfl) (pa_nil))))))
        (pss_one (ps_never))
        (pss_nil)), ?_⟩
    refine ⟨_, rfl, _, .ref C, _, _, true, rfl, .own C, .base (.ins ha T.cl TE.cla TE.cg TE.ct TE.mr), TE.is_, _, rfl, ?_⟩
    exact ifF rfl q
def sp_kind (C : Addr) (t : Tab) : Hp → VK → Prop := fun H Q => okTab t = true ∧ (namesT t).Nodup ∧ ∀ v' H' t', Same H H' → KindV C H' v' t' → t'.Perm t → Q v' H'
end
end Tm

set_option maxHeartbeats 2000000
/-! {e for x in xs}, e a text; its length. -/
namespace Tm
open PySem PySem.Spec PyProof.Rows L2
/-- one number more -/
def moreK (S : L2.Key → Bool) (c : L2.Key) : L2.Key → Bool := fun j => S j || decide (j = c)
def tSck (P : Program) (w : World) (wi : TI) (g : TG) (tt : TT) (te : TE) (vs : List Nat) : TE := fun σ H Q => wi σ H fun J Hi => ∀ D, Hi D = none → ∃ W : Nat → Nat → Hp → Prop, (∃ m, W 0 m (upd Hi D (SetK P w D (fun _ => false) 0))) ∧
  ∀ i m H, W i m H → (J.stop i H ∧ Q (.ref D) H) ∨ (J.go i H ∧ ∃ Nx : Hp → Prop, (∀ H', Nx H' → ∃ m', m' < m ∧ W (i + 1) m' H') ∧
    ∀ x H', J.yld i H x H' → g x (wipe σ vs) H' fun σ2 H2 => wipe σ2 vs = wipe σ vs ∧ tt σ2 H2 fun b H3 => if b = true then te σ2 H3 fun y H4 => ∃ (c : L2.Key) (S : L2.Key → Bool) (n : Nat), y = kV c ∧ H4 D = some (SetK P w D S n) ∧ n + 1 < scanBound ∧ Nx (upd H4 D (SetK P w D (moreK S c) (if S c = true then n else n + 1))) else Nx H3)
theorem bare_set {P : Program} {w : World} {h : Heap} : (h.push { cls := .type "set", dict := none, data := .set #[] 0 (.fresh 0 0 (!w.params.followText "set-order")) }).SetOf (mixKind P w) h.objs.size (fun _ => false) 0 :=
  ⟨_, #[], 0, _, Heap.get?_push_size _ rfl, ⟨rfl, rfl, rfl⟩, rfl, (fun e he => by simp at he), (fun k => by simp), (by decide), (by rfl), rfl⟩
section
variable {X : Cx}
theorem call_lenK : CallR X (.builtin "len") (fun xs H Q => ∃ (a : Addr) (S : L2.Key → Bool) (n : Nat), xs = [V.ref a] ∧ H a = some (SetK X.prog X.w a S n) ∧ Q (.int (n : Int)) H) := by
  intro pins s σ H xs us Q I r h
  obtain ⟨a, S, n, rfl, ha, q⟩ := h
  rw [Vals.ref1 r]
  obtain ⟨o, es, ep, t, ho, hex, hd, _, _, few, hf, rfl⟩ := setK_get I ha
  refine call_len_set ho hex hd hf ?_ ⟨.int (es.size : Int), H, I.tok _, ⟨_, rfl⟩, q⟩
  have : scanBound = 4096 := rfl
  omega
theorem add_inK {pins : List (Addr × Obj)} {σ : L2.St} {H : Hp} {s : Shared} {E : Value → Shared → Prop} {D : Addr} {S : L2.Key → Bool} {n : Nat} {c : L2.Key} {u0 : Value} {Q : Value → Shared → Prop} (I : Inv X pins σ H s) (ry : RelV (kV c) u0) (at_ : H D = some (SetK X.prog X.w D S n)) (few : n + 1 < scanBound)
    (k : ∀ s2, Inv X pins σ (upd H D (SetK X.prog X.w D (moreK S c) (if S c = true then n else n + 1))) s2 → Q .none s2) : wpAny (model X.prog X.w) X.A (call (.builtin "set.add") [.ref D, u0]) Q E s := by
  refine call_set_add (kV_is ry) (key_scan ry) (setK_get I at_) few fun g sb new => k _ ?_
  have there : ∃ u, g.get? D = some u := by
    obtain ⟨o, _, _, _, ho, _⟩ := id new
    exact ⟨o, ho⟩
  exact I.write (e := D) (t' := s.toks + 1) (by rw [at_]; exact True.intro) (.inl rfl) (fun b u nb e => (sb.2 b nb).trans e) there (setK_new new)
theorem pe_sck {elt tg iter : Expr} {ifs : List Expr} {sco : Scope} {own : List (PySem.Str × Nat)} {pos : Pos} {wi : TI} {g : TG} {tt : TT} {te : TE} (calm : X.calm = true) (nd : X.N.Nodup) (it : PI X tg iter wi) (blk : BlkOk X.N X.env.scope sco own)
    (tgt : ∀ (s : Shared) (H : Hp) (C : Addr) (cl : List (PySem.Str × Addr)) (fp : List Addr), PG (X.blk s H sco (compEnvC sco cl C X.env) fp) tg g) (tst : ∀ (s : Shared) (H : Hp) (C : Addr) (cl : List (PySem.Str × Addr)) (fp : List Addr), PTs (X.blk s H sco (compEnvC sco cl C X.env) fp) ifs tt)
    (val : ∀ (s : Shared) (H : Hp) (C : Addr) (cl : List (PySem.Str × Addr)) (fp : List Addr), PE (X.blk s H sco (compEnvC sco cl C X.env) fp) elt te) (fold : ∀ x, foldedSetIterable iter X.env x = pure x := by intro _; rfl) :
    PE X (.SetComp elt [⟨tg, iter, ifs, 0⟩] sco pos) (tSck X.prog X.w wi g tt te (own.map (·.2))) := by
  refine ⟨fun pins s0 σ0 H0 Q0 I0 h0 => ?_⟩
  rw [PpSet.eval_SetComp]
  have caught : ∀ y ∈ sco.names, y.2 = .free → ∃ c, X.env.cells.lookup y.1 = some c := fun y hy e => (blk.free y hy e).elim (fun z => I0.ok.has _ (.inl z)) fun z => I0.ok.has _ (.inr z)
  refine wpAny_comprehension_free rfl fold (closure_ok caught) blk.kind (fun y hy e => by rw [blk.uniq y hy, e]) (thn (it.run pins s0 σ0 H0 _ I0 h0) fun xv sA hA => thn hA fun itv sB hB => ?_)
  obtain ⟨ia, fp, tn, J, HB, rfl, IB, T, stB, frB, run⟩ := hB
  refine PpSet.newSet_ok (newEnv_comp ?_)
  have noD : HB sB.heap.objs.size = none := IB.hok.fresh (Nat.le_refl _)
  obtain ⟨W, ⟨m0, w0⟩, turn⟩ := run _ noD
  generalize hs : ({ sB with heap := sB.heap.push (bareSet X.w) } : Shared) = sC
  have hC : sC.heap = sB.heap.push (bareSet X.w) := by rw [← hs]
  generalize hD : sB.heap.objs.size = D at noD turn w0
  have IC : Inv X pins σ0 (upd HB D (SetK X.prog X.w D (fun _ => false) 0)) sC := by
    rw [← hs, ← hD]
    exact IB.laid (t' := sB.toks) (fun b o e => Heap.get?_push_of_some _ e) (Nat.le_refl _) (setK_new bare_set)
  have below : ∀ b ∈ fp, b < sB.heap.objs.size := fun b hb => let ⟨o, e, _⟩ := T.obj _ _ stB b hb; Heap.lt_size e
  have frC : ∀ b ∈ fp, FpOk X pins (upd HB D (SetK X.prog X.w D (fun _ => false) 0)) b ∧ b < sC.heap.objs.size := fun b hb =>
    ⟨⟨(upd_ne (by rw [← hD]; exact Nat.ne_of_lt (below b hb))).trans (frB b hb).1, (frB b hb).2⟩, by rw [hC, Heap.size_push]; exact Nat.lt_succ_of_lt (below b hb)⟩
  have stC : tn 0 sC.heap := T.keep _ _ _ stB fun b _ o e => by rw [hC]; exact Heap.get?_push_of_some _ e
  generalize hH : upd HB D (SetK X.prog X.w D (fun _ => false) 0) = HC at IC frC w0
  have ID := block_start IC blk nd frC
  generalize hcl : cellsFrom (sC.heap.objs.size + 1) sco.names (cloFrom X.env.cells sco.names []) = cl at ID
  have pT := tgt sC HC sC.heap.objs.size cl fp
  have pI := tst sC HC sC.heap.objs.size cl fp
  have pV := val sC HC sC.heap.objs.size cl fp
  show codeAny (model X.prog X.w) X.A (.compStart (.SetComp elt [⟨tg, iter, ifs, 0⟩] sco pos) 0 (.ref ia) (.ref D) (compEnvC sco cl sC.heap.objs.size X.env)) (compPost (model X.prog X.w) X.A X.xe none (EP X pins σ0 Q0) (.ref D) sC.heap.objs.size)
    { sC with heap := pushCells (sC.heap.push { cls := .type "dict", data := .dict #[] }) sco.names }
  have loc : (compEnvC sco cl sC.heap.objs.size X.env).locals = sC.heap.objs.size := rfl
  generalize hce : compEnvC sco cl sC.heap.objs.size X.env = ce at ID pT pI pV loc ⊢
  generalize hsD : ({ sC with heap := pushCells (sC.heap.push { cls := .type "dict", data := .dict #[] }) sco.names } : Shared) = sD at ID ⊢
  have stD : tn 0 sD.heap := T.keep _ _ _ stC fun b _ o e => by rw [← hsD]; exact pushCells_keeps _ _ _ _ (Heap.get?_push_of_some _ e)
  have still : ∀ {σ' : L2.St} {H' : Hp} {s' : Shared}, Inv (X.blk sC HC sco ce fp) [] σ' H' s' → (∀ b ∈ fp, H' b = none) → ∀ b ∈ fp, FpOk (X.blk sC HC sco ce fp) [] H' b := fun {σ' H' s'} Z no b hb =>
    ⟨no b hb, (Z.ok.exf b hb).1, Z.ok.exfs b hb, .inl hb, fun x c e => (Z.ok.exf b hb).2 x c e, fun p hp => absurd (show p ∈ ([] : List (Addr × Obj)) ++ [] from hp) (by simp)⟩
  have goes : codeAny (model X.prog X.w) X.A (.compLoop (.SetComp elt [⟨tg, iter, ifs, 0⟩] sco pos) 0 (.ref ia) (.ref D) ce) (compPost (model X.prog X.w) X.A X.xe none (EP X pins σ0 Q0) (.ref D) sC.heap.objs.size) sD := by
    refine PpSet.compLoopS_any (fun n s' => ∃ i H', Inv (X.blk sC HC sco ce fp) [] (wipe σ0 (own.map (·.2))) H' s' ∧ tn i s'.heap ∧ (∀ b ∈ fp, H' b = none) ∧ W i n H') ?_ m0 ⟨0, HC, ID, stD, fun b hb => (frC b hb).1.1, w0⟩
    rintro n sE ⟨i, HE, IE, stE, noE, wE⟩
    rcases turn i n HE wE with ⟨stop, last⟩ | ⟨go, Nx, nxt, step⟩
    · refine thnF (T.done (X.blk sC HC sco ce fp) rfl rfl rfl calm i [] sE _ HE (fun _ _ => False) IE (still IE noE) stE stop) fun r sF ⟨hr, IF⟩ => ?_
      subst hr
      have IG : Inv X pins σ0 HE sF := IC.call' (ch := fp) IF.os IF.base IF.hok IF.bare fun b hb => let z := (frC b hb).1; ⟨z.2.2.2.1, z.2.1, z.2.2.2.2.1, z.2.2.2.2.2⟩
      have noC : HE sC.heap.objs.size = none := by
        have z : HE ce.locals = none := IF.free
        rw [loc] at z
        exact z
      obtain ⟨m, hn, _⟩ := IF.loc
      replace hn : sF.heap.Ns ce.locals m := hn
      rw [loc] at hn
      have fr := IC.fpOk (H' := HE) (Nat.le_refl _) noC
      refine ⟨m, hn, fun g2 sb => ?_⟩
      exact ⟨.ref D, HE, IG.turned (t' := sF.toks) (fun b o hb e => (sb.2 b hb).trans e) fr.1 fr.2.1 fr.2.2.2.1 fr.2.2.2.2.1 fr.2.2.2.2.2, rfl, last⟩
    · refine thnF (T.item (X.blk sC HC sco ce fp) rfl rfl rfl calm i [] sE _ HE (fun _ _ => False) IE (still IE noE) stE go) fun r sF ⟨u, hr, hF⟩ => ?_
      subst hr
      refine thnF hF fun _ sG ⟨x, HG, IG, rG, yG, stG, noG⟩ => ?_
      have JG := IG.pinned (still IG noG) (T.obj _ _ stG)
      refine thnF (pT.run _ sG _ HG x u _ JG rG (step x HG yG)) fun _ sI ⟨σI, HI, II, wI, qI⟩ => ?_
      refine thnF (pI.run _ sI σI HI _ II qI) fun b sJ ⟨HJ, IJ, qJ⟩ => ?_
      have next : ∀ {s' : Shared} {H' : Hp}, Inv (X.blk sC HC sco ce fp) ([] ++ pinsAt fp sG.heap) σI H' s' → Nx H' →
          ∃ m, m < n ∧ ∃ i H', Inv (X.blk sC HC sco ce fp) [] (wipe σ0 (own.map (·.2))) H' s' ∧ tn i s'.heap ∧ (∀ b ∈ fp, H' b = none) ∧ W i m H' := fun {s' H'} Z nx => by
        obtain ⟨m, less, wN⟩ := nxt H' nx
        have pin : ∀ b ∈ fp, ∀ o, sG.heap.get? b = some o → s'.heap.get? b = some o ∧ H' b = none := fun b hb o e =>
          ⟨(Z.pin (b, o) (List.mem_append_right _ (List.mem_append_right _ (mem_pinsAt hb e)))).1, (Z.pin (b, o) (List.mem_append_right _ (List.mem_append_right _ (mem_pinsAt hb e)))).2.1⟩
        refine ⟨m, less, i + 1, H', (Z.unpinned (pins := [])).weak (by rw [← wI, wipe_length]) (fun j v e => ?_), T.keep _ _ _ stG fun b hb o e => (pin b hb o e).1, fun b hb => ?_, wN⟩
        · rw [← wI] at e
          exact (wipe_some e).1
        · obtain ⟨o, e, _⟩ := T.obj _ _ stG b hb
          exact (pin b hb o e).2
      cases b with
      | true =>
        simp only [if_true] at qJ ⊢
        refine thnF (pV.run _ sJ σI HJ _ IJ qJ) fun z sK ⟨yv, HK, IK, rK, c, S, k, ey, atD, few, nx⟩ => ?_
        subst ey
        exact add_inK (X := X.blk sC HC sco ce fp) IK rK atD few fun sL IL => next IL nx
      | false =>
        simp only [Bool.false_eq_true, if_false] at qJ ⊢
        exact next IJ qJ
  exact PpSet.codeAny_compStart_set goes (T.self X.A 0 _ _ _ stD goes)
end
end Tm

set_option maxHeartbeats 4000000
/-! Kind._is_renaming, Kind.renamed. -/
namespace Tm
open PySem PySem.Spec PyProof.Rows L2
local macro_rules | `(tactic| walk_at "x") => `(tactic| dsimp only [tNext, tRet, tSeq, tCall, tCB, tC, tCons, tNil, tAsg, tDrop, sFld])
abbrev Nms := List (Str × Str)
def NmP (kv : L2.Key × V) (e : Str × Str) : Prop := kv.1 = Sum.inr e.1 ∧ kv.2 = .str e.2
def NmV (H : Hp) (d : Addr) (ns : Nms) : Prop := ∃ kvn, H d = some (.dK kvn) ∧ Paired NmP kvn ns
def lookN (ns : Nms) (x : Str) : Option Str := (ns.find? fun e => decide (e.1 = x)).map (·.2)
def ren (ns : Nms) (x : Str) : Str := (lookN ns x).getD x
theorem look_nm : ∀ {kvn : List (L2.Key × V)} {ns : Nms} (x : Str), Paired NmP kvn ns → valV kvn (Sum.inr x) = (lookN ns x).map V.str
  | _, _, x, .nil => rfl
  | kv :: kvs, e :: r, x, .cons h t => by
    have ih := look_nm x t
    rw [valV_cons, h.1]
    unfold lookN
    rw [List.find?_cons]
    by_cases z : e.1 = x
    · subst z
      rw [if_pos (by simp), h.2]
      simp
    · rw [if_neg (by simp [z])]
      rw [show decide (e.1 = x) = false from decide_eq_false z]
      exact ih
theorem look_mem : ∀ {ns : Nms} {e : Str × Str}, e ∈ ns → (ns.map (·.1)).Nodup → lookN ns e.1 = some e.2
  | [], _, h, _ => nomatch h
  | x :: r, e, h, nd => by
    unfold lookN
    rw [List.find?_cons]
    have nd2 := List.nodup_cons.mp (show (x.1 :: r.map (·.1)).Nodup from nd)
    rcases List.mem_cons.mp h with z | z
    · rw [z]
      simp
    · have : x.1 ≠ e.1 := fun q => nd2.1 (q ▸ List.mem_map.mpr ⟨e, z, rfl⟩)
      rw [show decide (x.1 = e.1) = false from decide_eq_false this]
      exact look_mem z nd2.2
def renT (ns : Nms) (t : Tab) : Tab := t.map fun e => (ren ns e.1, e.2)
/-- a list comprehension over the keys of a locked dict -/
theorem lc_runK {α : Type} {σ : L2.St} {H : Hp} {Q : VK} {j : Nat} {tt : TT} {te td : TE} {vs : List Nat} {d : Addr} {o : Obj} {kvs : List (L2.Key × V)} (hd : Ev td σ H fun v _ => v = .ref d) (hf : H d = some (.frz o (.dK kvs))) (zs : List α) (hlen : zs.length = kvs.length)
    (b : α → Bool) (R : α → V → Hp → Prop) (hz : zs.length ≤ 100000) (hw : ∀ x, wipe ((wipe σ vs).set j (some x)) vs = wipe σ vs) (hR : ∀ z v H H', TupS H H' → R z v H → R z v H')
    (hs : ∀ (i : Nat) z kv H1, zs[i]? = some z → kvs[i]? = some kv → Same H H1 → EvT tt ((wipe σ vs).set j (some (kV kv.1))) H1 (b z) ∧ (b z = true → ∀ H3, Same H1 H3 → Ev te ((wipe σ vs).set j (some (kV kv.1))) H3 (R z)))
    (hq : ∀ p H1 ys, H p = none → Same H H1 → H1 p = some (.lst ys) → Paired (fun v z => R z v H1) ys (zs.filter b) → Q (.ref p) H1) : tLc (iKeys td) (gName j) tt te vs σ H Q := by
  refine hd _ fun v H1 e ev => ⟨d, o, ev, .inl ⟨kvs, e _ _ hf, ?_⟩⟩
  refine lc_name (Q := Q) (walk_keys) zs b R hlen (by omega) hw hR (fun H2 e2 => e2 _ _ (e _ _ hf)) (fun i H v H' y => by rw [y.1]; exact Same.refl _) (fun i z x H2 H' hz' e2 y => ?_) (fun p H2 ys hp e2 => hq p H2 ys (e.free hp) (e.trans e2))
  obtain ⟨rfl, k, v, hk, rfl⟩ := y
  exact hs i z (k, v) _ hz' hk (e.trans e2)
/-- {a text for key in a locked dict}, all texts different -/
theorem sck_keys {P : Program} {w : World} {σ : L2.St} {H : Hp} {Q : VK} {j : Nat} {te td : TE} {vs : List Nat} {d : Addr} {o : Obj} {kvs : List (L2.Key × V)} {ns : List Str} {f : Str → Str} (hd : Ev td σ H fun v _ => v = .ref d) (hf : H d = some (.frz o (.dK kvs))) (hk : kvs.map (·.1) = ns.map Sum.inr)
    (few : ns.length ≤ 1000) (nd : (ns.map f).Nodup) (hw : ∀ x, wipe ((wipe σ vs).set j (some x)) vs = wipe σ vs) (he : ∀ x H', x ∈ ns → Same H H' → Ev te ((wipe σ vs).set j (some (.str x))) H' fun v _ => v = .str (f x))
    (hq : ∀ p H1 S, Same H H1 → H1 p = some (SetK P w p S ns.length) → Q (.ref p) H1) : tSck P w (iKeys td) (gName j) tYes te vs σ H Q := by
  refine hd _ fun v H1 e ev => ⟨d, o, ev, .inl ⟨kvs, e _ _ hf, fun D hD => ?_⟩⟩
  have hlen : kvs.length = ns.length := by
    have := congrArg List.length hk
    rwa [List.length_map, List.length_map] at this
  have wk := walk_keys (d := d) (o := o) (kvs := kvs)
  refine ⟨fun i m H' => m = ns.length - i ∧ i ≤ ns.length ∧ Same H1 H' ∧ ∃ S, H' D = some (SetK P w D S i) ∧ (∀ k, S k = true ↔ k ∈ (ns.take i).map fun x => Sum.inr (f x)), ⟨ns.length, by simp, Nat.zero_le _, same_new hD, fun _ => false, upd_same, by simp⟩, ?_⟩
  rintro i m H' ⟨rfl, hi, e2, S, hS, hm⟩
  have hf' := e2 _ _ (e _ _ hf)
  by_cases hlt : i < ns.length
  · refine .inr ⟨wk.goes i H' (by omega) hf', _, fun H2 p => p, fun x H2 y => ?_⟩
    obtain ⟨eH, k, v, hkv, rfl⟩ := wk.yields i H' x H2 (by omega) hf' y
    rw [eH]
    have hz : ns[i]? = some ns[i] := List.getElem?_eq_getElem hlt
    have ek : k = Sum.inr ns[i] := by
      have h1 : (kvs.map (·.1))[i]? = some k := by rw [List.getElem?_map, hkv]; rfl
      rw [hk, List.getElem?_map, hz] at h1
      exact (Option.some.inj h1).symm
    subst ek
    refine ⟨hw _, ?_⟩
    dsimp only [tYes]
    rw [if_pos rfl]
    refine he ns[i] H' (List.getElem_mem hlt) (e.trans e2) _ fun y H3 e3 ey => ?_
    have hno : S (Sum.inr (f ns[i])) = false := by
      cases hc : S (Sum.inr (f ns[i])) with
      | false => rfl
      | true =>
        obtain ⟨z, hz1, hz2⟩ := List.mem_map.mp ((hm _).mp hc)
        have h2 : f ns[i] ∉ (ns.map f).take i := nd_split nd (by rw [List.getElem?_map, hz]; rfl)
        rw [← List.map_take] at h2
        exact absurd (List.mem_map.mpr ⟨z, hz1, Sum.inr.inj hz2⟩) h2
    refine ⟨Sum.inr (f ns[i]), S, i, ey, e3 _ _ hS, by show i + 1 < 4096; omega, ns.length - (i + 1), by omega, rfl, hlt, same_mut (e2.trans e3) hD, moreK S (Sum.inr (f ns[i])), ?_, fun k => ?_⟩
    · rw [if_neg (by rw [hno]; decide)]
      exact upd_same
    · rw [take_one hz, List.map_append, List.mem_append, ← hm k]
      unfold moreK
      simp
  · have ei : i = ns.length := by omega
    subst ei
    exact .inl ⟨by rw [← hlen]; exact wk.stops H' hf', hq D H' S (e.trans e2) hS⟩
section
variable {P : Program} {w : World} {K : PySem.W.Frag} {mg : Str → Option Value} {base : Heap} {C : Addr}
end
end Tm

/-! _kind_over, cut_kind. -/
namespace Tm
open PySem PySem.Spec PyProof.Rows L2
local macro_rules | `(tactic| walk_at "x") => `(tactic| dsimp only [tNext, tRet, tSeq, tCall, tCB, tC, tCons, tNil, tAsg, tDrop, sFld])
/-! ### one of two rules -/
def tEi (t1 t2 : TE) : TE := fun σ H Q => t1 σ H Q ∨ t2 σ H Q
def iEi (w1 w2 : TI) : TI := fun σ H R => w1 σ H R ∨ w2 σ H R
section
variable {X : Cx} {e tg : Expr} {t1 t2 : TE} {w1 w2 : TI}
theorem pe_ei (h1 : PE X e t1) (h2 : PE X e t2) : PE X e (tEi t1 t2) :=
  ⟨fun pins s σ H Q I h => h.elim (h1.run pins s σ H Q I) (h2.run pins s σ H Q I)⟩
theorem pi_ei (h1 : PI X tg e w1) (h2 : PI X tg e w2) : PI X tg e (iEi w1 w2) :=
  ⟨fun pins s σ H R I h => h.elim (h1.run pins s σ H R I) (h2.run pins s σ H R I)⟩
end
/-- a list or a tuple of whole numbers -/
def StV (H : Hp) (v : V) (ns : List Nat) : Prop := ∃ p, v = .ref p ∧ (H p = some (.lst (natV ns)) ∨ Rd H p (.tup (natV ns)))
theorem rd_keep {H H' : Hp} {a : Addr} {u : HO} (e : Same H H') (h : Rd H a u) : Rd H' a u := h.imp (e _ _) fun ⟨o, h⟩ => ⟨o, e _ _ h⟩
def NuV (H : Hp) (v : V) (g : Int → Option Int) : Prop := (∃ p ns, v = .ref p ∧ Rd H p (.tup (natV ns)) ∧ ∀ i y, 0 ≤ i → g i = some y → (ns.map fun n : Nat => (n : Int))[i.toNat]? = some y) ∨ ∃ d kvn, v = .ref d ∧ H d = some (.dK kvn) ∧ ∀ i y, g i = some y → valV kvn (Sum.inl i) = some (.int y)
theorem StV.keep {H H' : Hp} {v : V} {ns : List Nat} (e : Same H H') (h : StV H v ns) : StV H' v ns := by
  obtain ⟨p, e1, h⟩ := h
  exact ⟨p, e1, h.imp (e _ _) (rd_keep e)⟩
theorem NuV.keep {H H' : Hp} {v : V} {g : Int → Option Int} (e : Same H H') (h : NuV H v g) : NuV H' v g := by
  rcases h with ⟨p, ns, e1, h, q⟩ | ⟨d, kvn, e1, h, q⟩
  · exact .inl ⟨p, ns, e1, rd_keep e h, q⟩
  · exact .inr ⟨d, kvn, e1, e _ _ h, q⟩
def pickR (r : Row) (s : Nat) : Int × Int := r.getD s (0, 0)
def numG (g : Int → Option Int) (y : Int) : Int := (g y).getD 0
def overR (states : List Nat) (g : Int → Option Int) (r : Row) : Row := states.map fun s => (numG g (pickR r s).1, (pickR r s).2)
def overT (states : List Nat) (g : Int → Option Int) (t : Tab) : Tab := t.map fun e => (e.1, overR states g e.2)
theorem dc_bindI {td tk tv : TE} {g : TG} {tt : TT} {vs : List Nat} {σ : L2.St} {H : Hp} {Q : VK} (h : td σ H fun v H1 => tDc (iItems (tC v)) g tt tk tv vs σ H1 Q) : tDc (iItems td) g tt tk tv vs σ H Q := h
theorem pick_at {r : Row} {s : Nat} (h : s < r.length) : r[s]? = some (pickR r s) := by
  unfold pickR
  rw [List.getD_eq_getElem?_getD, List.getElem?_eq_getElem h]
  rfl
section
variable {K : PySem.W.Frag} {σ : L2.St} {H : Hp} {te : TE} {vs : List Nat} {i j : Nat}
/-- [.. for state in states], states a list or a tuple -/
theorem ev_lcSt {v : V} {ns : List Nat} {R : Nat → V → Hp → Prop} (hi : σ[i]? = some (some v)) (hs : StV H v ns) (few : ns.length ≤ 1000) (hw : ∀ x, wipe ((wipe σ vs).set j (some x)) vs = wipe σ vs) (hR : ∀ z v H H', TupS H H' → R z v H → R z v H')
    (he : ∀ z H1, z ∈ ns → Same H H1 → Ev te ((wipe σ vs).set j (some (.int (z : Int)))) H1 (R z)) :
    Ev (tLc (iEi (iList K (tVar i)) (iTup K (tVar i))) (gName j) tYes te vs) σ H (fun v H1 => ∃ p ys, v = .ref p ∧ H1 p = some (.lst ys) ∧ Paired (fun v z => R z v H1) ys ns) := fun Q q => by
  obtain ⟨p, rfl, hp⟩ := hs
  have hx : ∀ {k : Nat} {x : V} {z : Nat}, ns[k]? = some z → (natV ns)[k]? = some x → x = .int (z : Int) := fun {k x z} h1 h2 => by
    unfold natV at h2
    rw [List.getElem?_map, h1] at h2
    exact (Option.some.inj h2).symm
  rcases hp with hp | hp
  · exact .inl (lc_runL (K := K) (xs := natV ns) (fun Q q => ⟨_, hi, q _ _ (Same.refl _) ⟨p, rfl, SqL.of hp⟩⟩) ns (natV_len ns) (fun _ => true) R (by omega) hw hR (fun k z x H1 hz hx' e => ⟨evt_yes, fun _ H3 e3 => by rw [hx hz hx']; exact he z H3 (List.mem_of_getElem? hz) (e.trans e3)⟩)
      fun p H1 ys hp e hl hP => q _ _ e ⟨p, ys, rfl, hl, by rw [filter_all] at hP; exact hP⟩)
  · exact .inr (lc_runT (K := K) (xs := natV ns) (fun Q q => ⟨_, hi, q _ _ (Same.refl _) ⟨p, rfl, .inl hp⟩⟩) ns (natV_len ns) (fun _ => true) R (by omega) hw hR (fun k z x H1 hz hx' e => ⟨evt_yes, fun _ H3 e3 => by rw [hx hz hx']; exact he z H3 (List.mem_of_getElem? hz) (e.trans e3)⟩)
      fun p H1 ys hp e hl hP => q _ _ e ⟨p, ys, rfl, hl, by rw [filter_all] at hP; exact hP⟩)
/-- row[state] -/
theorem ev_rowAt {v : V} {r : Row} {s : Nat} (hi : σ[i]? = some (some v)) (hv : RowV H v r) (hj : σ[j]? = some (some (.int (s : Int)))) (lt : s < r.length) : Ev (tOp (rIxT K) (tVar i) (tVar j)) σ H fun v H1 => PairV H1 v (pickR r s) := fun Q q => by
  obtain ⟨a, rs, rfl, ha, hx⟩ := hv
  obtain ⟨x, hx1, hx2⟩ := paired_ix hx (pick_at lt)
  exact ⟨_, hi, _, hj, a, rs, _, x, rfl, rfl, SqT.of ha, atI_nat hx1, q _ _ (Same.refl _) hx2⟩
theorem ev_num {x : TE} {v : V} {g : Int → Option Int} {y : Int} (hi : σ[i]? = some (some v)) (hv : NuV H v g) (hx : Ev x σ H fun v _ => v = .int y) (hg : (g y).isSome = true) (h0 : 0 ≤ y) : Ev (tEi (tOp (rIxT K) (tVar i) x) (tDGet (tVar i) x)) σ H fun v _ => v = .int (numG g y) := fun Q q => by
  obtain ⟨z, hz⟩ := Option.isSome_iff_exists.mp hg
  have en : numG g y = z := by
    unfold numG
    rw [hz]
    rfl
  rw [en] at q
  rcases hv with ⟨p, ns, rfl, hp, look⟩ | ⟨d, kvn, rfl, hd, look⟩
  · refine .inl ⟨_, hi, hx _ fun u H1 e1 eu => ⟨p, natV ns, y, .int z, rfl, eu, .inl (rd_keep e1 hp), ?_, q _ _ e1 rfl⟩⟩
    have h1 := look y z h0 hz
    obtain ⟨n, hn⟩ : ∃ n : Nat, y = (n : Int) := ⟨y.toNat, by omega⟩
    subst hn
    refine atI_nat ?_
    rw [Int.toNat_natCast, List.getElem?_map] at h1
    unfold natV
    rw [List.getElem?_map]
    cases hc : ns[n]? with
    | none => rw [hc] at h1; cases h1
    | some m =>
      rw [hc] at h1
      rw [← Option.some.inj h1]
      rfl
  · refine .inr ⟨_, hi, hx _ fun u H1 e1 eu => ⟨d, .int z, rfl, ?_, q _ _ e1 rfl⟩⟩
    have hg := DGet.k (k := Sum.inl y) (e1 _ _ hd)
    rw [look y z hz] at hg
    rw [eu]
    exact hg
theorem ev_pickE {x : TE} {p : Int × Int} {k : Nat} {y : Int} (hx : Ev x σ H fun v H1 => PairV H1 v p) (hj : [p.1, p.2][k]? = some y) : Ev (tOp (rIxT K) x (tC (.int (k : Int)))) σ H fun v _ => v = .int y := fun Q q =>
  hx _ fun v H1 e1 h1 => by
    obtain ⟨c, rfl, hc⟩ := h1
    refine ⟨c, _, _, .int y, rfl, rfl, SqT.of hc, ?_, q _ _ e1 rfl⟩
    rcases k with _ | _ | k
    · cases hj
      exact atI_nat (j := 0) rfl
    · cases hj
      exact atI_nat (j := 1) rfl
    · cases hj
end
section
variable {P : Program} {w : World} {K : PySem.W.Frag} {mg : Str → Option Value} {base : Heap} {C : Addr}
def overOk (states : List Nat) (g : Int → Option Int) (t : Tab) : Prop := ∀ e ∈ t, ∀ s ∈ states, s < sizeT t ∧ (g (pickR e.2 s).1).isSome = true ∧ 0 ≤ (pickR e.2 s).1
end
end Tm

/-! _is_state_tuple, _is_mapped, is_map. -/
namespace Tm
open PySem PySem.Spec PyProof.Rows L2
local macro_rules | `(tactic| walk_at "x") => `(tactic| dsimp only [tNext, tRet, tSeq, tCall, tCB, tC, tCons, tNil, tAsg, tDrop, sFld])
def inAll (m : Nat) (ns : List Nat) : Bool := ns.all fun n => decide (n < m)
def mapR (r r2 : Row) (ns : List Nat) : Bool := (List.range r.length).all fun s => decide (pickR r2 (ns.getD s 0) = (((ns.getD (pickR r s).1.toNat 0 : Nat) : Int), (pickR r s).2))
theorem natV_at {ns : List Nat} {i : Nat} (h : i < ns.length) : (natV ns)[i]? = some (.int (ns.getD i 0 : Nat)) := by
  unfold natV
  rw [List.getElem?_map, List.getD_eq_getElem?_getD, List.getElem?_eq_getElem h]
  rfl
theorem ok_range {t : Tab} {e : Str × Row} (h : okTab t = true) (he : e ∈ t) {p : Int × Int} (hp : p ∈ e.2) : 0 ≤ p.1 ∧ p.1 < sizeT t := by
  have h5 := h
  unfold okTab at h5
  simp only [Bool.and_eq_true, decide_eq_true_eq] at h5
  have h6 := List.all_eq_true.mp h5.2 e he
  simp only [Bool.and_eq_true] at h6
  have h7 := h6.2
  unfold okRow at h7
  simp only [Bool.and_eq_true, decide_eq_true_eq] at h7
  have h8 := List.all_eq_true.mp h7.2 p hp
  unfold okPair at h8
  simp only [Bool.and_eq_true, decide_eq_true_eq] at h8
  omega
section
variable {P : Program} {w : World} {K : PySem.W.Frag} {mg : Str → Option Value} {base : Heap} {C : Addr}
def rowAt (t : Tab) (x : Str) : Row := ((t.find? fun e => decide (e.1 = x)).map (·.2)).getD []
theorem row_in : ∀ {t : Tab} {x : Str}, x ∈ namesT t → (x, rowAt t x) ∈ t
  | [], x, h => nomatch h
  | e :: r, x, h => by
    unfold rowAt
    rw [List.find?_cons]
    by_cases z : e.1 = x
    · subst z
      simp
    · rw [show decide (e.1 = x) = false from decide_eq_false z]
      have h2 : x ∈ namesT r := by
        rcases List.mem_cons.mp (show x ∈ e.1 :: namesT r from h) with q | q
        · exact absurd q.symm z
        · exact q
      exact List.mem_cons_of_mem _ (row_in h2)
def isMap (t u : Tab) (ns : List Nat) : Bool := decide (namesT t = namesT u) && (decide (ns.length = sizeT t) && inAll (sizeT u) ns) && (namesT t).all fun x => mapR (rowAt t x) (rowAt u x) ns
theorem eqv_strs : ∀ xs ys : List Str, PyData.eqvAll (xs.map PyData.str) (ys.map PyData.str) = decide (xs = ys)
  | [], [] => rfl
  | [], _ :: _ => by simp [PyData.eqvAll]
  | _ :: _, [] => by simp [PyData.eqvAll]
  | x :: xs, y :: ys => by
    show ((x == y) && PyData.eqvAll (xs.map PyData.str) (ys.map PyData.str)) = _
    rw [eqv_strs xs ys, Bool.eq_iff_iff]
    simp
theorem nice_strsT {xs : List Str} (h : xs.all PyData.strOk = true) : Nice 1 (.tuple (xs.map .str)) := .tuple fun d hd => by
  obtain ⟨x, hx, rfl⟩ := List.mem_map.mp hd
  exact nice_str (List.all_eq_true.mp h x hx)
end
end Tm

/-! _numbered, _mark, _classes, image_of. -/
namespace Tm
open PySem PySem.Spec PyProof.Rows L2
local macro_rules | `(tactic| walk_at "x") => `(tactic| dsimp only [tNext, tRet, tSeq, tCall, tCB, tC, tCons, tNil, tAsg, tDrop, sFld])
/-! ### the mirror -/
def moreF (fs : List (List Int)) (m : List Int) : List (List Int) := if m ∈ fs then fs else fs ++ [m]
def firstsL (ms : List (List Int)) : List (List Int) := ms.foldl moreF []
def ixOf : List (List Int) → List Int → Nat
  | [], _ => 0
  | x :: r, m => if x = m then 0 else ixOf r m + 1
theorem ixOf_at : ∀ {l : List (List Int)} {m : List Int}, m ∈ l → l[ixOf l m]? = some m ∧ ∀ k z, k < ixOf l m → l[k]? = some z → z ≠ m
  | x :: r, m, h => by
    unfold ixOf
    by_cases e : x = m
    · rw [if_pos e]
      exact ⟨by rw [← e]; rfl, fun k z hk _ => absurd hk (Nat.not_lt_zero _)⟩
    · rw [if_neg e]
      have h2 : m ∈ r := by
        rcases List.mem_cons.mp h with q | q
        · exact absurd q.symm e
        · exact q
      obtain ⟨h3, h4⟩ := ixOf_at h2
      refine ⟨h3, fun k z hk hz => ?_⟩
      cases k with
      | zero => rw [← Option.some.inj hz]; exact e
      | succ k => exact h4 k z (by omega) hz
def numL (ms : List (List Int)) : List Nat := ms.map fun m => ixOf (firstsL ms) m
theorem firsts_len : ∀ (ms fs : List (List Int)), (ms.foldl moreF fs).length ≤ fs.length + ms.length
  | [], fs => Nat.le_refl _
  | m :: r, fs => by
    refine Nat.le_trans (firsts_len r (moreF fs m)) ?_
    unfold moreF
    split
    · simp only [List.length_cons]; omega
    · rw [List.length_append]; simp only [List.length_cons, List.length_nil]; omega
theorem firsts_mem : ∀ (ms fs : List (List Int)) (m : List Int), m ∈ fs ∨ m ∈ ms → m ∈ ms.foldl moreF fs
  | [], fs, m, h => h.elim id fun z => nomatch z
  | x :: r, fs, m, h => by
    refine firsts_mem r (moreF fs x) m ?_
    unfold moreF
    rcases h with z | z
    · left
      split
      · exact z
      · exact List.mem_append_left _ z
    · rcases List.mem_cons.mp z with q | q
      · subst q
        left
        split
        · assumption
        · simp
      · exact .inr q
theorem firsts_sub : ∀ (ms fs : List (List Int)) (m : List Int), m ∈ ms.foldl moreF fs → m ∈ fs ∨ m ∈ ms
  | [], fs, m, h => .inl h
  | x :: r, fs, m, h => by
    rcases firsts_sub r (moreF fs x) m h with z | z
    · unfold moreF at z
      split at z
      · exact .inl z
      · rcases List.mem_append.mp z with q | q
        · exact .inl q
        · rw [List.mem_singleton.mp q]; exact .inr List.mem_cons_self
    · exact .inr (List.mem_cons_of_mem _ z)
theorem firsts_step {ms : List (List Int)} {i : Nat} {m : List Int} (h : ms[i]? = some m) : firstsL (ms.take (i + 1)) = moreF (firstsL (ms.take i)) m := by
  rw [take_one h]
  unfold firstsL
  rw [List.foldl_append]
  rfl
/-- marks: how they stand in the heap, what they are as data -/
structure MkR (K : PySem.W.Frag) (ms : List (List Int)) (enc : List Int → PyData) (R : List Int → V → Hp → Prop) : Prop where
  mono : ∀ a v H H', TupS H H' → R a v H → R a v H'
  dp : ∀ a v H, R a v H → Dp K H v (enc a)
  eqv : ∀ a ∈ ms, ∀ b ∈ ms, PyData.eqv (enc a) (enc b) = decide (a = b)
  nice : ∀ a ∈ ms, Nice 3 (enc a)
theorem any_in {K : PySem.W.Frag} {ms L : List (List Int)} {enc : List Int → PyData} {R : List Int → V → Hp → Prop} (M : MkR K ms enc R) {m : List Int} (hm : m ∈ ms) (hL : ∀ z ∈ L, z ∈ ms) : (L.map enc).any (fun z => PyData.eqv z (enc m)) = decide (m ∈ L) := by
  rw [Bool.eq_iff_iff, decide_eq_true_eq, List.any_eq_true]
  constructor
  · rintro ⟨z, hz, e⟩
    obtain ⟨y, hy, rfl⟩ := List.mem_map.mp hz
    rw [M.eqv y (hL y hy) m hm, decide_eq_true_eq] at e
    exact e ▸ hy
  · intro h
    exact ⟨enc m, List.mem_map.mpr ⟨m, h, rfl⟩, by rw [M.eqv m hm m hm]; exact decide_eq_true rfl⟩
theorem dp_marks {K : PySem.W.Frag} {enc : List Int → PyData} {R : List Int → V → Hp → Prop} {H : Hp} (d : ∀ a v, R a v H → Dp K H v (enc a)) : ∀ {vs : List V} {ms : List (List Int)}, Paired (fun v a => R a v H) vs ms → DpAll K H vs (ms.map enc)
  | _, _, .nil => .nil
  | _, _, .cons h t => .cons (d _ _ h) (dp_marks d t)
section
variable {P : Program} {w : World} {K : PySem.W.Frag} {mg : Str → Option Value} {base : Heap} {C : Addr}
end
end Tm

/-! _mark, _classes. -/
namespace Tm
open PySem PySem.Spec PyProof.Rows L2
local macro_rules | `(tactic| walk_at "x") => `(tactic| dsimp only [tNext, tRet, tSeq, tCall, tCB, tC, tCons, tNil, tAsg, tDrop, sFld])
abbrev Rows := List Row
def markL (rws : Rows) (ns : List Nat) (s : Nat) : List Int := ((ns.getD s 0 : Nat) : Int) :: rws.map fun r => ((ns.getD (pickR r s).1.toNat 0 : Nat) : Int)
def cls0 (rws : Rows) (n : Nat) : List Nat := numL ((List.range n).map fun s => rws.map fun r => (pickR r s).2)
def clsS (rws : Rows) (n : Nat) (ns : List Nat) : List Nat := numL ((List.range n).map (markL rws ns))
def clsN (rws : Rows) (n : Nat) : Nat → List Nat
  | 0 => cls0 rws n
  | i + 1 => clsS rws n (clsN rws n i)
theorem num_len (ms : List (List Int)) : (numL ms).length = ms.length := List.length_map ..
theorem cls_len (rws : Rows) (n : Nat) : ∀ i, (clsN rws n i).length = n
  | 0 => by unfold clsN cls0; rw [num_len, List.length_map, List.length_range]
  | i + 1 => by unfold clsN clsS; rw [num_len, List.length_map, List.length_range]
def R1 (a : List Int) (v : V) (H : Hp) : Prop := ∃ q, v = .ref q ∧ H q = some (.tup (a.map V.int))
def enc1 (a : List Int) : PyData := .tuple (a.map .int)
def R2m (a : List Int) (v : V) (H : Hp) : Prop := ∃ n rest q q2, a = n :: rest ∧ v = .ref q ∧ H q = some (.tup [.int n, .ref q2]) ∧ H q2 = some (.tup (rest.map V.int))
def enc2 : List Int → PyData
  | [] => .none
  | n :: r => .tuple [.int n, .tuple (r.map .int)]
theorem eqv_ints : ∀ xs ys : List Int, PyData.eqvAll (xs.map PyData.int) (ys.map PyData.int) = decide (xs = ys)
  | [], [] => rfl
  | [], _ :: _ => by simp [PyData.eqvAll]
  | _ :: _, [] => by simp [PyData.eqvAll]
  | x :: xs, y :: ys => by
    show ((x == y) && PyData.eqvAll (xs.map PyData.int) (ys.map PyData.int)) = _
    rw [eqv_ints xs ys, Bool.eq_iff_iff]
    simp
theorem mk1 {K : PySem.W.Frag} (ms : List (List Int)) : MkR K ms enc1 R1 where
  mono := fun a v H H' e ⟨q, h1, h2⟩ => ⟨q, h1, e _ _ h2⟩
  dp := fun a v H ⟨q, h1, h2⟩ => by subst h1; exact .tup (SqT.of h2) (dp_ints _)
  eqv := fun a _ b _ => eqv_ints a b
  nice := fun a _ => nice_up (nice_ints a) (by decide)
theorem mk2 {K : PySem.W.Frag} {ms : List (List Int)} (h : ∀ a ∈ ms, a ≠ []) : MkR K ms enc2 R2m where
  mono := fun a v H H' e ⟨n, r, q, q2, h1, h2, h3, h4⟩ => ⟨n, r, q, q2, h1, h2, e _ _ h3, e _ _ h4⟩
  dp := fun a v H ⟨n, r, q, q2, h1, h2, h3, h4⟩ => by
    subst h1 h2
    exact .tup (SqT.of h3) (.cons (.int _) (.cons (.tup (SqT.of h4) (dp_ints _)) .nil))
  eqv := fun a ha b hb => by
    match a, b, h a ha, h b hb with
    | n :: r, m :: u, _, _ =>
      show ((n == m) && (PyData.eqvAll (r.map PyData.int) (u.map PyData.int) && true)) = _
      rw [eqv_ints, Bool.eq_iff_iff]
      simp
  nice := fun a ha => by
    match a, h a ha with
    | n :: r, _ => exact nice_up (n := 2) (.tuple fun d hd => by
        rcases List.mem_cons.mp hd with z | z
        · rw [z]; exact nice_up (nice_int n) (by decide)
        · rw [List.mem_singleton.mp z]; exact nice_ints r) (by decide)
section
variable {K : PySem.W.Frag} {σ : L2.St} {H : Hp} {te : TE} {vs : List Nat} {i j k : Nat}
/-- tuple([a number for row in rows]) -/
theorem ev_rowsT {p : Addr} {xs : List V} {rws : Rows} (hi : σ[i]? = some (some (.ref p))) (hp : H p = some (.lst xs)) (hx : Paired (RowV H) xs rws) (few : rws.length ≤ 1000) (hw : ∀ x, wipe ((wipe σ vs).set j (some x)) vs = wipe σ vs) (f : Row → Int)
    (he : ∀ r x H1, r ∈ rws → Same H H1 → RowV H1 x r → Ev te ((wipe σ vs).set j (some x)) H1 fun v _ => v = .int (f r)) :
    Ev (tCB (fun xs H Q => ∃ p ys, xs = [.ref p] ∧ ((SqL K H p ys ∧ ∀ l, H l = none → Q (.ref l) (upd H l (.tup ys))) ∨ (SqT K H p ys ∧ Q (.ref p) H))) (tCons (tLc (iList K (tVar i)) (gName j) tYes te vs) tNil)) σ H fun v H1 => R1 (rws.map f) v H1 := fun Q q => by
  have hlx := Paired.length hx
  dsimp only [tCB, tCons, tNil]
  refine lc_runL (K := K) (xs := xs) (fun Q q => ⟨_, hi, q _ _ (Same.refl _) ⟨p, rfl, SqL.of hp⟩⟩) rws hlx (fun _ => true) (fun r v _ => v = .int (f r)) (by omega) hw (fun _ _ _ _ _ h => h)
    (fun n r x H1 hr hxi e => ⟨evt_yes, fun _ H3 e3 => ?_⟩) (fun p5 H5 ys hp5 e5 hl5 hP5 => ?_)
  · obtain ⟨r', hr', hrow⟩ := paired_ix2 hx hxi
    obtain rfl : r' = r := by rw [hr] at hr'; exact (Option.some.inj hr').symm
    exact he _ x H3 (List.mem_of_getElem? hr) (e.trans e3) (hrow.mono (tups_of (e.trans e3)))
  · rw [filter_all] at hP5
    refine ⟨p5, ys, rfl, .inl ⟨SqL.of hl5, fun l hl => q _ _ (e5.trans (same_new hl)) ⟨l, rfl, ?_⟩⟩⟩
    rw [upd_same, paired_fun hP5, List.map_map]
    rfl
/-- numbers[e] -/
theorem ev_numT {x : TE} {p : Addr} {ns : List Nat} {y : Int} (hi : σ[i]? = some (some (.ref p))) (hp : Rd H p (.tup (natV ns))) (hx : Ev x σ H fun v _ => v = .int y) (h0 : 0 ≤ y) (h1 : y < ns.length) : Ev (tOp (rIxT K) (tVar i) x) σ H fun v _ => v = .int ((ns.getD y.toNat 0 : Nat) : Int) := fun Q q => by
  refine ⟨_, hi, hx _ fun u H1 e1 eu => ⟨p, natV ns, y, _, rfl, eu, .inl (rd_keep e1 hp), ?_, q _ _ e1 rfl⟩⟩
  obtain ⟨n, rfl⟩ : ∃ n : Nat, y = (n : Int) := ⟨y.toNat, by omega⟩
  rw [Int.toNat_natCast]
  exact atI_nat (natV_at (by omega))
end
section
variable {P : Program} {w : World} {K : PySem.W.Frag} {mg : Str → Option Value} {base : Heap} {C : Addr}
theorem paired_rows {H : Hp} : ∀ {kv : List (L2.Key × V)} {t : Tab}, TabV H kv t → Paired (RowV H) (kv.map (·.2)) (t.map (·.2))
  | _, _, .nil => .nil
  | _, _, .cons h r => .cons h.2 (paired_rows r)
def rowsOf (t : Tab) : Rows := t.map (·.2)
end
end Tm

/-! max(a tuple), a tuple's index; image_of. -/
namespace Tm
open PySem PySem.Spec PyProof.Rows L2
local macro_rules | `(tactic| walk_at "x") => `(tactic| dsimp only [tNext, tRet, tSeq, tCall, tCB, tC, tCons, tNil, tAsg, tDrop, sFld])
def rMaxT (K : PySem.W.Frag) : List V → Hp → VK → Prop := fun vs H Q => ∃ (a : Addr) (ns : List Nat), vs = [V.ref a] ∧ SqT K H a (natV ns) ∧ 0 < ns.length ∧ ∀ m ∈ ns, (∀ y ∈ ns, y ≤ m) → Q (.int ((m : Nat) : Int)) H
theorem cr_maxT {X : Cx} {K : PySem.W.Frag} (calm : X.calm = true) (hK : X.K = K := by rfl) : CallR X (.builtin "max") (rMaxT K) := by
  subst hK
  intro pins s σ H vs us Q I r h
  obtain ⟨a, ns, rfl, hs, pos, q⟩ := h
  rw [Vals.ref1 r]
  obtain ⟨its, rv, tup, _⟩ := I.tuple hs
  have isT : s.heap.IsTuple a its.toArray := tup
  have less : a < s.heap.objs.size := by
    obtain ⟨_, e, _⟩ := id isT
    exact Heap.lt_size e
  have cnt : its.length = ns.length := by rw [← rv.length, natV_len]
  have nums : ∀ (i : Nat) (v : Value), its.toArray[i]? = some v → ∃ t, v = Value.int ((ns.getD i 0 : Nat) : Int) t := fun i v hv => by
    have hv2 : its[i]? = some v := by simpa using hv
    have hi : i < ns.length := cnt ▸ (List.getElem?_eq_some_iff.mp hv2).1
    obtain ⟨u, hu, ru⟩ := rv.get (natV_at hi)
    rw [hv2] at hu
    cases hu
    exact ru
  refine call_max_walk (wpAny_pyIter_tuple isT ⟨_, _, _, _, _, _, _, rfl, Walks.tuple (A := X.A.in1) (I.ok.hd calm) _ a (Nat.ne_of_lt less) its.toArray, ⟨⟨_, Heap.get?_push_size _ rfl, rfl, rfl⟩, isT.push _⟩, fun b hb => ?_, by simpa [cnt] using pos, CmpOf.ints_gt (fun i => ((ns.getD i 0 : Nat) : Int)) nums, fun v g n hv keep => ?_⟩)
  · have big : ∀ o, (s.heap.push o).objs.size = s.heap.objs.size + 1 := fun o => Heap.size_push ..
    refine Nat.lt_of_lt_of_eq ?_ (big _).symm
    rcases List.mem_cons.mp hb with e | e
    · exact e ▸ Nat.lt_succ_self _
    · exact List.mem_singleton.mp e ▸ Nat.lt_succ_of_lt less
  · obtain ⟨t, rfl⟩ := nums _ v hv
    obtain ⟨b1, b2⟩ := argBest_gt (fun i => ((ns.getD i 0 : Nat) : Int)) (its.toArray.size - 1)
    have in_ : argBest (fun i j => decide (((ns.getD i 0 : Nat) : Int) > ((ns.getD j 0 : Nat) : Int))) (its.toArray.size - 1) < ns.length := by
      have sz : its.toArray.size = its.length := List.size_toArray
      omega
    refine ⟨.int _, H, I.kept (t' := n) fun b u e => keep b u (fun m => Nat.ne_of_lt (Heap.lt_size e) (List.mem_singleton.mp m)) (Heap.get?_push_of_some _ e), ⟨t, rfl⟩, q _ ?_ fun y hy => ?_⟩
    · rw [List.getD_eq_getElem?_getD, List.getElem?_eq_getElem in_]
      exact List.getElem_mem in_
    · obtain ⟨j, hj, rfl⟩ := List.mem_iff_getElem.mp hy
      have h2 := b2 j (by have sz : its.toArray.size = its.length := List.size_toArray; omega)
      have e : ns.getD j 0 = ns[j] := by rw [List.getD_eq_getElem?_getD, List.getElem?_eq_getElem hj]; rfl
      rw [e] at h2
      exact Int.ofNat_le.mp h2
theorem flat_nats (l : List Nat) : (natV l).all flatV = true := flat_nat l
theorem mt_tupIx {X : Cx} {K : PySem.W.Frag} (hK : X.K = K := by rfl) : MtR X "tuple.index" (fun x xs H Q => ∃ (p : Addr) (ns : List Nat) (z j : Nat), x = .ref p ∧ xs = [.int (z : Int)] ∧ SqT K H p (natV ns) ∧ ns[j]? = some z ∧ (∀ m, m < j → ns[m]? ≠ some z) ∧ Q (.int (j : Nat)) H) := by
  subst hK
  intro pins s σ H x xs v us Q I rx rs h
  obtain ⟨p, ns, z, j, rfl, rfl, hs, hz, no, q⟩ := h
  cases rx
  obtain ⟨u, rfl, t, rfl⟩ := vals1 rs
  obtain ⟨its, rv, pl, _⟩ := I.tuple hs
  obtain ⟨⟨cls, dd, dt, sl⟩, ho, hc, n, hd⟩ := pl
  simp only at hc hd
  subst hc
  subst hd
  have cnt : its.toArray.size = ns.length := by rw [List.size_toArray, ← rv.length, natV_len]
  have hj : j < its.toArray.size := by rw [cnt]; exact (List.getElem?_eq_some_iff.mp hz).1
  have at_ : ∀ (m : Nat) (hm : m < its.toArray.size), ∃ y t', ns[m]? = some y ∧ its.toArray[m] = Value.int ((y : Nat) : Int) t' := fun m hm => by
    have hm' : m < ns.length := by rw [← cnt]; exact hm
    obtain ⟨u, hu, t', ht'⟩ := rv.get (natV_at hm')
    refine ⟨ns[m], t', List.getElem?_eq_getElem hm', ?_⟩
    have e1 := (List.getElem?_eq_some_iff.mp hu).2
    have e2 : ns.getD m 0 = ns[m] := by rw [List.getD_eq_getElem?_getD, List.getElem?_eq_getElem hm']; rfl
    rw [e2] at ht'
    rw [← ht', ← e1]
    simp
  refine call_meets PySem.F.slot_tuple_index ⟨_, ho, rfl⟩ PySem.F.entry_tuple_index (PySem.F.args_tuple_index_2 _ _) (TI.tuple_indexAt p its.toArray n dd sl (.int (z : Int) t) (eqU (.int (z : Int))) j hj ?_ ?_)
    ⟨ho, fun u hu => mem_eqAt (x := .int (z : Int)) ⟨t, rfl⟩ rfl rv (flat_nats ns) u (by simpa using hu), ⟨.int (j : Nat), H, I.tok _, ⟨_, rfl⟩, q⟩⟩
  · obtain ⟨y, t', h1, h2⟩ := at_ j hj
    rw [hz] at h1
    cases h1
    rw [h2]
    show ((z : Int) == (z : Int)) = true
    exact beq_self_eq_true _
  · intro m hm hmj
    obtain ⟨y, t', h1, h2⟩ := at_ m hm
    rw [h2]
    show ((y : Int) == (z : Int)) = false
    exact beq_eq_false_iff_ne.mpr fun e => no m hmj (by rw [h1, Int.ofNat.inj e])
/-- a method of a tuple that has no dict of its own -/
def tTupM (r : V → List V → Hp → VK → Prop) (to : TE) (t : TA) : TE := fun σ H Q => to σ H fun x H1 => (∃ p ns, x = .ref p ∧ TupD H1 p ns) ∧ t σ H1 fun xs H2 => r x xs H2 Q
theorem pe_tupM {X : Cx} {id : String} {r : V → List V → Hp → VK → Prop} {o e : Expr} {es : List Expr} {to : TE} {t : TA} {name : Str} {apos cpos : Pos} (pa : PlainAttrs "tuple") (slot : Slot "tuple" name id) (hty : typeOf (.builtin id) = pure (.type "method_descriptor")) (hm : MtR X id r) (ho : PE X o to) (ha : PA X (e :: es) t)
    (base : attributeBase o name X.env (eval o X.env) = eval o X.env := by rfl)
    (few : ((backTo cpos (starEach (e :: es) X.env)).all (fun x => !x.1) && (backToKw cpos (keywordEach [] X.env)).all (fun x => x.1.isSome) && decide ((e :: es).length + ([] : List Keyword).length + (if ([] : List Keyword).isEmpty then 0 else 1) < 30)) = true := by rfl)
    (line : (apos.endLine == cpos.line) = true := by rfl) (star : starEach (e :: es) X.env = (false, eval e X.env) :: starEach es X.env := by rfl) (plain : (backTo cpos (starEach es X.env)).any (·.1) = false := by rfl) :
    PE X (.Call (.Attribute o name apos) (e :: es) [] cpos) (tTupM r to t) := by
  refine ⟨fun pins s σ H Q I h => wpAny_Call_method_late base few line rfl (thn (ho.run pins s σ H _ I h) fun v s1 ⟨x, H1, I1, r1, td, q1⟩ => ?_)⟩
  obtain ⟨p, ns, rfl, ob, nodict, hp⟩ := td
  cases r1
  obtain ⟨get, room, its, rv, o2, get2, cl, _⟩ := I1.hok _ _ hp
  rw [get] at get2
  cases get2
  refine ⟨"tuple", id, pa, slot, hty, ⟨ob, get, cl⟩, fun a ea => by cases ea; exact ⟨ob, get, nodict⟩, ?_⟩
  have run := ha.run cpos pins s1 σ H1 _ I1 q1
  rw [star] at run ⊢
  refine Calls.callWith_builtin (by show (false || (backTo cpos (starEach es X.env)).any (·.1)) = false; rw [plain] <;> rfl) (Calls.evalArgs_plain ?_)
  exact thn run fun us s2 ⟨vs, H2, I2, r2, q2⟩ => hm pins s2 σ H2 (.ref p) vs (.ref p) us Q I2 rfl r2 q2
/-! ### image_of -/
def imgN (t : Tab) : List Nat := clsN (rowsOf t) (sizeT t) (sizeT t)
def ixN (ns : List Nat) (k : Nat) : Nat := ixOf (ns.map fun (n : Nat) => [(n : Int)]) [(k : Int)]
theorem ixN_at {ns : List Nat} {k : Nat} (h : k ∈ ns) : ns[ixN ns k]? = some k ∧ ∀ m, m < ixN ns k → ns[m]? ≠ some k := by
  obtain ⟨h1, h2⟩ := ixOf_at (l := ns.map fun (n : Nat) => [(n : Int)]) (m := [(k : Int)]) (List.mem_map.mpr ⟨k, h, rfl⟩)
  constructor
  · rw [List.getElem?_map] at h1
    show ns[ixOf (ns.map fun (n : Nat) => [(n : Int)]) [(k : Int)]]? = some k
    cases hc : ns[ixOf (ns.map fun (n : Nat) => [(n : Int)]) [(k : Int)]]? with
    | none => rw [hc] at h1; cases h1
    | some y =>
      rw [hc] at h1
      have := Option.some.inj h1
      simp only [List.cons.injEq, and_true] at this
      rw [Int.ofNat.inj this]
  · intro m hm e
    exact h2 m [(k : Int)] hm (by rw [List.getElem?_map, e]; rfl) rfl
def maxN (ns : List Nat) : Nat := ns.foldl max 0
def firN (ns : List Nat) (m : Nat) : List Nat := (List.range (m + 1)).map (ixN ns)
def gOf (ns : List Nat) (i : Int) : Option Int := if 0 ≤ i then (ns[i.toNat]?).map fun (n : Nat) => (n : Int) else none
/-- what is asked of the numbers m (the greatest of them) of a table's classes -/
structure ImgOk (t : Tab) (m : Nat) : Prop where
  few : m + 1 ≤ 13
  mem : m ∈ imgN t
  top : ∀ y ∈ imgN t, y ≤ m
  all : ∀ k, k ≤ m → k ∈ imgN t
  over : overOk (firN (imgN t) m) (gOf (imgN t)) t
def imgT (t : Tab) (m : Nat) : Tab := overT (firN (imgN t) m) (gOf (imgN t)) t
section
variable {P : Program} {w : World} {K : PySem.W.Frag} {mg : Str → Option Value} {base : Heap} {C : Addr}
/-- (a kind, a tuple of numbers) -/
def DuoV (C : Addr) (H : Hp) (v : V) (t : Tab) (ns : List Nat) : Prop := ∃ p k q, v = .ref p ∧ H p = some (.tup [k, .ref q]) ∧ KindV C H k t ∧ TupD H q ns
end
end Tm

/-! enumerate(a tuple); cut_kind. -/
namespace TmE
open PySem PySem.Spec PyProof.Rows L2 Tm
open AutoSeq1 (wpAny_loadPart')
abbrev itO (l : Addr) : Obj := { cls := .type "tuple_iterator", data := .fields #[.ref l, .int 0 0] }
abbrev enO (it : Addr) : Obj := { cls := .type "enumerate", data := .fields #[.none, .bool false, .ref it, rawInt 0, .none, .none] }
theorem meets_enT (l : Addr) (items : Array Value) (n : Nat) (dct : Option Addr) (sl : Array (Option Value)) :
    Meets (Builtin.«enumerate.__new__» ⟨[.type "enumerate", .ref l], []⟩) (fun _ R s => s.heap.get? l = some ⟨.type "tuple", dct, .seq items n, sl⟩ ∧
      R (.ok (.ret (.ref (s.heap.push (itO l)).objs.size))) { s with heap := (s.heap.push (itO l)).push (enO s.heap.objs.size) }) :=
  .of_wp fun prog w A R s h => by
    obtain ⟨heap0, gen0, drawn0, tok0, os0⟩ := s
    obtain ⟨there, h⟩ := h
    have ofT := sub_enumerate
    have isT : Heap.IsTuple (Shared.heap ⟨heap0, gen0, drawn0, tok0, os0⟩) l items := ⟨_, there, rfl, n, rfl⟩
    wp_walk using wpAny_loadPart' there
    refine wpAny_stack_any fun stack => wpAny_pure ?_
    split
    · rename_i cl _ _ _ _ _
      cases (cl == Value.type "enumerate") <;>
        (wp_walk using wpAny_loadPart' there, wpAny_pyIter_tuple isT
         exact ⟨_, rfl, h⟩)
    · wp_walk using wpAny_loadPart' there, wpAny_pyIter_tuple isT
      exact ⟨_, rfl, h⟩
section
variable {prog : Program} {w : World} {A : Around} {E : Value → Shared → Prop} {s : Shared}
theorem call_enT {l : Addr} {items : Array Value} {Q : Value → Shared → Prop} (isT : s.heap.IsTuple l items)
    (k : ∀ g, IsEnum g (s.heap.objs.size + 1) s.heap.objs.size 0 .none → g.IsTupleIter s.heap.objs.size l 0 → (∀ b o, s.heap.get? b = some o → g.get? b = some o) → Q (.ref (s.heap.objs.size + 1)) { s with heap := g }) :
    wpAny (model prog w) A (call (.type "enumerate") [.ref l]) Q E s := by
  obtain ⟨⟨cl, dct, dat, sl⟩, there, cl_, n, dat_⟩ := isT
  replace cl_ : cl = .type "tuple" := cl_
  replace dat_ : dat = .seq items n := dat_
  subst cl_ dat_
  refine callType_new F.called_enumerate (by decide) (F.typeCall_enumerate_1 _) (F.newCall_enumerate_1 _) (fun obj => F.args_object_init_2 obj _) F.entry_enumerate_new (meets_enT l items n dct sl) ⟨there, ?_⟩
  have one : (s.heap.push (itO l)).objs.size = s.heap.objs.size + 1 := Heap.size_push ..
  show _ ∧ _
  rw [one]
  have isE : IsEnum ((s.heap.push (itO l)).push (enO s.heap.objs.size)) (s.heap.objs.size + 1) s.heap.objs.size 0 .none := by
    have q := Heap.get?_push_size (s.heap.push (itO l)) (o := enO s.heap.objs.size) rfl
    rw [one] at q
    exact q
  exact ⟨⟨_, isE, rfl⟩, k _ isE ⟨_, Heap.get?_push_of_some _ (Heap.get?_push_size _ rfl), rfl, rfl⟩ fun b o x => Heap.get?_push_of_some _ (Heap.get?_push_of_some _ x)⟩
theorem drawsT (calm : A.handled = none) (it l : Addr) (ne : l ≠ it) (items : Array Value) : Draws prog w A it [it, l] items.size (fun i v => items[i]? = some v) (fun i h => h.IsTupleIter it l i ∧ h.IsTuple l items) where
  live := fun _ _ st => st.1.elim fun o q => ⟨o, q.1⟩
  frame := fun _ _ _ st k => ⟨st.1.at fun o e => k it (by simp) o e, st.2.at fun o e => k l (by simp) o e⟩
  item := fun i s Q E hi st q => RZ.nextOf_tuple_item st.1 st.2 (x := items[i]) (by simp [hi]) fun g st1 sb => q _ g s.toks (by simp [hi]) ⟨st1, st.2.extBut sb.extBut ne⟩ sb
  done := fun s Q E st q => RZ.nextOf_tuple_end calm st.1 st.2 (by simp) q
end
/-- a tuple's items, each in a new pair -/
def IteT (K : PySem.W.Frag) (a : Addr) : It :=
  ⟨fun i H => ∃ (xs : List V) (x : V), SqT K H a xs ∧ xs[i]? = some x, fun i H v H' => ∃ T x, v = .ref T ∧ H T = none ∧ H' = upd H T (.tup [.int (i : Nat), x]) ∧ ∀ xs, SqT K H a xs → xs[i]? = some x, fun i H => ∃ xs : List V, SqT K H a xs ∧ xs.length = i⟩
theorem tup_not {h : Heap} {a b : Addr} {items : Array Value} {o : Obj} (t : h.IsTuple a items) (g : h.get? b = some o) (c : o.cls ≠ .type "tuple") : a ≠ b := by
  rintro rfl
  obtain ⟨q, hq, cq, _⟩ := t
  rw [hq] at g
  cases g
  exact c cq
theorem turn_enT {P : Program} {w : World} {K : PySem.W.Frag} {elts : List Expr} {kk : Nat} {tpos : Pos} (a e it : Addr) :
    Turn P w K (.Tuple elts kk tpos) (IteT K a) [e, it] e (fun i h => (∃ old, IsEnum h e it ((i : Nat) : Int) old) ∧ h.IsTupleIter it a i ∧ e ≠ it) where
  mem := List.mem_cons_self
  obj := fun i h st b hb => by
    obtain ⟨⟨old, isE⟩, ⟨o, ho, _, dat⟩, _⟩ := st
    rcases List.mem_cons.mp hb with z | z
    · exact z ▸ ⟨_, isE, fun v q => nomatch q⟩
    · exact List.mem_singleton.mp z ▸ ⟨o, ho, fun v q => by rw [dat] at q; cases q⟩
  keep := fun i h h' st k => ⟨st.1.elim fun old isE => ⟨old, k e List.mem_cons_self _ isE⟩, st.2.1.at fun o q => k it (List.mem_cons_of_mem _ List.mem_cons_self) o q, st.2.2⟩
  item := by
    intro X eP ew eK calm i pins s σ H E I fr st go
    subst eP ew eK
    obtain ⟨⟨old, isE⟩, isI, ne⟩ := st
    obtain ⟨xs, x, hs, hx⟩ := go
    obtain ⟨its, rv, tup, _⟩ := I.tuple hs
    have isT : s.heap.IsTuple a its.toArray := tup
    obtain ⟨u, hu, ru⟩ := rv.get hx
    have ltE : e < s.heap.objs.size := Heap.lt_size isE
    have ltI : it < s.heap.objs.size := by
      obtain ⟨_, q, _⟩ := isI
      exact Heap.lt_size q
    have nI : a ≠ it := by
      obtain ⟨o, ho, ci, _⟩ := id isI
      exact tup_not isT ho (by rw [ci]; decide +kernel)
    have nE : a ≠ e := tup_not isT isE (show Value.type "enumerate" ≠ Value.type "tuple" by decide +kernel)
    have D := drawsT (prog := X.prog) (w := X.w) (A := X.A.in1) (I.ok.hd calm) it a nI its.toArray
    have lt : i < its.toArray.size := by
      rw [List.size_toArray]
      exact (List.getElem?_eq_some_iff.mp hu).1
    refine wpAny_pyNext_enum_itemD D isE ⟨isI, isT⟩ lt ne (fun z => by
      rcases List.mem_cons.mp z with z | z
      · exact ne z
      · exact nE (List.mem_singleton.mp z).symm) fun x' g tk at_ out st1 newT _ kept => ?_
    obtain rfl : x' = u := by
      have : its[i]? = some x' := by simpa using at_
      rw [hu] at this
      exact (Option.some.inj this).symm
    refine ⟨_, rfl, wpAny_letOwnedTupleGo_enum (s := { s with heap := g, toks := tk + 1 }) out fun g2 isE2 sb => ?_⟩
    have newT2 : g2.get? s.heap.objs.size = some { cls := .type "tuple", data := .seq #[.int i tk, x'] } := (sb.2 _ (Nat.ne_of_gt ltE)).trans newT
    have new : ObjOk X.prog X.w (upd H s.heap.objs.size (.tup [.int (i : Nat), x])) g2 s.heap.objs.size (.tup [.int (i : Nat), x]) :=
      ⟨by show 2 ≤ sizeLine; decide, [.int i tk, x'], .cons ⟨_, rfl⟩ (.cons ru .nil), ⟨_, newT2, rfl, _, rfl⟩⟩
    have off : ∀ b, b ∉ [e, it] → b ≠ e ∧ b ≠ it := fun b hb => ⟨fun z => hb (by simp [z]), fun z => hb (by simp [z])⟩
    have J : Inv X pins σ (upd H s.heap.objs.size (.tup [.int (i : Nat), x])) { s with heap := g2, toks := tk + 1 } :=
      I.turnedNew (ch := [e, it]) (fun b ob hb q => (sb.2 b (off b hb).1).trans (kept b ob (off b hb).1 (off b hb).2 q)) fr (Nat.le_refl _) new
    refine ⟨.ref s.heap.objs.size, _, J, rfl, ⟨_, x, rfl, I.hok.fresh (Nat.le_refl _), rfl, fun ys hy => by rw [I.tuple_inj hy hs]; exact hx⟩, ⟨⟨x', ?_⟩, st1.1.at fun o q => (sb.2 it (Ne.symm ne)).trans q, ne⟩, fun b hb => ?_⟩
    · rw [show ((i + 1 : Nat) : Int) = (i : Int) + 1 from by omega]
      exact isE2
    · have small : b < s.heap.objs.size := by
        rcases List.mem_cons.mp hb with z | z
        · exact z ▸ ltE
        · exact List.mem_singleton.mp z ▸ ltI
      rw [upd_ne (Nat.ne_of_lt small)]
      exact (fr b hb).1
  done := by
    intro X eP ew eK calm i pins s σ H E I fr st stop
    subst eP ew eK
    obtain ⟨⟨old, isE⟩, isI, ne⟩ := st
    obtain ⟨xs, hs, cnt⟩ := stop
    obtain ⟨its, rv, tup, _⟩ := I.tuple hs
    have isT : s.heap.IsTuple a its.toArray := tup
    have nI : a ≠ it := by
      obtain ⟨o, ho, ci, _⟩ := id isI
      exact tup_not isT ho (by rw [ci]; decide +kernel)
    have D := drawsT (prog := X.prog) (w := X.w) (A := X.A.in1) (I.ok.hd calm) it a nI its.toArray
    have ei : its.toArray.size = i := by rw [List.size_toArray, ← rv.length, cnt]
    obtain ⟨f0, f1, f2, f3, f4, f5⟩ := fr it (List.mem_cons_of_mem _ List.mem_cons_self)
    refine wpAny_pyNext_enum_endD D isE ⟨ei.symm ▸ isI, isT⟩ fun g eb => ⟨rfl, I.turned (t' := s.toks) (fun b o hb q => eb b o hb q) f0 f1 f3 f4 f5⟩
  self := fun A i s Q E st q => st.1.elim fun old isE => wpAny_pyIter_enum isE q
def iEnT (K : PySem.W.Frag) (ta : TA) : TI := fun σ H R => ta σ H fun vs H1 => ∃ a xs, vs = [.ref a] ∧ SqT K H1 a xs ∧ R (IteT K a) H1
theorem pi_enT {X : Cx} {K : PySem.W.Frag} {e : Expr} {ta : TA} {p pos tpos : Pos} {elts : List Expr} {kk : Nat} (gl : Gl X "enumerate") (un : X.mg "enumerate" = none) (ha : PA X [e] ta) (hK : X.K = K := by rfl) (star : starEach [e] X.env = [(false, eval e X.env)] := by rfl) :
    PI X (.Tuple elts kk tpos) (.Call (.Name "enumerate" p) [e] [] pos) (iEnT K ta) := by
  subst hK
  refine ⟨fun pins s σ H R I h => Call_ (ld_blt I gl un boot_enumerate (PyProof.Rows.callWith_type1 (thn (ha.run pos pins s σ H _ I h) fun us s1 ⟨vs, H1, I1, r1, q1⟩ => ?_) star rfl))⟩
  obtain ⟨a, xs, rfl, hs, q⟩ := q1
  rw [Vals.ref1 r1]
  obtain ⟨its, rv, tup, _⟩ := I1.tuple hs
  refine call_enT (show s1.heap.IsTuple a its.toArray from tup) fun g isE isI kept => wpAny_pyIter_enum isE ?_
  have J : Inv X pins σ H1 { s1 with heap := g } := I1.kept (t' := s1.toks) kept
  refine ⟨s1.heap.objs.size + 1, [s1.heap.objs.size + 1, s1.heap.objs.size], _, _, H1, rfl, J, turn_enT a (s1.heap.objs.size + 1) s1.heap.objs.size, ⟨⟨.none, isE⟩, isI, Nat.succ_ne_self _⟩, fun b hb => ?_, q⟩
  have big : s1.heap.objs.size ≤ b := by
    rcases List.mem_cons.mp hb with z | z
    · exact z ▸ Nat.le_succ _
    · exact Nat.le_of_eq (List.mem_singleton.mp z).symm
  exact I1.fpOk big (I1.hok.fresh big)
end TmE
namespace Tm
open PySem PySem.Spec PyProof.Rows L2 TmE
local macro_rules | `(tactic| walk_at "x") => `(tactic| dsimp only [tNext, tRet, tSeq, tCall, tCB, tC, tCons, tNil, tAsg, tDrop, sFld])
theorem walk_enT {K : PySem.W.Frag} {a : Addr} {xs : List V} : Walk (IteT K a) xs.length (fun H => SqT K H a xs) (YPair (fun i => some (.int (i : Nat))) (fun i => xs[i]?)) := by
  refine ⟨fun i _ hi q => ⟨xs, xs[i], q, by simp [hi]⟩, fun _ q => ⟨xs, q, rfl⟩, fun i H v H' _ q y => ?_⟩
  obtain ⟨T, x, h1, h2, h3, h4⟩ := y
  exact ⟨T, .int (i : Nat), x, h1, h2, h3, rfl, h4 xs q⟩
/-- {old: number for number, old in enumerate(a tuple of numbers)} -/
theorem dc_enT {K : PySem.W.Frag} {σ : L2.St} {H : Hp} {Q : VK} {i j : Nat} {ta : TA} {vs : List Nat} {ns : List Nat} (hl : EvA ta σ H fun l H1 => ∃ a, l = [.ref a] ∧ Rd H1 a (.tup (natV ns))) (few : ns.length ≤ 1000) (nd : ns.Nodup)
    (hw : ∀ x y, wipe (((wipe σ vs).set i (some x)).set j (some y)) vs = wipe σ vs) (gi : ∀ x y, (((wipe σ vs).set i (some x)).set j (some y))[i]? = some (some x)) (gj : ∀ x y, (((wipe σ vs).set i (some x)).set j (some y))[j]? = some (some y))
    (hq : ∀ p H1 kvs, Same H H1 → H1 p = some (.dK kvs) → Paired (fun kv z => kv.1 = Sum.inl ((z.1 : Nat) : Int) ∧ kv.2 = V.int ((z.2 : Nat) : Int)) kvs ns.zipIdx → Q (.ref p) H1) :
    tDc (iEnT K ta) (gTup K 2 (gCons (gName i) (gCons (gName j) gNil))) tYes (tVar j) (tVar i) vs σ H Q := by
  refine hl _ fun v H1 e h => ?_
  obtain ⟨a, ea, hr⟩ := h
  have hs : SqT K H1 a (natV ns) := .inl hr
  have cnt : ns.zipIdx.length = (natV ns).length := by rw [List.length_zipIdx, natV_len]
  refine ⟨a, natV ns, ea, hs, dc_go (Q := Q) walk_enT ns.zipIdx (fun _ => true) (fun z => Sum.inl ((z.1 : Nat) : Int)) (fun z v _ => v = V.int ((z.2 : Nat) : Int)) cnt (by rw [natV_len]; omega) ?_ (fun _ _ _ _ _ h => h) (fun H2 e2 => same_seqT e2 hs) (fun k z x H2 H' hz e2 y Qg qg => ?_) (fun p H2 kvs hp e2 hd hP => ?_)⟩
  · have e3 : ns.zipIdx.map (fun z => (Sum.inl ((z.1 : Nat) : Int) : L2.Key)) = ns.map fun n : Nat => Sum.inl (n : Int) := by
      have := congrArg (List.map fun n : Nat => (Sum.inl (n : Int) : L2.Key)) (List.zipIdx_map_fst 0 (l := ns))
      rw [List.map_map] at this
      exact this
    rw [e3, List.nodup_iff_pairwise_ne, List.pairwise_map]
    exact (List.nodup_iff_pairwise_ne.mp nd).imp fun h z => h (Int.ofNat.inj (Sum.inl.inj z))
  · obtain ⟨T, x', y', rfl, hT, rfl, hx, hy⟩ := y
    have ex : V.int (k : Int) = x' := Option.some.inj hx
    subst ex
    obtain ⟨z1, z2⟩ := z
    have hz2 := hz
    rw [List.getElem?_zipIdx] at hz2
    obtain ⟨w1, hw1, hw2⟩ := Option.map_eq_some_iff.mp hz2
    have e5 : z1 = w1 ∧ z2 = k := by
      have := hw2
      simp only [Nat.zero_add, Prod.mk.injEq] at this
      exact ⟨this.1.symm, this.2.symm⟩
    have ey : V.int ((z1 : Nat) : Int) = y' := by
      have h6 : (natV ns)[k]? = some y' := hy
      unfold natV at h6
      rw [List.getElem?_map, hw1] at h6
      rw [e5.1]
      exact Option.some.inj h6
    subst ey
    have e7 : Same H2 (upd H2 T (.tup [V.int (k : Int), V.int ((z1 : Nat) : Int)])) := same_new hT
    refine pair_names (SqT.of upd_same) (qg _ _ (hw _ _) e7 evt_yes (fun _ H3 e3 => ev_is (gj _ _) rfl) fun _ H3 e3 => ev_is (gi _ _) (by rw [e5.2]))
  · rw [filter_all] at hP
    exact hq p H2 kvs (e.trans e2) hd hP
/-- name = {..: .. for ..} -/
theorem ps_setDc {X : Cx} {i : Nat} {y : Str} {py : Pos} {kx vx tg iter : Expr} {ifs : List Expr} {sco : Scope} {own : List (Str × Nat)} {pos spos : Pos} {wi : TI} {g : TG} {tt : TT} {tk tv : TE} (calm : X.calm = true) (nd : X.N.Nodup) (hy : X.N[i]? = some y) (loc : X.env.scope.names.lookup y = some .local)
    (sw : swapsWith (.DictComp kx vx [⟨tg, iter, ifs, 0⟩] sco pos) (some (.Name y py)) spos.line X.env = pure true) (it : PI X tg iter wi) (blk : BlkOk X.N X.env.scope sco own)
    (tgt : ∀ (s : Shared) (H : Hp) (C : Addr) (cl : List (Str × Addr)) (fp : List Addr), PG (X.blk s H sco (compEnvC sco cl C X.env) fp) tg g) (tst : ∀ (s : Shared) (H : Hp) (C : Addr) (cl : List (Str × Addr)) (fp : List Addr), PTs (X.blk s H sco (compEnvC sco cl C X.env) fp) ifs tt)
    (key : ∀ (s : Shared) (H : Hp) (C : Addr) (cl : List (Str × Addr)) (fp : List Addr), PE (X.blk s H sco (compEnvC sco cl C X.env) fp) kx tk) (val : ∀ (s : Shared) (H : Hp) (C : Addr) (cl : List (Str × Addr)) (fp : List Addr), PE (X.blk s H sco (compEnvC sco cl C X.env) fp) vx tv)
    (fold : ∀ x, foldedSetIterable iter X.env x = pure x := by intro _; rfl) : PS X (.Assign [.Name y py] (.DictComp kx vx [⟨tg, iter, ifs, 0⟩] sco pos) spos) (tAsg (tDc wi g tt tk tv (own.map (·.2))) (gName i)) := by
  refine ⟨fun pins s σ H D I h => ?_⟩
  rw [exec_Assign_Name_used _ _ _ _ sw]
  refine wpAny_bind (wpAny_standAt (wpAny_bind ?_))
  show wpAny _ X.A (do let _ ← comprehension (.DictComp kx vx [⟨tg, iter, ifs, 0⟩] sco pos) sco X.env (firstIterPos [⟨tg, iter, ifs, 0⟩] pos) newDict false (eval iter X.env) (some (assign (.Name y py) X.env))) _ _ s
  have h2 : tDc wi g tt tk tv (own.map (·.2)) σ H (fun x H1 => gName i x σ H1 D.nx) := h
  refine wpAny_bind (thn (dc_core (Qf := fun _ s1 => SP X pins D .next s1) calm nd I it blk tgt tst key val fold h2 fun L C s1 m H1 I1 q ns fr => ?_) fun _ s1 z => wpAny_pure (wpAny_pure z))
  show wpAny _ _ (assign (.Name y py) X.env (.ref L)) _ _ _
  refine wpAny_assign_Name (store_ok2 (v := V.ref L) I1 nd hy (.inl loc) rfl (fun s2 I2 ⟨a, sb, ea⟩ => ?_) (.inr loc))
  obtain ⟨f0, f1, f2, f3, f4, f5⟩ := fr
  have ne : C ≠ a := by
    rcases ea with z | z
    · exact z ▸ f1
    · exact fun e => f4 y a z e.symm
  exact ⟨m, ns.sameBut sb ne, fun g2 sb2 => ⟨_, H1, I2.turned (t' := s2.toks) (fun b o hb e => (sb2.2 b hb).trans e) f0 f1 f3 f4 f5, q⟩⟩
theorem sw_dict {kx vx : Expr} {gs : List Comprehension} {sco : Scope} {pos py : Pos} {y : Str} {l : Nat} {env : Env} (fn : env.scope.kind = .function) (loc : env.scope.names.lookup y = some .local) (line : (py.line == pos.line) = true)
    (no : (sco.names.any fun (n, k) => n == y && (k == .local || k == .cell)) = false) : swapsWith (.DictComp kx vx gs sco pos) (some (.Name y py)) l env = pure true := by
  have isL : env.kindOf y = some .local := loc
  have isF : env.blockKind = .function := by
    unfold Env.blockKind
    rw [fn]
    rfl
  unfold swapsWith
  simp only [isF, isL, no, Expr.pos, line]
  rfl
/-- the place of a number -/
def gIx (ns : List Nat) (i : Int) : Option Int := (ns.zipIdx.find? fun z => decide (((z.1 : Nat) : Int) = i)).map fun z => ((z.2 : Nat) : Int)
theorem look_ix : ∀ {kvs : List (L2.Key × V)} {zs : List (Nat × Nat)} (i y : Int), Paired (fun kv z => kv.1 = Sum.inl ((z.1 : Nat) : Int) ∧ kv.2 = V.int ((z.2 : Nat) : Int)) kvs zs →
    ((zs.find? fun z => decide (((z.1 : Nat) : Int) = i)).map fun z => ((z.2 : Nat) : Int)) = some y → valV kvs (Sum.inl i) = some (.int y)
  | _, _, i, y, .nil, h => nomatch h
  | kv :: kvs, z :: zs, i, y, .cons h t, hy => by
    rw [valV_cons, h.1]
    rw [List.find?_cons] at hy
    by_cases e : ((z.1 : Nat) : Int) = i
    · rw [show decide (((z.1 : Nat) : Int) = i) = true from decide_eq_true e] at hy
      rw [if_pos (by rw [e]), h.2]
      cases hy
      rfl
    · rw [show decide (((z.1 : Nat) : Int) = i) = false from decide_eq_false e] at hy
      rw [if_neg (fun q => e (Sum.inl.inj q))]
      exact look_ix i y t hy
section
variable {P : Program} {w : World} {K : PySem.W.Frag} {mg : Str → Option Value} {base : Heap} {C : Addr}
structure CutOk (t : Tab) (s : Nat) (out states : List Nat) : Prop where
  lt : s < sizeT t
  run : runR t 100 [] [s] = some out
  few : out.length < 64
  one : ∀ ns : List Int, ns.Perm (iN out) → ns.Pairwise (· ≤ ·) → ns = iN states
  nd : states.Nodup
  few2 : states.length ≤ 100
  over : overOk states (gIx states) t
def DuoT (C : Addr) (H : Hp) (v : V) (t : Tab) (ns : List Nat) : Prop := ∃ p k q, v = .ref p ∧ H p = some (.tup [k, .ref q]) ∧ KindV C H k t ∧ TupD H q ns
end
end Tm

/-! Comprehensions with two for; beside. -/
namespace Tm
open PySem PySem.Spec PyProof.Rows L2 TmE
local macro_rules | `(tactic| walk_at "x") => `(tactic| dsimp only [tNext, tRet, tSeq, tCall, tCB, tC, tCons, tNil, tAsg, tDrop, sFld])
/-! ### [e for x in xs for y in ys] -/
def duos (n m : Nat) : List (Nat × Nat) := (List.range n).flatMap fun a => (List.range m).map fun b => (a, b)
theorem duos_succ (n m : Nat) : duos (n + 1) m = duos n m ++ (List.range m).map fun b => (n, b) := by
  unfold duos
  rw [List.range_succ, List.flatMap_append]
  simp
theorem duos_len (n m : Nat) : (duos n m).length = n * m := by
  induction n with
  | zero => simp [duos]
  | succ n ih => rw [duos_succ, List.length_append, ih, List.length_map, List.length_range, Nat.succ_mul]
def L2at (H1 : Hp) (D : Addr) (R : Nat → Nat → V → Hp → Prop) (l : List (Nat × Nat)) (H : Hp) : Prop := Same H1 H ∧ ∃ ys, H D = some (.lst ys) ∧ Paired (fun v z => R z.1 z.2 v H) ys l
theorem l2_more {H1 H H2 : Hp} {D : Addr} {R : Nat → Nat → V → Hp → Prop} {l : List (Nat × Nat)} {a b : Nat} {v : V} (hD : H1 D = none) (hR : ∀ a b v H H', TupS H H' → R a b v H → R a b v H') (p : L2at H1 D R l H) (e : Same H H2) (r : R a b v H2) (few : l.length ≤ 100000 - 1) :
    ∃ acc, H2 D = some (.lst acc) ∧ acc.length < sizeLine ∧ L2at H1 D R (l ++ [(a, b)]) (upd H2 D (.lst (acc ++ [v]))) := by
  obtain ⟨e1, ys, hy, hP⟩ := p
  have hy2 := e _ _ hy
  have tu : TupS H2 (upd H2 D (.lst (ys ++ [v]))) := tups_upd hy2 fun xs z => by cases z
  have len := Paired.length hP
  refine ⟨ys, hy2, sz_lt (by omega), same_mut (e1.trans e) hD, ys ++ [v], upd_same, ?_⟩
  exact paired_app (Paired.mapP hP fun v z h => hR _ _ _ _ _ ((tups_of e).trans tu) h) (hR _ _ _ _ _ tu r)
theorem lc2_go {J : It} {G : Hp → Prop} {us ws : List V} (w : Walk J us.length G (YAt us)) {wi1 : TI} {te : TE} {vs vs1 : List Nat} {j k : Nat} {σ : L2.St} {H1 : Hp} {Q : VK} (R : Nat → Nat → V → Hp → Prop) (hR : ∀ a b v H H', TupS H H' → R a b v H → R a b v H') (hG : ∀ H, Same H1 H → G H)
    (hz : us.length ≤ 100 ∧ ws.length ≤ 100) (hw : ∀ x, wipe ((wipe σ vs).set j (some x)) vs = wipe σ vs) (hw1 : ∀ x y, wipe (((wipe σ vs).set j (some x)).set k (some y)) vs1 = wipe ((wipe σ vs).set j (some x)) vs1) (hv1 : ∀ x, wipe ((wipe σ vs).set j (some x)) vs1 = (wipe σ vs).set j (some x))
    (hin : ∀ x H (S : It → Hp → Prop), Same H1 H → (∀ J1 G1, Walk J1 ws.length G1 (YAt ws) → (∀ H, Same H1 H → G1 H) → S J1 H) → wi1 ((wipe σ vs).set j (some x)) H S)
    (he : ∀ a b x y H, us[a]? = some x → ws[b]? = some y → Same H1 H → Ev te (((wipe σ vs).set j (some x)).set k (some y)) H (R a b))
    (hq : ∀ p H ys, H1 p = none → Same H1 H → H p = some (.lst ys) → Paired (fun v z => R z.1 z.2 v H) ys (duos us.length ws.length) → Q (.ref p) H) :
    ∀ D, H1 D = none → ∃ W : Nat → Nat → Hp → Prop, (∃ m, W 0 m (upd H1 D (.lst []))) ∧ ∀ i m H, W i m H → (J.stop i H ∧ Q (.ref D) H) ∨ (J.go i H ∧ ∃ Nx : Hp → Prop, (∀ H', Nx H' → ∃ m', m' < m ∧ W (i + 1) m' H') ∧ ∀ x H', J.yld i H x H' → gName j x (wipe σ vs) H' fun σ2 H2 => wipe σ2 vs = wipe σ vs ∧ tYes σ2 H2 fun b H3 =>
      if b = true then wi1 σ2 H3 fun J1 H4 => ∃ W1 : Nat → Nat → Hp → Prop, (∃ m, W1 0 m H4) ∧ ∀ j1 k1 H, W1 j1 k1 H → (J1.stop j1 H ∧ Nx H) ∨ (J1.go j1 H ∧ ∃ Nx1 : Hp → Prop, (∀ H', Nx1 H' → ∃ k', k' < k1 ∧ W1 (j1 + 1) k' H') ∧ ∀ x H', J1.yld j1 H x H' → gName k x (wipe σ2 vs1) H' fun σ3 H5 => wipe σ3 vs1 = wipe σ2 vs1 ∧ tYes σ3 H5 fun b H6 =>
          if b = true then te σ3 H6 fun y H7 => ∃ acc, H7 D = some (.lst acc) ∧ acc.length < sizeLine ∧ Nx1 (upd H7 D (.lst (acc ++ [y]))) else Nx1 H6)
      else Nx H3) := by
  intro D hD
  have small : ∀ i b, i < us.length → b ≤ ws.length → (duos i ws.length ++ (List.range b).map fun b => (i, b)).length ≤ 100000 - 1 := fun i b hi hb => by
    rw [List.length_append, duos_len, List.length_map, List.length_range]
    have : i * ws.length ≤ 100 * 100 := Nat.mul_le_mul (by omega) hz.2
    omega
  refine ⟨fun i m H => m = us.length - i ∧ i ≤ us.length ∧ L2at H1 D R (duos i ws.length) H, ⟨us.length, by simp, Nat.zero_le _, same_new hD, [], upd_same, .nil⟩, ?_⟩
  rintro i m H ⟨rfl, hi, p⟩
  by_cases lt : i < us.length
  · refine .inr ⟨w.goes i H lt (hG _ p.1), fun H' => L2at H1 D R (duos (i + 1) ws.length) H', fun H' p' => ⟨us.length - (i + 1), by omega, rfl, lt, p'⟩, fun x H' y => ?_⟩
    obtain ⟨eH, hx⟩ := w.yields i H x H' lt (hG _ p.1) y
    subst eH
    refine ⟨hw x, ?_⟩
    dsimp only [tYes]
    rw [if_pos rfl]
    refine hin x H' _ p.1 fun J1 G1 w1 hG1 => ?_
    refine ⟨fun b k1 H => k1 = ws.length - b ∧ b ≤ ws.length ∧ L2at H1 D R (duos i ws.length ++ (List.range b).map fun b => (i, b)) H, ⟨ws.length, by simp, Nat.zero_le _, by simpa using p⟩, ?_⟩
    rintro b k1 H2 ⟨rfl, hb, p2⟩
    by_cases lt2 : b < ws.length
    · refine .inr ⟨w1.goes b H2 lt2 (hG1 _ p2.1), fun H' => L2at H1 D R (duos i ws.length ++ (List.range (b + 1)).map fun b => (i, b)) H', fun H' p' => ⟨ws.length - (b + 1), by omega, rfl, lt2, p'⟩, fun y H3 yy => ?_⟩
      obtain ⟨eH, hy⟩ := w1.yields b H2 y H3 lt2 (hG1 _ p2.1) yy
      subst eH
      rw [hv1]
      refine ⟨by rw [hw1, hv1], ?_⟩
      rw [if_pos rfl]
      refine he i b x y H3 hx hy p2.1 _ fun v H4 e4 r => ?_
      obtain ⟨acc, h1, h2, h3⟩ := l2_more hD hR p2 e4 r (small i b lt hb)
      refine ⟨acc, h1, h2, ?_⟩
      show L2at H1 D R (duos i ws.length ++ (List.range (b + 1)).map fun b => (i, b)) _
      rw [List.range_succ, List.map_append, ← List.append_assoc]
      exact h3
    · have eb : b = ws.length := by omega
      subst eb
      refine .inl ⟨w1.stops H2 (hG1 _ p2.1), ?_⟩
      show L2at H1 D R (duos (i + 1) ws.length) H2
      rw [duos_succ]
      exact p2
  · have ei : i = us.length := by omega
    subst ei
    obtain ⟨e, ys, hy, hP⟩ := p
    exact .inl ⟨w.stops H (hG _ e), hq D H ys hD e hy hP⟩
theorem tab_put {H : Hp} {pd : Addr} {kvs : List (L2.Key × V)} {T : Tab} {i : Nat} {x : Str} {r : Row} {v : V} (hd : H pd = some (.dK kvs)) (ht : TabV H kvs (T.take i)) (hi : T[i]? = some (x, r)) (hr : RowV H v r) (nd : (namesT T).Nodup) (few : i ≤ 1000) :
    ∃ kvs', DPut H pd (.str x) v (upd H pd (.dK kvs')) ∧ TabV (upd H pd (.dK kvs')) kvs' (T.take (i + 1)) := by
  have no : valV kvs (Sum.inr x) = none := by
    have e := tab_isSome x ht
    have ni : x ∉ namesT (T.take i) := fun m => by
      have nd2 := nd
      have lt := (List.getElem?_eq_some_iff.mp hi).1
      have sp : T = T.take i ++ (x, r) :: T.drop (i + 1) := by
        rw [← (List.getElem?_eq_some_iff.mp hi).2, List.getElem_cons_drop, List.take_append_drop]
      rw [sp] at nd2
      unfold namesT at nd2 m
      rw [List.map_append, List.map_cons, List.nodup_append] at nd2
      exact nd2.2.2 x m x List.mem_cons_self rfl
    rw [decide_eq_false ni] at e
    cases z : valV kvs (Sum.inr x) with
    | none => rfl
    | some y => rw [z] at e; cases e
  have tu : TupS H (upd H pd (.dK (kvs ++ [(Sum.inr x, v)]))) := tups_upd hd (fun xs z => by cases z)
  refine ⟨kvs ++ [(Sum.inr x, v)], ?_, ?_⟩
  · have q := DPut.k (k := (Sum.inr x : L2.Key)) (v := v) hd (by
      rw [Paired.length ht, List.length_take]
      exact sz_lt (by omega))
    rw [putK_new v no] at q
    exact q
  · rw [take_one hi]
    exact paired_app (ht.mono tu) ⟨rfl, hr.mono tu⟩
/-- a for over any walk -/
theorem for_walk {J : It} {n : Nat} {G : Hp → Prop} {Y : Nat → Hp → V → Hp → Prop} (w : Walk J n G Y) {g : TG} {tb : TS} {D : Ends} {σ : L2.St} {H : Hp} (Pv : Nat → L2.St → Hp → Prop) (h0 : Pv 0 σ H) (hG : ∀ i σ H, i ≤ n → Pv i σ H → G H)
    (hs : ∀ i x σ H H', i < n → Pv i σ H → Y i H x H' → g x σ H' fun σ2 H2 => tb { D with nx := Pv (i + 1), ct := Pv (i + 1), bk := D.nx } σ2 H2) (hd : ∀ σ H, Pv n σ H → D.nx σ H) :
    ∃ W : Nat → Nat → L2.St → Hp → Prop, (∃ m, W 0 m σ H) ∧ ∀ i m σ H, W i m σ H → (J.stop i H ∧ D.nx σ H) ∨ (J.go i H ∧ ∃ N : L2.St → Hp → Prop, (∀ σ' H', N σ' H' → ∃ m', m' < m ∧ W (i + 1) m' σ' H') ∧ ∀ x H', J.yld i H x H' → g x σ H' fun σ2 H2 => tb { D with nx := N, ct := N, bk := D.nx } σ2 H2) := by
  refine ⟨fun i m σ H => m = n - i ∧ i ≤ n ∧ Pv i σ H, ⟨n, by simp, Nat.zero_le _, h0⟩, ?_⟩
  rintro i m σ H ⟨rfl, hi, p⟩
  have q := hG i σ H hi p
  by_cases lt : i < n
  · exact .inr ⟨w.goes i H lt q, Pv (i + 1), fun σ' H' p' => ⟨n - (i + 1), by omega, rfl, lt, p'⟩, fun x H' y => hs i x σ H H' lt p (w.yields i H x H' lt q y)⟩
  · have e : i = n := by omega
    subst e
    exact .inl ⟨w.stops H q, hd σ H p⟩
theorem walk_rng {n : Nat} : Walk (Itr 0 n) ((List.range n).map fun i : Nat => V.int (i : Int)).length (fun _ => True) (YAt ((List.range n).map fun i : Nat => V.int (i : Int))) := by
  have len : ((List.range n).map fun i : Nat => V.int (i : Int)).length = n := by rw [List.length_map, List.length_range]
  rw [len]
  have w := walk_range (lo := 0) (n := n)
  refine ⟨w.goes, w.stops, fun i H x H' hi q y => ?_⟩
  obtain ⟨e, ex⟩ := w.yields i H x H' hi q y
  refine ⟨e, ?_⟩
  rw [List.getElem?_map, List.getElem?_range hi, ex]
  show some (V.int ((i : Nat) : Int)) = some (V.int (0 + (i : Nat)))
  rw [Int.zero_add]
def bes1 (m2 : Nat) (r : Row) : Row := (duos r.length m2).map fun z => ((pickR r z.1).1 * (m2 : Int) + (z.2 : Int), (pickR r z.1).2)
def bes2 (n1 m2 : Nat) (r : Row) : Row := (duos n1 r.length).map fun z => ((z.1 : Int) * (m2 : Int) + (pickR r z.2).1, (pickR r z.2).2)
def besT (t u : Tab) : Tab := (t.map fun e => (e.1, bes1 (sizeT u) e.2)) ++ u.map fun e => (e.1, bes2 (sizeT t) (sizeT u) e.2)
theorem anyK {X : Cx} {K : PySem.W.Frag} (hc : X.calm = true := by rfl) (hK : X.K = K := by rfl) : CallR X (.builtin "any") (rAny K) := by subst hK; exact cr_any hc
theorem piR {X : Cx} {tg e : Expr} {ta : TA} {p pos : Pos} (hg : Gl X "range") (hm : X.mg "range" = none) (ha : PA X [e] ta) (hs : starEach [e] X.env = [(false, eval e X.env)] := by rfl) : PI X tg (.Call (.Name "range" p) [e] [] pos) (iRng1 ta) := pi_range1 hg hm ha hs
theorem ev_sizeK {K : PySem.W.Frag} {C : Addr} {σ : L2.St} {H : Hp} {i : Nat} {o : V} {u : Tab} (hi : σ[i]? = some (some o)) (ho : KindV C H o u) : Ev (tProp C (sp_size C) [] E0 (tVar i)) σ H fun v _ => v = .int ((sizeT u : Nat) : Int) := fun Q q => by
  obtain ⟨a, dx, d, kvs, rfl, ha, _⟩ := id ho
  exact ⟨_, hi, a, dx, _, rfl, ha, .ref a, u, rfl, ho, q _ _ (Same.refl _) rfl⟩
theorem c_mul {i j : Int} (h0 : 0 ≤ i) (h1 : i ≤ 10000) : CMul i j := by
  have e : (2 : Int) ^ 64 = 18446744073709551616 := by decide
  refine .inl ?_
  rw [e]
  omega
theorem rng_at {n k : Nat} {z : V} (h : ((List.range n).map fun i : Nat => V.int (i : Int))[k]? = some z) : z = .int (k : Int) ∧ k < n := by
  have lt : k < n := by
    have := (List.getElem?_eq_some_iff.mp h).1
    rwa [List.length_map, List.length_range] at this
  rw [List.getElem?_map, List.getElem?_range lt] at h
  exact ⟨(Option.some.inj h).symm, lt⟩
theorem row_at {H H' : Hp} {xs : List V} {r : Row} {i : Nat} {y : V} (hx : Paired (PairV H) xs r) (e : Same H H') (h : xs[i]? = some y) : PairV H' y (pickR r i) ∧ pickR r i ∈ r := by
  obtain ⟨z, hz, hp⟩ := paired_ix2 hx h
  have : pickR r i = z := by
    unfold pickR
    rw [List.getD_eq_getElem?_getD, hz]
    rfl
  rw [this]
  exact ⟨hp.mono (tups_of e), List.mem_of_getElem? hz⟩
section
variable {K : PySem.W.Frag} {C : Addr} {H : Hp} {o d x a : V} {o3 o5 o6 : Option V} {t u : Tab} {r : Row}
theorem ev_bes1 (ho : KindV C H o u) (hx : RowV H x r) (hr : r.length ≤ 12 ∧ ∀ p ∈ r, 0 ≤ p.1 ∧ p.1 < 12) (hs : sizeT u ≤ 12) :
    Ev (tCB (fun xs H Q => ∃ p ys, xs = [.ref p] ∧ ((SqL K H p ys ∧ ∀ l, H l = none → Q (.ref l) (upd H l (.tup ys))) ∨ (SqT K H p ys ∧ Q (.ref p) H))) (tCons (tLc2 (iTup K (tVar 4)) (gName 5) tYes (iRng1 (tCons (tProp C (sp_size C) [] E0 (tVar 1)) tNil)) (gName 6) tYes
      (tTup (tCons (tOp (rI0 fun i j => V.int (i + j)) (tOp (rI CMul fun i j => V.int (i * j)) (tOp (rIxT K) (tVar 5) (tC (V.int 0))) (tProp C (sp_size C) [] E0 (tVar 1))) (tVar 6)) (tCons (tOp (rIxT K) (tVar 5) (tC (V.int 1))) tNil))) [5, 6] [6]) tNil)) [some a, some o, some d, o3, some x, o5, o6] H fun v H1 => RowV H1 v (bes1 (sizeT u) r) := by
  refine ev_rowOf (zs := duos r.length (sizeT u)) (f := fun z => ((pickR r z.1).1 * (sizeT u : Int) + (z.2 : Int), (pickR r z.1).2)) fun Q q => ?_
  obtain ⟨ap, xs, rfl, hap, hxs⟩ := id hx
  have hlx := Paired.length hxs
  refine ⟨_, rfl, ap, rfl, ⟨xs, SqT.of hap⟩, ?_⟩
  refine lc2_go (us := xs) (ws := (List.range (sizeT u)).map fun i : Nat => V.int (i : Int)) (walk_tup) (fun i k v H => PairV H v ((pickR r i).1 * (sizeT u : Int) + (k : Int), (pickR r i).2)) (fun a b v H H' e h => h.mono e) (fun H2 e => same_seqT e (SqT.of hap)) ⟨by omega, by rw [List.length_map, List.length_range]; omega⟩ (fun _ => rfl) (fun _ _ => rfl) (fun _ => rfl) (fun y H2 S e S1 => ?_) (fun i k y z H2 hy hz e => ?_) fun p H2 ys hp e hl hP => ?_
  · obtain ⟨ao, dxo, _, _, rfl, hao, _⟩ := id (ho.keep e)
    exact ⟨_, rfl, ao, dxo, _, rfl, hao, _, u, rfl, ho.keep e, _, rfl, by omega, by omega, by rw [Int.toNat_natCast]; exact S1 _ _ walk_rng fun _ _ => trivial⟩
  · obtain ⟨hy2, hm⟩ := row_at hxs e hy
    obtain ⟨rfl, lt⟩ := rng_at hz
    obtain ⟨p0, p1⟩ := hr.2 _ hm
    refine ev_pair (fun Q q => ?_) fun H3 e3 => ev_pick (j := 1) rfl (hy2.mono (tups_of e3)) rfl
    refine ev_pick (K := K) (j := 0) rfl hy2 rfl _ fun v1 H3 e3 ev => ?_
    subst ev
    refine ev_sizeK (K := K) rfl (ho.keep (e.trans e3)) _ fun v2 H4 e4 ev => ?_
    subst ev
    exact ⟨_, _, rfl, rfl, c_mul p0 (by omega), _, rfl, _, _, rfl, rfl, q _ _ (e3.trans e4) rfl⟩
  · refine q _ _ e ⟨p, ys, rfl, hl, ?_⟩
    rw [hlx, List.length_map, List.length_range] at hP
    exact hP
theorem ev_bes2 (ha : KindV C H a t) (ho : KindV C H o u) (hx : RowV H x r) (hr : r.length ≤ 12 ∧ ∀ p ∈ r, 0 ≤ p.1 ∧ p.1 < 12) (hs : sizeT u ≤ 12) (hs1 : sizeT t ≤ 12) :
    Ev (tCB (fun xs H Q => ∃ p ys, xs = [.ref p] ∧ ((SqL K H p ys ∧ ∀ l, H l = none → Q (.ref l) (upd H l (.tup ys))) ∨ (SqT K H p ys ∧ Q (.ref p) H))) (tCons (tLc2 (iRng1 (tCons (tProp C (sp_size C) [] E0 (tVar 0)) tNil)) (gName 6) tYes (iTup K (tVar 4)) (gName 5) tYes
      (tTup (tCons (tOp (rI0 fun i j => V.int (i + j)) (tOp (rI CMul fun i j => V.int (i * j)) (tVar 6) (tProp C (sp_size C) [] E0 (tVar 1))) (tOp (rIxT K) (tVar 5) (tC (V.int 0)))) (tCons (tOp (rIxT K) (tVar 5) (tC (V.int 1))) tNil))) [6, 5] [5]) tNil)) [some a, some o, some d, o3, some x, o5, o6] H fun v H1 => RowV H1 v (bes2 (sizeT t) (sizeT u) r) := by
  refine ev_rowOf (zs := duos (sizeT t) r.length) (f := fun z => ((z.1 : Int) * (sizeT u : Int) + (pickR r z.2).1, (pickR r z.2).2)) fun Q q => ?_
  obtain ⟨ap, xs, rfl, hap, hxs⟩ := id hx
  have hlx := Paired.length hxs
  obtain ⟨aa, dxa, _, _, rfl, haa, _⟩ := id ha
  refine ⟨_, rfl, aa, dxa, _, rfl, haa, _, t, rfl, ha, _, rfl, by omega, by omega, ?_⟩
  rw [Int.toNat_natCast]
  refine lc2_go (us := (List.range (sizeT t)).map fun i : Nat => V.int (i : Int)) (ws := xs) walk_rng (fun i k v H => PairV H v ((i : Int) * (sizeT u : Int) + (pickR r k).1, (pickR r k).2)) (fun a b v H H' e h => h.mono e) (fun H2 e => trivial) ⟨by rw [List.length_map, List.length_range]; omega, by omega⟩ (fun _ => rfl) (fun _ _ => rfl) (fun _ => rfl) (fun y H2 S e S1 => ?_) (fun i k y z H2 hy hz e => ?_) fun p H2 ys hp e hl hP => ?_
  · exact ⟨_, rfl, ap, rfl, ⟨xs, SqT.of (e _ _ hap)⟩, S1 _ _ walk_tup fun H3 e3 => SqT.of (e3 _ _ hap)⟩
  · obtain ⟨hz2, hm⟩ := row_at hxs e hz
    obtain ⟨rfl, lt⟩ := rng_at hy
    refine ev_pair (fun Q q => ?_) fun H3 e3 => ev_pick (j := 1) rfl (hz2.mono (tups_of e3)) rfl
    refine ⟨_, rfl, ?_⟩
    refine ev_sizeK (K := K) rfl (ho.keep e) _ fun v2 H4 e4 ev => ?_
    subst ev
    refine ⟨_, _, rfl, rfl, c_mul (by omega) (by omega), ?_⟩
    refine ev_pick (K := K) (j := 0) rfl (hz2.mono (tups_of e4)) rfl _ fun v1 H3 e3 ev => ?_
    subst ev
    exact ⟨_, _, rfl, rfl, q _ _ (e4.trans e3) rfl⟩
  · refine q _ _ e ⟨p, ys, rfl, hl, ?_⟩
    rw [hlx, List.length_map, List.length_range] at hP
    exact hP
end
/-- all but what stands at pd is kept -/
def KP (pd : Addr) (H H' : Hp) : Prop := ∀ b o, H b = some o → b ≠ pd → H' b = some o
theorem kp_same {pd : Addr} {H0 H H' : Hp} (e : Same H0 H) (h0 : H0 pd = none) (k : KP pd H H') : Same H0 H' := fun b o hb => k b o (e b o hb) fun z => by rw [z, h0] at hb; cases hb
theorem kp_mut {pd : Addr} {H H' H2 : Hp} {o : HO} (k : KP pd H H') (e : Same H' H2) : KP pd H (upd H2 pd o) := fun b u hb n => by rw [upd_ne n]; exact e _ _ (k b u hb n)
theorem kp_tups {pd : Addr} {H H' : Hp} {kvs : List (L2.Key × V)} (h : H pd = some (.dK kvs)) (k : KP pd H H') : TupS H H' := fun b xs hb => k b _ hb fun z => by rw [z, h] at hb; cases hb
theorem bes_at1 {t u : Tab} {i : Nat} {e : Str × Row} (h : t[i]? = some e) : (besT t u)[i]? = some (e.1, bes1 (sizeT u) e.2) := by
  have lt := (List.getElem?_eq_some_iff.mp h).1
  unfold besT
  rw [List.getElem?_append_left (by rw [List.length_map]; exact lt), List.getElem?_map, h]
  rfl
theorem bes_at2 {t u : Tab} {i : Nat} {e : Str × Row} (h : u[i]? = some e) : (besT t u)[t.length + i]? = some (e.1, bes2 (sizeT t) (sizeT u) e.2) := by
  unfold besT
  rw [List.getElem?_append_right (by rw [List.length_map]; omega), List.length_map, Nat.add_sub_cancel_left, List.getElem?_map, h]
  rfl
theorem besT_len (t u : Tab) : (besT t u).length = t.length + u.length := by
  unfold besT
  rw [List.length_append, List.length_map, List.length_map]
section
variable {P : Program} {w : World} {K : PySem.W.Frag} {mg : Str → Option Value} {base : Heap} {C : Addr}
end
end Tm

/-! _law_table: the drawn operations of a kind. _law_row of names. -/
namespace Tm
open PySem PySem.Spec PyProof.Rows L2
local macro_rules | `(tactic| walk_at "x") => `(tactic| dsimp only [tNext, tRet, tSeq, tCall, tCB, tC, tCons, tNil, tAsg, tDrop, sFld])
theorem VatV.keepU {H : Hp} {l p : Addr} {o : HO} (h : VatV H l) (n : p ≠ l) : VatV (upd H p o) l := by
  obtain ⟨x, y, z, e⟩ := h
  exact ⟨x, y, z, by rw [upd_ne n.symm]; exact e⟩
theorem vat_ne {H : Hp} {l p : Addr} (h : VatV H l) (hp : H p = none) : p ≠ l := fun z => by
  obtain ⟨x, y, zz, e⟩ := h
  rw [z, e] at hp
  cases hp
theorem kl_none {H H' : Hp} {l p : Addr} (k : KL l H H') (hp : H' p = none) : H p = none := by
  cases e : H p with
  | none => rfl
  | some o =>
    by_cases z : p = l
    · obtain ⟨_, _, _, e2⟩ := k.2
      rw [z, e2] at hp
      cases hp
    · rw [k.1 _ _ e z] at hp
      cases hp
/-- texts out of texts -/
theorem strs_of {ns : List Str} {ys zs : List V} (p : (ns.map V.str).Perm (ys ++ zs)) (nd : ns.Nodup) : ∃ ws : List Str, ys = ws.map V.str ∧ ws.Nodup ∧ ∀ x ∈ ws, x ∈ ns := by
  have mem : ∀ y ∈ ys, ∃ x ∈ ns, V.str x = y := fun y hy => List.mem_map.mp (p.mem_iff.mpr (List.mem_append_left _ hy))
  have ndv : (ys ++ zs).Nodup := p.nodup (List.pairwise_map.mpr (nd.imp fun h e => h (V.str.inj e)))
  have ndy : ys.Nodup := (List.nodup_append.mp ndv).1
  clear p ndv
  induction ys with
  | nil => exact ⟨[], rfl, .nil, fun _ h => nomatch h⟩
  | cons y ys ih =>
    obtain ⟨ws, e, n2, m2⟩ := ih (fun z hz => mem z (List.mem_cons_of_mem _ hz)) (List.nodup_cons.mp ndy).2
    obtain ⟨x, hx, rfl⟩ := mem y List.mem_cons_self
    refine ⟨x :: ws, by rw [e]; rfl, List.nodup_cons.mpr ⟨fun hm => ?_, n2⟩, fun z hz => ?_⟩
    · refine (List.nodup_cons.mp ndy).1 ?_
      rw [e]
      exact List.mem_map.mpr ⟨x, hm, rfl⟩
    · rcases List.mem_cons.mp hz with q | q
      · rw [q]
        exact hx
      · exact m2 z q
theorem tab_add {H : Hp} {pd : Addr} {kvs : List (L2.Key × V)} {t : Tab} {x : Str} {r : Row} {v : V} (hd : H pd = some (.dK kvs)) (ht : TabV H kvs t) (hr : RowV H v r) (nd : (namesT t).Nodup) (nx : x ∉ namesT t) (few : t.length ≤ 1000) :
    ∃ kvs', DPut H pd (.str x) v (upd H pd (.dK kvs')) ∧ TabV (upd H pd (.dK kvs')) kvs' (t ++ [(x, r)]) ∧ (namesT (t ++ [(x, r)])).Nodup := by
  have nd2 : (namesT (t ++ [(x, r)])).Nodup := by
    unfold namesT at nd nx ⊢
    rw [List.map_append, List.nodup_append]
    refine ⟨nd, by simp, fun a ha b hb => ?_⟩
    have eb : b = x := by simpa using hb
    rw [eb]
    intro z
    rw [z] at ha
    exact nx ha
  have e1 : (t ++ [(x, r)]).take t.length = t := by simp
  have e2 : (t ++ [(x, r)]).take (t.length + 1) = t ++ [(x, r)] := by
    rw [List.take_of_length_le (by simp)]
  obtain ⟨kvs', g1, g2⟩ := tab_put (T := t ++ [(x, r)]) (i := t.length) (x := x) (r := r) hd (by rw [e1]; exact ht) (by simp) hr nd2 few
  rw [e2] at g2
  exact ⟨kvs', g1, g2, nd2⟩
def nineN : List Str := ["add", "set", "a", "b", "read", "do", "decide", "eightlet", "z"]
theorem nine_ok : nineN.Nodup ∧ (nineN.all okName) = true ∧ (nineN.all PyData.strOk) = true := by decide +kernel
section
variable {P : Program} {w : World} {K : PySem.W.Frag} {mg : Str → Option Value} {base : Heap}
end
end Tm

/-! What is beside, as numbers: ways through a table; both beside. -/
namespace Tm
open PySem PySem.Spec PyProof.Rows L2
theorem nd_row {t : Tab} (nd : (namesT t).Nodup) {x : Str} {r r' : Row} (h : (x, r) ∈ t) (h' : (x, r') ∈ t) : r = r' := by
  induction t with
  | nil => cases h
  | cons e t ih =>
    have nd' := List.nodup_cons.mp (show (e.1 :: namesT t).Nodup from nd)
    rcases List.mem_cons.mp h with z | z <;> rcases List.mem_cons.mp h' with y | y
    · exact (Prod.mk.inj (z.trans y.symm)).2
    · refine absurd ?_ nd'.1
      rw [← z]
      exact List.mem_map.mpr ⟨_, y, rfl⟩
    · refine absurd ?_ nd'.1
      rw [← y]
      exact List.mem_map.mpr ⟨_, z, rfl⟩
    · exact ih nd'.2 z y
theorem rowAt_of {t : Tab} (nd : (namesT t).Nodup) {x : Str} {r : Row} (h : (x, r) ∈ t) : rowAt t x = r :=
  nd_row nd (row_in (List.mem_map.mpr ⟨_, h, rfl⟩)) h
theorem rowAt_perm {t u : Tab} (p : t.Perm u) (nd : (namesT u).Nodup) {x : Str} (h : x ∈ namesT t) : rowAt t x = rowAt u x :=
  (rowAt_of nd (p.mem_iff.mp (row_in h))).symm
theorem okTab_of {t : Tab} {n : Nat} (l1 : 1 ≤ t.length) (l6 : t.length ≤ 6) (n1 : 1 ≤ n) (n12 : n ≤ 12) (h : ∀ e ∈ t, okName e.1 = true ∧ e.2.length = n ∧ ∀ p ∈ e.2, okPair n p = true) : okTab t = true ∧ sizeT t = n := by
  have hs : sizeT t = n := by
    cases t with
    | nil => simp at l1
    | cons e t => exact (h e List.mem_cons_self).2.1
  refine ⟨?_, hs⟩
  unfold okTab
  rw [hs]
  simp only [Bool.and_eq_true, decide_eq_true_eq, List.all_eq_true]
  refine ⟨⟨⟨⟨l1, l6⟩, n1⟩, n12⟩, fun e he => ⟨(h e he).1, ?_⟩⟩
  unfold okRow
  rw [Bool.and_eq_true, decide_eq_true_eq, List.all_eq_true]
  exact (h e he).2
structure FineRow (n : Nat) (r : Row) : Prop where
  len : r.length = n
  fine : ∀ s, s < n → ∃ a : Nat, (pickR r s).1 = (a : Int) ∧ a < n ∧ 0 ≤ (pickR r s).2 ∧ (pickR r s).2 ≤ 99
theorem fine_of {t : Tab} (ok : okTab t = true) {e : Str × Row} (he : e ∈ t) : FineRow (sizeT t) e.2 := by
  refine ⟨size_of_ok ok e he, fun s hs => ?_⟩
  have hl := size_of_ok ok e he
  have hm := List.mem_of_getElem? (pick_at (r := e.2) (s := s) (by omega))
  have h5 := ok
  unfold okTab at h5
  simp only [Bool.and_eq_true, decide_eq_true_eq] at h5
  have h6 := List.all_eq_true.mp h5.2 e he
  simp only [Bool.and_eq_true] at h6
  have h7 := h6.2
  unfold okRow at h7
  simp only [Bool.and_eq_true, decide_eq_true_eq] at h7
  have h8 := List.all_eq_true.mp h7.2 _ hm
  unfold okPair at h8
  simp only [Bool.and_eq_true, decide_eq_true_eq] at h8
  exact ⟨(pickR e.2 s).1.toNat, by omega, by omega, by omega, by omega⟩
theorem ok_facts {t : Tab} (ok : okTab t = true) : 1 ≤ t.length ∧ t.length ≤ 6 ∧ 1 ≤ sizeT t ∧ sizeT t ≤ 12 ∧ ∀ e ∈ t, okName e.1 = true := by
  have h5 := ok
  unfold okTab at h5
  simp only [Bool.and_eq_true, decide_eq_true_eq] at h5
  refine ⟨h5.1.1.1.1, h5.1.1.1.2, h5.1.1.2, h5.1.2, fun e he => ?_⟩
  have h6 := List.all_eq_true.mp h5.2 e he
  simp only [Bool.and_eq_true] at h6
  exact h6.1
theorem fine_ok {n : Nat} {r : Row} (f : FineRow n r) : ∀ p ∈ r, okPair n p = true := fun p hp => by
  obtain ⟨s, hs⟩ := List.mem_iff_getElem?.mp hp
  have lt : s < r.length := (List.getElem?_eq_some_iff.mp hs).1
  have e : pickR r s = p := by
    unfold pickR
    rw [List.getD_eq_getElem?_getD, hs]
    rfl
  obtain ⟨a, h1, h2, h3, h4⟩ := f.fine s (by rw [← f.len]; exact lt)
  rw [e] at h1 h3 h4
  unfold okPair
  simp only [Bool.and_eq_true, decide_eq_true_eq]
  omega
theorem row_ext {r r' : Row} (hl : r.length = r'.length) (h : ∀ s, s < r.length → pickR r s = pickR r' s) : r = r' := by
  refine List.ext_getElem? fun s => ?_
  by_cases z : s < r.length
  · rw [pick_at z, pick_at (by omega), h s z]
  · rw [List.getElem?_eq_none (by omega), List.getElem?_eq_none (by omega)]
/-! ### ways -/
def goR (t : Tab) : Nat → List Str → Nat × List Int
  | s, [] => (s, [])
  | s, x :: ns => ((goR t (pickR (rowAt t x) s).1.toNat ns).1, (pickR (rowAt t x) s).2 :: (goR t (pickR (rowAt t x) s).1.toNat ns).2)
theorem step_mem {t : Tab} (nd : (namesT t).Nodup) {x : Str} (hx : x ∈ namesT t) {s : Nat} (hs : s < (rowAt t x).length) (told : List Int) : stepG t (s, told) x = ((pickR (rowAt t x) s).1.toNat, told ++ [(pickR (rowAt t x) s).2]) := by
  unfold stepG
  cases hf : t.find? fun e => decide (e.1 = x) with
  | none =>
    have := List.find?_eq_none.mp hf _ (row_in hx)
    exact absurd (decide_eq_true (rfl : x = x)) this
  | some e =>
    have hm := List.mem_of_find?_eq_some hf
    have e1 : e.1 = x := of_decide_eq_true (List.find?_some (p := fun e : Str × Row => decide (e.1 = x)) hf)
    have e2 : rowAt t x = e.2 := rowAt_of nd (by rw [← e1]; exact hm)
    dsimp only
    rw [← e2, pick_at hs]
theorem go_fold {t : Tab} (ok : okTab t = true) (nd : (namesT t).Nodup) : ∀ (ns : List Str) (s : Nat) (acc : List Int), s < sizeT t → (∀ x ∈ ns, x ∈ namesT t) → ns.foldl (stepG t) (s, acc) = ((goR t s ns).1, acc ++ (goR t s ns).2)
  | [], s, acc, _, _ => by simp [goR]
  | x :: ns, s, acc, hs, h => by
    have hx := h x List.mem_cons_self
    have f := fine_of ok (row_in hx)
    obtain ⟨a, h1, h2, h3, h4⟩ := f.fine s hs
    rw [List.foldl_cons, step_mem nd hx (by rw [f.len]; exact hs), go_fold ok nd ns _ _ (by dsimp only at h1; omega) fun y hy => h y (List.mem_cons_of_mem _ hy)]
    simp [goR]
theorem gone_go {t : Tab} (ok : okTab t = true) (nd : (namesT t).Nodup) {ns : List Str} {s : Nat} (hs : s < sizeT t) (h : ∀ x ∈ ns, x ∈ namesT t) : goneN t s ns = goR t s ns := by
  unfold goneN
  rw [go_fold ok nd ns s [] hs h]
  simp
theorem go_perm {t u : Tab} (p : t.Perm u) (nd : (namesT u).Nodup) : ∀ (ns : List Str) (s : Nat), (∀ x ∈ ns, x ∈ namesT t) → goR t s ns = goR u s ns
  | [], _, _ => rfl
  | x :: ns, s, h => by
    unfold goR
    rw [rowAt_perm p nd (h x List.mem_cons_self), go_perm p nd ns _ fun y hy => h y (List.mem_cons_of_mem _ hy)]
theorem go_len (t : Tab) : ∀ (ns : List Str) (s : Nat), (goR t s ns).2.length = ns.length
  | [], _ => rfl
  | x :: ns, s => by
    unfold goR
    dsimp only
    rw [List.length_cons, go_len t ns, List.length_cons]
theorem go_lt {t : Tab} (ok : okTab t = true) : ∀ (ns : List Str) (s : Nat), s < sizeT t → (∀ x ∈ ns, x ∈ namesT t) → (goR t s ns).1 < sizeT t
  | [], _, h, _ => h
  | x :: ns, s, hs, h => by
    have f := fine_of ok (row_in (h x List.mem_cons_self))
    obtain ⟨a, h1, h2, h3, h4⟩ := f.fine s hs
    unfold goR
    exact go_lt ok ns _ (by dsimp only at h1; omega) fun y hy => h y (List.mem_cons_of_mem _ hy)
/-! ### beside -/
theorem duos_at {m : Nat} : ∀ {n a b : Nat}, a < n → b < m → (duos n m)[a * m + b]? = some (a, b)
  | 0, _, _, h, _ => absurd h (Nat.not_lt_zero _)
  | n + 1, a, b, ha, hb => by
    rw [duos_succ]
    have hl := duos_len n m
    by_cases z : a < n
    · have : a * m + b < n * m := by
        have h1 : (a + 1) * m ≤ n * m := Nat.mul_le_mul_right m z
        have h2 : (a + 1) * m = a * m + m := Nat.succ_mul a m
        omega
      rw [List.getElem?_append_left (by rw [hl]; exact this)]
      exact duos_at z hb
    · have e : a = n := by omega
      subst e
      rw [List.getElem?_append_right (by rw [hl]; omega), hl, show a * m + b - a * m = b by omega, List.getElem?_map, List.getElem?_range hb]
      rfl
theorem dm_lt {n m a b : Nat} (ha : a < n) (hb : b < m) : a * m + b < n * m := by
  have h1 : (a + 1) * m ≤ n * m := Nat.mul_le_mul_right m ha
  have h2 : (a + 1) * m = a * m + m := Nat.succ_mul a m
  omega
theorem dm_div {m a b : Nat} (hb : b < m) : (a * m + b) / m = a := by
  rw [Nat.add_comm, Nat.add_mul_div_right _ _ (by omega), Nat.div_eq_of_lt hb, Nat.zero_add]
theorem dm_mod {m a b : Nat} (hb : b < m) : (a * m + b) % m = b := by
  rw [Nat.add_comm, Nat.add_mul_mod_self_right, Nat.mod_eq_of_lt hb]
theorem dm_of {n m k : Nat} (h : k < n * m) : ∃ a b, a < n ∧ b < m ∧ k = a * m + b := by
  have hm : 0 < m := by
    rcases Nat.eq_zero_or_pos m with z | z
    · rw [z] at h
      simp at h
    · exact z
  refine ⟨k / m, k % m, (Nat.div_lt_iff_lt_mul hm).mpr h, Nat.mod_lt _ hm, ?_⟩
  have := Nat.div_add_mod k m
  rw [Nat.mul_comm] at this
  omega
theorem bes1_len (m : Nat) (r : Row) : (bes1 m r).length = r.length * m := by
  unfold bes1
  rw [List.length_map, duos_len]
theorem bes2_len (n m : Nat) (r : Row) : (bes2 n m r).length = n * r.length := by
  unfold bes2
  rw [List.length_map, duos_len]
theorem pick_bes1 {r : Row} {m a b : Nat} (ha : a < r.length) (hb : b < m) : pickR (bes1 m r) (a * m + b) = ((pickR r a).1 * (m : Int) + (b : Int), (pickR r a).2) := by
  show ((bes1 m r).getD (a * m + b) (0, 0)) = _
  unfold bes1
  rw [List.getD_eq_getElem?_getD, List.getElem?_map, duos_at ha hb]
  rfl
theorem pick_bes2 {r : Row} {n m a b : Nat} (ha : a < n) (hb : b < r.length) : pickR (bes2 n m r) (a * r.length + b) = ((a : Int) * (m : Int) + (pickR r b).1, (pickR r b).2) := by
  show ((bes2 n m r).getD (a * r.length + b) (0, 0)) = _
  unfold bes2
  rw [List.getD_eq_getElem?_getD, List.getElem?_map, duos_at ha hb]
  rfl
theorem bes1_fine {r : Row} {n m : Nat} (f : FineRow n r) : FineRow (n * m) (bes1 m r) := by
  refine ⟨by rw [bes1_len, f.len], fun s hs => ?_⟩
  obtain ⟨a, b, ha, hb, rfl⟩ := dm_of hs
  obtain ⟨c, h1, h2, h3, h4⟩ := f.fine a ha
  rw [pick_bes1 (by rw [f.len]; exact ha) hb, h1]
  exact ⟨c * m + b, by push_cast; rfl, dm_lt h2 hb, h3, h4⟩
theorem bes2_fine {r : Row} {n m : Nat} (f : FineRow m r) : FineRow (n * m) (bes2 n m r) := by
  refine ⟨by rw [bes2_len, f.len], fun s hs => ?_⟩
  obtain ⟨a, b, ha, hb, rfl⟩ := dm_of hs
  obtain ⟨c, h1, h2, h3, h4⟩ := f.fine b hb
  have e := pick_bes2 (r := r) (n := n) (m := m) (a := a) (b := b) ha (by rw [f.len]; exact hb)
  rw [f.len] at e
  rw [e, h1]
  exact ⟨a * m + c, by push_cast; rfl, dm_lt ha h2, h3, h4⟩
theorem bes_names (t u : Tab) : namesT (besT t u) = namesT t ++ namesT u := by
  unfold namesT besT
  rw [List.map_append, List.map_map, List.map_map]
  rfl
theorem bes_ok {t u : Tab} (okt : okTab t = true) (oku : okTab u = true) (sz : sizeT t * sizeT u ≤ 12) (ln : t.length + u.length ≤ 6) : okTab (besT t u) = true ∧ sizeT (besT t u) = sizeT t * sizeT u := by
  obtain ⟨t1, t6, ts, ts2, tn⟩ := ok_facts okt
  obtain ⟨u1, u6, us, us2, un⟩ := ok_facts oku
  refine okTab_of (by rw [besT_len]; omega) (by rw [besT_len]; omega) (Nat.mul_pos ts us) sz fun e he => ?_
  rcases List.mem_append.mp he with z | z
  · obtain ⟨d, hd, rfl⟩ := List.mem_map.mp z
    have f := bes1_fine (m := sizeT u) (fine_of okt hd)
    exact ⟨tn d hd, f.len, fine_ok f⟩
  · obtain ⟨d, hd, rfl⟩ := List.mem_map.mp z
    have f := bes2_fine (n := sizeT t) (fine_of oku hd)
    exact ⟨un d hd, f.len, fine_ok f⟩
theorem bes_nd {t u : Tab} (ndt : (namesT t).Nodup) (ndu : (namesT u).Nodup) (ap : ∀ x ∈ namesT t, x ∉ namesT u) : (namesT (besT t u)).Nodup := by
  rw [bes_names, List.nodup_append]
  exact ⟨ndt, ndu, fun a ha b hb z => ap a ha (z ▸ hb)⟩
theorem bes_at {t u B : Tab} (p : B.Perm (besT t u)) (nd : (namesT (besT t u)).Nodup) : (∀ x ∈ namesT t, rowAt B x = bes1 (sizeT u) (rowAt t x)) ∧ ∀ x ∈ namesT u, rowAt B x = bes2 (sizeT t) (sizeT u) (rowAt u x) := by
  have ndB : (namesT B).Nodup := (p.map _).symm.nodup nd
  refine ⟨fun x hx => rowAt_of ndB (p.mem_iff.mpr ?_), fun x hx => rowAt_of ndB (p.mem_iff.mpr ?_)⟩
  · exact List.mem_append_left _ (List.mem_map.mpr ⟨_, row_in hx, rfl⟩)
  · exact List.mem_append_right _ (List.mem_map.mpr ⟨_, row_in hx, rfl⟩)
theorem bes_go {t u B : Tab} (okt : okTab t = true) (oku : okTab u = true) (ap : ∀ x ∈ namesT t, x ∉ namesT u) (h1 : ∀ x ∈ namesT t, rowAt B x = bes1 (sizeT u) (rowAt t x)) (h2 : ∀ x ∈ namesT u, rowAt B x = bes2 (sizeT t) (sizeT u) (rowAt u x)) :
    ∀ (row : List Str) (a b : Nat), (∀ x ∈ row, x ∈ namesT t ∨ x ∈ namesT u) → a < sizeT t → b < sizeT u →
      (goR B (a * sizeT u + b) row).1 = (goR t a (row.filter fun x => decide (x ∈ namesT t))).1 * sizeT u + (goR u b (row.filter fun x => decide (x ∈ namesT u))).1 ∧
      ((row.zip (goR B (a * sizeT u + b) row).2).filter fun z => decide (z.1 ∈ namesT t)).map (·.2) = (goR t a (row.filter fun x => decide (x ∈ namesT t))).2 ∧
      ((row.zip (goR B (a * sizeT u + b) row).2).filter fun z => decide (z.1 ∈ namesT u)).map (·.2) = (goR u b (row.filter fun x => decide (x ∈ namesT u))).2
  | [], a, b, _, _, _ => ⟨rfl, rfl, rfl⟩
  | x :: row, a, b, h, ha, hb => by
    have hr : ∀ y ∈ row, y ∈ namesT t ∨ y ∈ namesT u := fun y hy => h y (List.mem_cons_of_mem _ hy)
    rcases h x List.mem_cons_self with hx | hx
    · have nx := ap x hx
      have f := fine_of okt (row_in hx)
      obtain ⟨c, c1, c2, c3, c4⟩ := f.fine a ha
      dsimp only at c1 c3 c4
      have ep : pickR (rowAt B x) (a * sizeT u + b) = (((c * sizeT u + b : Nat) : Int), (pickR (rowAt t x) a).2) := by
        rw [h1 x hx, pick_bes1 (by rw [f.len]; exact ha) hb, c1]
        push_cast
        rfl
      obtain ⟨i1, i2, i3⟩ := bes_go okt oku ap h1 h2 row c b hr c2 hb
      have e1 : (x :: row).filter (fun x => decide (x ∈ namesT t)) = x :: row.filter (fun x => decide (x ∈ namesT t)) := by rw [List.filter_cons, if_pos (decide_eq_true hx)]
      have e2 : (x :: row).filter (fun x => decide (x ∈ namesT u)) = row.filter (fun x => decide (x ∈ namesT u)) := by rw [List.filter_cons, if_neg (by simpa using nx)]
      rw [e1, e2]
      have g1 : goR B (a * sizeT u + b) (x :: row) = ((goR B (c * sizeT u + b) row).1, (pickR (rowAt t x) a).2 :: (goR B (c * sizeT u + b) row).2) := by
        rw [goR, ep]
        simp only [Int.toNat_natCast]
      have g2 : goR t a (x :: row.filter fun x => decide (x ∈ namesT t)) = ((goR t c (row.filter fun x => decide (x ∈ namesT t))).1, (pickR (rowAt t x) a).2 :: (goR t c (row.filter fun x => decide (x ∈ namesT t))).2) := by
        rw [goR, c1]
        simp only [Int.toNat_natCast]
      rw [g1, g2]
      refine ⟨i1, ?_, ?_⟩
      · rw [List.zip_cons_cons, List.filter_cons, if_pos (decide_eq_true hx), List.map_cons, i2]
      · rw [List.zip_cons_cons, List.filter_cons, if_neg (by simpa using nx), i3]
    · have nx : x ∉ namesT t := fun z => ap x z hx
      have f := fine_of oku (row_in hx)
      obtain ⟨c, c1, c2, c3, c4⟩ := f.fine b hb
      dsimp only at c1 c3 c4
      have ep : pickR (rowAt B x) (a * sizeT u + b) = (((a * sizeT u + c : Nat) : Int), (pickR (rowAt u x) b).2) := by
        have e := pick_bes2 (r := rowAt u x) (n := sizeT t) (m := sizeT u) (a := a) (b := b) ha (by rw [f.len]; exact hb)
        rw [f.len] at e
        rw [h2 x hx, e, c1]
        push_cast
        rfl
      obtain ⟨i1, i2, i3⟩ := bes_go okt oku ap h1 h2 row a c hr ha c2
      have e1 : (x :: row).filter (fun x => decide (x ∈ namesT u)) = x :: row.filter (fun x => decide (x ∈ namesT u)) := by rw [List.filter_cons, if_pos (decide_eq_true hx)]
      have e2 : (x :: row).filter (fun x => decide (x ∈ namesT t)) = row.filter (fun x => decide (x ∈ namesT t)) := by rw [List.filter_cons, if_neg (by simpa using nx)]
      rw [e1, e2]
      have g1 : goR B (a * sizeT u + b) (x :: row) = ((goR B (a * sizeT u + c) row).1, (pickR (rowAt u x) b).2 :: (goR B (a * sizeT u + c) row).2) := by
        rw [goR, ep]
        simp only [Int.toNat_natCast]
      have g2 : goR u b (x :: row.filter fun x => decide (x ∈ namesT u)) = ((goR u c (row.filter fun x => decide (x ∈ namesT u))).1, (pickR (rowAt u x) b).2 :: (goR u c (row.filter fun x => decide (x ∈ namesT u))).2) := by
        rw [goR, c1]
        simp only [Int.toNat_natCast]
      rw [g1, g2]
      refine ⟨i1, ?_, ?_⟩
      · rw [List.zip_cons_cons, List.filter_cons, if_neg (by simpa using nx), i2]
      · rw [List.zip_cons_cons, List.filter_cons, if_pos (decide_eq_true hx), List.map_cons, i3]
/-! ### the halves are images -/
def leftsN (n m : Nat) : List Nat := (List.range (n * m)).map fun s => s / m
def rightsN (n m : Nat) : List Nat := (List.range (n * m)).map fun s => s % m
theorem lefts_at {n m a b : Nat} (ha : a < n) (hb : b < m) : (leftsN n m).getD (a * m + b) 0 = a := by
  unfold leftsN
  rw [List.getD_eq_getElem?_getD, List.getElem?_map, List.getElem?_range (dm_lt ha hb)]
  exact dm_div hb
theorem rights_at {n m a b : Nat} (ha : a < n) (hb : b < m) : (rightsN n m).getD (a * m + b) 0 = b := by
  unfold rightsN
  rw [List.getD_eq_getElem?_getD, List.getElem?_map, List.getElem?_range (dm_lt ha hb)]
  exact dm_mod hb
theorem map_left {n m : Nat} {r : Row} (f : FineRow n r) : mapR (bes1 m r) r (leftsN n m) = true := by
  unfold mapR
  rw [List.all_eq_true]
  intro s hs
  rw [List.mem_range, bes1_len, f.len] at hs
  obtain ⟨a, b, ha, hb, rfl⟩ := dm_of hs
  obtain ⟨c, c1, c2, c3, c4⟩ := f.fine a ha
  rw [decide_eq_true_eq, lefts_at ha hb, pick_bes1 (by rw [f.len]; exact ha) hb, c1]
  have e : ((c : Int) * (m : Int) + (b : Int)).toNat = c * m + b := by
    have : (c : Int) * (m : Int) + (b : Int) = ((c * m + b : Nat) : Int) := by push_cast; rfl
    rw [this, Int.toNat_natCast]
  dsimp only
  rw [e, lefts_at c2 hb, ← c1]
theorem map_right {n m : Nat} {r : Row} (f : FineRow m r) : mapR (bes2 n m r) r (rightsN n m) = true := by
  unfold mapR
  rw [List.all_eq_true]
  intro s hs
  rw [List.mem_range, bes2_len, f.len] at hs
  obtain ⟨a, b, ha, hb, rfl⟩ := dm_of hs
  obtain ⟨c, c1, c2, c3, c4⟩ := f.fine b hb
  have ep := pick_bes2 (r := r) (n := n) (m := m) (a := a) (b := b) ha (by rw [f.len]; exact hb)
  rw [f.len] at ep
  rw [decide_eq_true_eq, rights_at ha hb, ep, c1]
  have e : ((a : Int) * (m : Int) + (c : Int)).toNat = a * m + c := by
    have : (a : Int) * (m : Int) + (c : Int) = ((a * m + c : Nat) : Int) := by push_cast; rfl
    rw [this, Int.toNat_natCast]
  dsimp only
  rw [e, rights_at ha c2, ← c1]
theorem map_of {w t : Tab} {ns : List Nat} (nm : namesT w = namesT t) (ln : ns.length = sizeT w) (lt : ∀ n ∈ ns, n < sizeT t) (h : ∀ x ∈ namesT w, mapR (rowAt w x) (rowAt t x) ns = true) : isMap w t ns = true := by
  unfold isMap inAll
  rw [decide_eq_true nm, decide_eq_true ln]
  simp only [Bool.true_and, Bool.and_eq_true, List.all_eq_true, decide_eq_true_eq]
  exact ⟨lt, h⟩
/-! ### turned about -/
def turnN (n m : Nat) : List Nat := (List.range (n * m)).map fun s => s % m * n + s / m
theorem turn_at {n m a b : Nat} (ha : a < n) (hb : b < m) : (turnN n m)[a * m + b]? = some (b * n + a) := by
  unfold turnN
  rw [List.getElem?_map, List.getElem?_range (dm_lt ha hb)]
  show some ((a * m + b) % m * n + (a * m + b) / m) = some (b * n + a)
  rw [dm_mod hb, dm_div hb]
theorem turn_len (n m : Nat) : (turnN n m).length = n * m := by
  unfold turnN
  rw [List.length_map, List.length_range]
theorem turn_lt {n m : Nat} : ∀ k ∈ turnN n m, k < m * n := fun k hk => by
  obtain ⟨s, hs, rfl⟩ := List.mem_map.mp hk
  obtain ⟨a, b, ha, hb, rfl⟩ := dm_of (List.mem_range.mp hs)
  rw [dm_mod hb, dm_div hb]
  exact dm_lt hb ha
theorem turn_inj {n m i j : Nat} (hi : i < n * m) (hj : j < n * m) (h : (turnN n m)[i]? = (turnN n m)[j]?) : i = j := by
  obtain ⟨a, b, ha, hb, rfl⟩ := dm_of hi
  obtain ⟨c, d, hc, hd, rfl⟩ := dm_of hj
  rw [turn_at ha hb, turn_at hc hd] at h
  have h := Option.some.inj h
  have h1 := congrArg (· / n) h
  have h2 := congrArg (· % n) h
  simp only [dm_div ha, dm_div hc, dm_mod ha, dm_mod hc] at h1 h2
  rw [h1, h2]
theorem turn_nd (n m : Nat) : (turnN n m).Nodup := by
  rw [List.nodup_iff_pairwise_ne, List.pairwise_iff_getElem]
  intro i j hi hj lt z
  have := turn_inj (n := n) (m := m) (i := i) (j := j) (by rw [turn_len] at hi; exact hi) (by rw [turn_len] at hj; exact hj) (by rw [List.getElem?_eq_getElem hi, List.getElem?_eq_getElem hj, z])
  omega
/-- the place of each number -/
theorem turn_back {n m k : Nat} (h : k < m * n) : (turnN n m)[(turnN m n).getD k 0]? = some k ∧ (turnN m n).getD k 0 < n * m := by
  obtain ⟨b, a, hb, ha, rfl⟩ := dm_of h
  rw [List.getD_eq_getElem?_getD, turn_at hb ha]
  exact ⟨turn_at ha hb, dm_lt ha hb⟩
def gOfN (ns : List Nat) (y : Int) : Option Int := (ns.map fun n : Nat => (n : Int))[y.toNat]?
theorem turn_num {n m a b : Nat} (ha : a < n) (hb : b < m) : gOfN (turnN n m) ((a * m + b : Nat) : Int) = some ((b * n + a : Nat) : Int) := by
  unfold gOfN
  rw [Int.toNat_natCast, List.getElem?_map, turn_at ha hb]
  rfl
theorem over_len (S : List Nat) (g : Int → Option Int) (r : Row) : (overR S g r).length = S.length := by
  unfold overR
  rw [List.length_map]
theorem pick_over {S : List Nat} {g : Int → Option Int} {r : Row} {i s : Nat} (h : S[i]? = some s) : pickR (overR S g r) i = (numG g (pickR r s).1, (pickR r s).2) := by
  show (overR S g r).getD i (0, 0) = _
  unfold overR
  rw [List.getD_eq_getElem?_getD, List.getElem?_map, h]
  rfl
theorem turn_row1 {n m : Nat} {r : Row} (f : FineRow n r) : overR (turnN m n) (gOfN (turnN n m)) (bes1 m r) = bes2 m n r := by
  refine row_ext (by rw [over_len, turn_len, bes2_len, f.len]) fun s hs => ?_
  rw [over_len, turn_len] at hs
  obtain ⟨b, a, hb, ha, rfl⟩ := dm_of hs
  obtain ⟨c, c1, c2, c3, c4⟩ := f.fine a ha
  have ep := pick_bes2 (r := r) (n := m) (m := n) (a := b) (b := a) hb (by rw [f.len]; exact ha)
  rw [f.len] at ep
  rw [pick_over (turn_at hb ha), pick_bes1 (by rw [f.len]; exact ha) hb, ep, c1]
  have e : (c : Int) * (m : Int) + (b : Int) = ((c * m + b : Nat) : Int) := by push_cast; rfl
  dsimp only
  unfold numG
  rw [e, turn_num c2 hb]
  simp
theorem turn_row2 {n m : Nat} {r : Row} (f : FineRow m r) : overR (turnN m n) (gOfN (turnN n m)) (bes2 n m r) = bes1 n r := by
  refine row_ext (by rw [over_len, turn_len, bes1_len, f.len]) fun s hs => ?_
  rw [over_len, turn_len] at hs
  obtain ⟨b, a, hb, ha, rfl⟩ := dm_of hs
  obtain ⟨c, c1, c2, c3, c4⟩ := f.fine b hb
  have ep := pick_bes2 (r := r) (n := n) (m := m) (a := a) (b := b) ha (by rw [f.len]; exact hb)
  rw [f.len] at ep
  rw [pick_over (turn_at hb ha), pick_bes1 (r := r) (m := n) (by rw [f.len]; exact hb) ha, ep, c1]
  have e : (a : Int) * (m : Int) + (c : Int) = ((a * m + c : Nat) : Int) := by push_cast; rfl
  dsimp only
  unfold numG
  rw [e, turn_num ha c2]
  simp
theorem turn_tab {t u B : Tab} (okt : okTab t = true) (oku : okTab u = true) (p : B.Perm (besT t u)) : (overT (turnN (sizeT u) (sizeT t)) (gOfN (turnN (sizeT t) (sizeT u))) B).Perm (besT u t) := by
  refine (p.map _).trans ?_
  have e : (besT t u).map (fun e => (e.1, overR (turnN (sizeT u) (sizeT t)) (gOfN (turnN (sizeT t) (sizeT u))) e.2)) = (t.map fun e => (e.1, bes2 (sizeT u) (sizeT t) e.2)) ++ u.map fun e => (e.1, bes1 (sizeT t) e.2) := by
    unfold besT
    rw [List.map_append, List.map_map, List.map_map]
    have cc : ∀ {a b c d : Tab}, a = c → b = d → a ++ b = c ++ d := fun h1 h2 => by rw [h1, h2]
    refine cc (List.map_congr_left fun e he => ?_) (List.map_congr_left fun e he => ?_)
    · show (e.1, overR _ _ (bes1 (sizeT u) e.2)) = _
      rw [turn_row1 (fine_of okt he)]
    · show (e.1, overR _ _ (bes2 (sizeT t) (sizeT u) e.2)) = _
      rw [turn_row2 (fine_of oku he)]
  show ((besT t u).map _).Perm _
  rw [e]
  exact List.perm_append_comm
end Tm

/-! What a cut kind is, as numbers. -/
namespace Tm
open PySem PySem.Spec PyProof.Rows L2
theorem find_ix : ∀ {ns : List Nat} {i x k : Nat}, ns.Nodup → ns[i]? = some x → ((ns.zipIdx k).find? fun z => decide (((z.1 : Nat) : Int) = (x : Int))) = some (x, k + i)
  | [], _, _, _, _, h => nomatch h
  | a :: ns, 0, x, k, _, h => by
    cases h
    rw [List.zipIdx_cons, List.find?_cons]
    simp
  | a :: ns, i + 1, x, k, nd, h => by
    have nd' := List.nodup_cons.mp nd
    have h' : ns[i]? = some x := h
    have ne : a ≠ x := fun z => nd'.1 (by rw [z]; exact List.mem_of_getElem? h')
    rw [List.zipIdx_cons, List.find?_cons]
    have : decide (((a : Nat) : Int) = (x : Int)) = false := decide_eq_false fun z => ne (Int.ofNat.inj z)
    rw [this]
    dsimp only
    rw [find_ix nd'.2 h']
    congr 2
    omega
theorem gIx_at {ns : List Nat} {i x : Nat} (nd : ns.Nodup) (h : ns[i]? = some x) : gIx ns (x : Int) = some (i : Int) := by
  unfold gIx
  rw [find_ix nd h]
  simp
theorem nd_ix {ns : List Nat} {i j x : Nat} (nd : ns.Nodup) (h : ns[i]? = some x) (h' : ns[j]? = some x) : i = j := by
  obtain ⟨hi, e1⟩ := List.getElem?_eq_some_iff.mp h
  obtain ⟨hj, e2⟩ := List.getElem?_eq_some_iff.mp h'
  have pw := List.pairwise_iff_getElem.mp (List.nodup_iff_pairwise_ne.mp nd)
  rcases Nat.lt_trichotomy i j with z | z | z
  · exact absurd (e1.trans e2.symm) (pw i j hi hj z)
  · exact z
  · exact absurd (e2.trans e1.symm) (pw j i hj hi z)
theorem toN_pick {r : Row} {s : Nat} (h : s < r.length) : toN r s = (pickR r s).1.toNat := by
  unfold toN
  rw [pick_at h]
/-- states of a table that nothing leads out of -/
structure Shut (t : Tab) (S : List Nat) : Prop where
  nd : S.Nodup
  lt : ∀ x ∈ S, x < sizeT t
  to : ∀ e ∈ t, ∀ x ∈ S, toN e.2 x ∈ S
  some_ : S ≠ []
theorem Shut.len {t : Tab} {S : List Nat} (h : Shut t S) : 1 ≤ S.length ∧ S.length ≤ sizeT t := by
  refine ⟨?_, ?_⟩
  · have := h.some_
    cases S with
    | nil => exact absurd rfl this
    | cons => simp
  · have := List.Nodup.length_le_of_subset h.nd (l₂ := List.range (sizeT t)) fun x hx => List.mem_range.mpr (h.lt x hx)
    rwa [List.length_range] at this
theorem Shut.at_ {t : Tab} {S : List Nat} (h : Shut t S) (ok : okTab t = true) {e : Str × Row} (he : e ∈ t) {i s : Nat} (hi : S[i]? = some s) :
    ∃ j c : Nat, S[j]? = some c ∧ j < S.length ∧ (pickR e.2 s).1 = (c : Int) ∧ pickR (overR S (gIx S) e.2) i = ((j : Int), (pickR e.2 s).2) ∧ 0 ≤ (pickR e.2 s).2 ∧ (pickR e.2 s).2 ≤ 99 := by
  have f := fine_of ok he
  have hs := List.mem_of_getElem? hi
  obtain ⟨c, c1, c2, c3, c4⟩ := f.fine s (h.lt s hs)
  have hc : c ∈ S := by
    have := h.to e he s hs
    rw [toN_pick (by rw [f.len]; exact h.lt s hs), c1, Int.toNat_natCast] at this
    exact this
  obtain ⟨j, hj⟩ := List.mem_iff_getElem?.mp hc
  refine ⟨j, c, hj, (List.getElem?_eq_some_iff.mp hj).1, c1, ?_, c3, c4⟩
  rw [pick_over hi, c1]
  unfold numG
  rw [gIx_at h.nd hj]
  rfl
theorem Shut.over {t : Tab} {S : List Nat} (h : Shut t S) (ok : okTab t = true) : overOk S (gIx S) t := fun e he s hs => by
  obtain ⟨i, hi⟩ := List.mem_iff_getElem?.mp hs
  obtain ⟨j, c, hj, jl, c1, _⟩ := h.at_ ok he hi
  refine ⟨h.lt s hs, ?_, by omega⟩
  rw [c1, gIx_at h.nd hj]
  rfl
theorem over_names (S : List Nat) (g : Int → Option Int) (t : Tab) : namesT (overT S g t) = namesT t := by
  unfold namesT overT
  rw [List.map_map]
  rfl
theorem Shut.fine {t : Tab} {S : List Nat} (h : Shut t S) (ok : okTab t = true) {e : Str × Row} (he : e ∈ t) : FineRow S.length (overR S (gIx S) e.2) := by
  refine ⟨over_len _ _ _, fun i hi => ?_⟩
  obtain ⟨j, c, hj, jl, c1, c2, c3, c4⟩ := h.at_ ok he (List.getElem?_eq_getElem hi)
  rw [c2]
  exact ⟨j, rfl, jl, c3, c4⟩
theorem Shut.ok {t : Tab} {S : List Nat} (h : Shut t S) (ok : okTab t = true) : okTab (overT S (gIx S) t) = true ∧ sizeT (overT S (gIx S) t) = S.length := by
  obtain ⟨t1, t6, ts, ts2, tn⟩ := ok_facts ok
  have l := h.len
  have e : (overT S (gIx S) t).length = t.length := by
    unfold overT
    rw [List.length_map]
  refine okTab_of (by omega) (by omega) l.1 (by omega) fun e he => ?_
  obtain ⟨d, hd, rfl⟩ := List.mem_map.mp he
  have f := h.fine ok hd
  exact ⟨tn d hd, f.len, fine_ok f⟩
theorem Shut.rowAt {t W : Tab} {S : List Nat} (p : W.Perm (overT S (gIx S) t)) (nd : (namesT t).Nodup) : ∀ x ∈ namesT t, rowAt W x = overR S (gIx S) (rowAt t x) := fun x hx =>
  rowAt_of ((p.map _).symm.nodup (by rw [show (overT S (gIx S) t).map (fun e => e.1) = namesT t from over_names _ _ _]; exact nd)) (p.mem_iff.mpr (List.mem_map.mpr ⟨_, row_in hx, rfl⟩))
theorem Shut.go {t W : Tab} {S : List Nat} (h : Shut t S) (ok : okTab t = true) (hr : ∀ x ∈ namesT t, Tm.rowAt W x = overR S (gIx S) (Tm.rowAt t x)) : ∀ (row : List Str) (i s : Nat), (∀ x ∈ row, x ∈ namesT t) → S[i]? = some s →
    ∃ j c, S[j]? = some c ∧ goR W i row = (j, (goR t s row).2) ∧ (goR t s row).1 = c
  | [], i, s, _, hi => ⟨i, s, hi, rfl, rfl⟩
  | x :: row, i, s, hx, hi => by
    have hm := hx x List.mem_cons_self
    obtain ⟨j, c, hj, jl, c1, c2, _⟩ := h.at_ ok (row_in hm) hi
    dsimp only at c1 c2
    obtain ⟨j2, c3, h1, h2, h3⟩ := Shut.go h ok hr row j c (fun y hy => hx y (List.mem_cons_of_mem _ hy)) hj
    refine ⟨j2, c3, h1, ?_, ?_⟩
    · rw [goR, hr x hm, c2, goR, c1]
      simp only [Int.toNat_natCast]
      rw [h2]
    · rw [goR, c1]
      simp only [Int.toNat_natCast]
      exact h3
theorem Shut.map {t W : Tab} {S : List Nat} (h : Shut t S) (ok : okTab t = true) (nm : namesT W = namesT t) (sz : sizeT W = S.length) (hr : ∀ x ∈ namesT t, Tm.rowAt W x = overR S (gIx S) (Tm.rowAt t x)) : isMap W t S = true := by
  refine map_of nm sz.symm h.lt fun x hx => ?_
  rw [nm] at hx
  rw [hr x hx]
  unfold mapR
  rw [List.all_eq_true]
  intro i hi
  rw [List.mem_range, over_len] at hi
  obtain ⟨j, c, hj, jl, c1, c2, _⟩ := h.at_ ok (row_in hx) (List.getElem?_eq_getElem hi)
  dsimp only at c1 c2
  rw [decide_eq_true_eq, c2]
  simp only [Int.toNat_natCast]
  rw [List.getD_eq_getElem?_getD, List.getElem?_eq_getElem hi, List.getD_eq_getElem?_getD, hj]
  show pickR (Tm.rowAt t x) S[i] = ((c : Int), _)
  rw [← c1]
/-! ### what is reached -/
theorem walk_shut {t : Tab} (ok : okTab t = true) {s : Nat} (hs : s < sizeT t) : Shut t (walkN t s (sizeT t)) ∧ s ∈ walkN t s (sizeT t) := by
  obtain ⟨h1, h2, h3, h4⟩ := walk_facts hs (sizeT t)
  refine ⟨⟨h1, h2, fun e he x hx => (walk_all ok hs _).mpr (.step e ((walk_all ok hs x).mp hx) he), fun z => ?_⟩, h4⟩
  rw [z] at h4
  cases h4
theorem cut_ok {t : Tab} (ok : okTab t = true) {s : Nat} (hs : s < sizeT t) : ∃ out, CutOk t s out (walkN t s (sizeT t)) := by
  obtain ⟨out, e, nd, mem, few⟩ := runR_ok ok hs
  have h := (walk_shut ok hs).1
  have l := h.len
  have := (ok_facts ok).2.2.2.1
  exact ⟨out, hs, e, by omega, fun ns p up => reached_is ok hs nd mem p up, h.nd, by omega, h.over ok⟩
theorem reach_cut {t W : Tab} {s i0 : Nat} {S : List Nat} (h : Shut t S) (ok : okTab t = true) (p : W.Perm (overT S (gIx S) t)) (h0 : S[i0]? = some s) : ∀ x, ReachN t s x → ∀ i, S[i]? = some x → ReachN W i0 i := fun x hx => by
  induction hx with
  | start =>
    intro i hi
    rw [nd_ix h.nd hi h0]
    exact .start
  | @step y e hy he ih =>
    intro i hi
    have hyS : y ∈ S := by
      refine reach_least (S := fun x => x ∈ S) (List.mem_of_getElem? h0) (fun a ha e he => h.to e he a ha) y hy
    obtain ⟨k, hk⟩ := List.mem_iff_getElem?.mp hyS
    obtain ⟨j, c, hj, jl, c1, c2, _⟩ := h.at_ ok he hk
    have f := fine_of ok he
    have ec : toN e.2 y = c := by
      rw [toN_pick (by rw [f.len]; exact h.lt y hyS), c1, Int.toNat_natCast]
    rw [ec] at hi
    have ij := nd_ix h.nd hi hj
    subst ij
    have kl : k < S.length := (List.getElem?_eq_some_iff.mp hk).1
    have := ReachN.step (t := W) (e.1, overR S (gIx S) e.2) (ih k hk) (p.mem_iff.mpr (List.mem_map.mpr ⟨e, he, rfl⟩))
    rw [toN_pick (by rw [over_len]; exact kl), c2] at this
    exact this
theorem range_up (n : Nat) : (iN (List.range n)).Pairwise (· < ·) := by
  unfold iN
  rw [List.pairwise_map]
  exact List.pairwise_lt_range.imp fun h => by omega
theorem walk_cut {t W : Tab} {s i0 : Nat} (ok : okTab t = true) (hs : s < sizeT t) (okW : okTab W = true) (sz : sizeT W = (walkN t s (sizeT t)).length) (p : W.Perm (overT (walkN t s (sizeT t)) (gIx (walkN t s (sizeT t))) t)) (h0 : (walkN t s (sizeT t))[i0]? = some s) : walkN W i0 (sizeT W) = List.range (sizeT W) := by
  have h := (walk_shut ok hs).1
  have hi0 : i0 < sizeT W := by
    rw [sz]
    exact (List.getElem?_eq_some_iff.mp h0).1
  have e := rise_one (walk_up okW hi0) (range_up (sizeT W)) fun k => by
    unfold iN
    rw [List.mem_map, List.mem_map]
    constructor
    · rintro ⟨x, hx, rfl⟩
      exact ⟨x, List.mem_range.mpr ((walk_facts hi0 _).2.1 x hx), rfl⟩
    · rintro ⟨x, hx, rfl⟩
      refine ⟨x, (walk_all okW hi0 x).mpr ?_, rfl⟩
      have hx' : x < (walkN t s (sizeT t)).length := by
        rw [← sz]
        exact List.mem_range.mp hx
      exact reach_cut h ok p h0 _ ((walk_all ok hs _).mp (List.getElem_mem hx')) x (List.getElem?_eq_getElem hx')
  unfold iN at e
  exact List.map_inj_right (fun a b z => by omega) |>.mp e
theorem over_same {W : Tab} (ok : okTab W = true) : overT (List.range (sizeT W)) (gIx (List.range (sizeT W))) W = W := by
  unfold overT
  have : ∀ e ∈ W, ((e.1, overR (List.range (sizeT W)) (gIx (List.range (sizeT W))) e.2) : Str × Row) = id e := fun e he => by
    have f := fine_of ok he
    refine Prod.ext rfl ?_
    refine row_ext (by rw [over_len, List.length_range]; exact f.len.symm) fun s hs => ?_
    rw [over_len, List.length_range] at hs
    obtain ⟨c, c1, c2, c3, c4⟩ := f.fine s hs
    rw [pick_over (s := s) (by rw [List.getElem?_range hs])]
    unfold numG
    rw [c1, gIx_at (ns := List.range (sizeT W)) (i := c) (x := c) List.nodup_range (by rw [List.getElem?_range c2])]
    show ((c : Int), _) = pickR e.2 s
    rw [← c1]
  rw [List.map_congr_left this, List.map_id]
end Tm

/-! len(set(a tuple of whole numbers)); Kind.turned; _law_row of names; _law_without. -/
namespace Tm
open PySem PySem.Spec PyProof.Rows L2
local macro_rules | `(tactic| walk_at "x") => `(tactic| dsimp only [tNext, tRet, tSeq, tCall, tCB, tC, tCons, tNil, tAsg, tDrop, sFld])
def tLenSetT (K : PySem.W.Frag) (ta : TE) : TE := fun σ H Q => ta σ H fun x H1 => ∃ (l : Addr) (ns : List Int), x = .ref l ∧ SqT K H1 l (ns.map V.int) ∧ ns.Nodup ∧ ns.length ≤ 4000 ∧ Q (.int (ns.length : Nat)) H1
theorem pe_lenSetT {X : Cx} {K : PySem.W.Frag} {a : Expr} {ta : TE} {p p2 q pos : Pos} (hg : Gl X "len") (hm : X.mg "len" = none) (hg2 : Gl X "set") (hm2 : X.mg "set" = none) (ha : PE X a ta) (hK : X.K = K := by rfl) (hc : X.calm = true := by rfl)
    (na : starEach [a] X.env = (false, eval a X.env) :: starEach [] X.env := by rfl) : PE X (.Call (.Name "len" p) [.Call (.Name "set" p2) [a] [] q] [] pos) (tLenSetT K ta) := by
  subst hK
  refine ⟨fun pins s σ H Q I h => ?_⟩
  refine Call_ (ld_blt I hg hm boot_len ?_)
  refine PyProof.Rows.callWith_builtin1 (PyProof.Rows.args_cons ?_ rfl) rfl rfl
  refine Call_ (ld_blt I hg2 hm2 boot_set ?_)
  refine PyProof.Rows.callWith_type1 (PyProof.Rows.args_cons (thn (ha.run pins s σ H _ I h) fun v s1 ⟨x, H1, I1, r1, q1⟩ => PyProof.Rows.args_nil ?_) na) na rfl
  obtain ⟨l, ns, rfl, hq, hnd, hl, q1⟩ := q1
  cases r1
  obtain ⟨its, r, pl, hz⟩ := I1.tuple hq
  refine call_set_tupI (items := its.toArray) ns (I1.ok.hd hc) pl (by simpa using RZ.intsAre_vals r) (by unfold scanBound; omega) fun h' tk c hS hk hp => ?_
  refine PyProof.Rows.args_nil ?_
  obtain ⟨o, es, ep, t, ho, hex, hd, _, nd, mem, _, hf, hn, _⟩ := hS
  have I2 : Inv X pins σ H1 { s1 with heap := h', toks := tk } := I1.kept fun b o e => hp b o e
  have sub1 : ∀ x ∈ es.toList.map keyOf, x ∈ ns := fun x hx => of_decide_eq_true ((mem x).mpr hx)
  have sub2 : ∀ x ∈ ns, x ∈ es.toList.map keyOf := fun x hx => (mem x).mp (decide_eq_true hx)
  have l1 := List.Nodup.length_le_of_subset nd sub1
  have l2 := List.Nodup.length_le_of_subset hnd sub2
  have l3 : (es.toList.map keyOf).length = es.size := by rw [List.length_map, Array.length_toList]
  have hn2 : es.size = ns.length := Nat.le_antisymm (l3 ▸ l1) (l3 ▸ l2)
  exact call_len_set ho hex hd hf (by omega) ⟨.int ns.length, H1, I2.tok _, ⟨_, by rw [hn2]⟩, q1⟩
section
variable {P : Program} {w : World} {K : PySem.W.Frag} {mg : Str → Option Value} {base : Heap} {C : Addr}
/-- numbers: a new number for each state -/
structure TurnOk (t : Tab) (ns states : List Nat) : Prop where
  len : ns.length = sizeT t
  lt : inAll (sizeT t) ns = true
  nd : ns.Nodup
  back : states = (List.range (sizeT t)).map (ixN ns)
  all : ∀ k, k < sizeT t → k ∈ ns
  over : overOk states (gOfN ns) t
/-! ### a row of names -/
/-! ### without all of them -/
theorem okTab_sub {t u : Tab} (ok : okTab t = true) (h : ∀ e ∈ u, e ∈ t) (l1 : 1 ≤ u.length) (l6 : u.length ≤ t.length) : okTab u = true ∧ sizeT u = sizeT t := by
  have f := ok_facts ok
  exact okTab_of l1 (by omega) f.2.2.1 f.2.2.2.1 fun e he => ⟨f.2.2.2.2 e (h e he), size_of_ok ok e (h e he), fine_ok (fine_of ok (h e he))⟩
def lessT (ns : List Str) (t : Tab) : Tab := t.filter fun e => !decide (e.1 ∈ ns)
theorem less_next {ns : List Str} {i : Nat} {x : Str} {t : Tab} (h : ns[i]? = some x) : cutT x (lessT (ns.take i) t) = lessT (ns.take (i + 1)) t := by
  unfold cutT lessT
  rw [List.filter_filter]
  refine List.filter_congr fun e he => ?_
  rw [take_one h, Bool.eq_iff_iff]
  simp only [Bool.and_eq_true, Bool.not_eq_true', decide_eq_false_iff_not, List.mem_append, List.mem_singleton]
  constructor
  · rintro ⟨h1, h2⟩ (z | z)
    · exact h2 z
    · exact h1 z
  · intro z
    exact ⟨fun y => z (.inr y), fun y => z (.inl y)⟩
end
end Tm

set_option maxHeartbeats 2000000
/-! list(zip(a tuple, a list)): new tuples, all of them held by the list. -/
namespace TmZ
open PySem PySem.Spec PyProof.Rows L2
open PySem.W (kdx_alive)
section
variable {prog : Program} {w : World} {A : Around} {E : Value → Shared → Prop} {s : Shared}
theorem draws_tup (hh : A.handled = none) (it l : Addr) (hne : l ≠ it) (items : Array Value) :
    Draws prog w A it [it, l] items.size (fun i v => items[i]? = some v) (fun i h => h.IsTupleIter it l i ∧ h.IsTuple l items) where
  live := fun _ _ st => let ⟨o, ho, _⟩ := st.1; ⟨o, ho⟩
  frame := fun _ _ _ st hk => ⟨st.1.at fun o e => hk it (by simp) o e, by obtain ⟨o, ho, r⟩ := st.2; exact ⟨o, hk l (by simp) o ho, r⟩⟩
  item := fun i s Q E hi st hQ => by
    refine RZ.nextOf_tuple_item st.1 st.2 (x := items[i]) (by simp [hi]) fun h' hit' hs' => ?_
    exact hQ _ h' s.toks (by simp [hi]) ⟨hit', st.2.extBut hs'.extBut hne⟩ hs'
  done := fun s Q E st hE => RZ.nextOf_tuple_end hh st.1 st.2 (by simp) hE
variable {z TI TO i1 i2 : Addr} {fp1 fp2 : List Addr} {n1 n2 i : Nat} {P1 P2 : Nat → Value → Prop} {St1 St2 : Nat → Heap → Prop}
/-- the next pair while the tuple given out before is still there -/
theorem held_item {T : Addr} {f : Bool} {oT : Obj} {Q : Value → Shared → Prop} (S : ZipSep2 z TI TO i1 i2 fp1 fp2) (D1 : Draws prog w A i1 fp1 n1 P1 St1) (D2 : Draws prog w A i2 fp2 n2 P2 St2)
    (hz : IsZipHeld s.heap z TI TO T f) (hT : s.heap.get? T = some oT) (hTI : IsTupOf2 s.heap TI (.ref i1) (.ref i2)) (st1 : St1 i s.heap) (st2 : St2 i s.heap) (hlt1 : i < n1) (hlt2 : i < n2)
    (hQ : ∀ x1 x2 h' tk, P1 i x1 → P2 i x2 → IsZipHeld h' z TI TO T true → St1 (i + 1) h' → St2 (i + 1) h' → IsTupOf2 h' s.heap.objs.size x1 x2 → h'.objs.size = s.heap.objs.size + 1 →
      (∀ c o, c ≠ z → c ≠ i1 → c ≠ i2 → s.heap.get? c = some o → h'.get? c = some o) → Q (.ref s.heap.objs.size) { s with heap := h', toks := tk }) :
    wpAny (model prog w) A (Builtin.«zip.__next__» ⟨[.ref z], []⟩) (fun fin s' => ∃ v, fin = .done (.ret v) ∧ Q v s') E s := by
  obtain ⟨hp, g, d, tk0, os⟩ := s
  show wpAny _ _ (field (.ref z) 2 >>= _) _ _ _
  refine wpAny_bind (wpAny_field hz rfl (x := .bool false) rfl ?_)
  show wpAny _ _ (field (.ref z) 3 >>= _) _ _ _
  refine wpAny_bind (wpAny_field hz rfl (x := .ref TI) rfl ?_)
  refine wpAny_bind (wpAny_seqItems hTI rfl ?_)
  show wpAny _ _ (Builtin.SmallTypes.ownedTupleIsFree (.ref z) >>= _) _ _ _
  refine wpAny_bind (wpAny_tupleHeld_zip hz hT fun g0 hz0 hs0 => ?_)
  replace hs0 : Heap.SameBut z hp g0 := hs0
  simp only [Bool.false_eq_true, if_false]
  refine wpAny_bind ?_
  rw [← Array.forIn_toList]
  simp only [List.forIn_cons, List.forIn_nil]
  refine wpAny_bind (wpAny_bind (wpAny_holding ?_))
  show wpAny _ _ (Builtin.SmallTypes.nextOf (.ref i1) >>= _) _ _ ⟨g0, g, d, tk0, os⟩
  refine wpAny_bind (D1.item i _ _ _ hlt1 (D1.over st1 hs0 S.zf1) fun x1 p1 tk1 hx1 sn1 hp1 => wpAny_pure ?_)
  replace hp1 : Heap.SameBut i1 g0 p1 := hp1
  refine wpAny_pure ?_
  refine wpAny_bind (wpAny_bind (wpAny_holding ?_))
  show wpAny _ _ (Builtin.SmallTypes.nextOf (.ref i2) >>= _) _ _ ⟨p1, g, d, tk1, os⟩
  refine wpAny_bind (D2.item i _ _ _ hlt2 (D2.over (D2.over st2 hs0 S.zf2) hp1 S.sep1_2) fun x2 p2 tk2 hx2 sn2 hp2 => wpAny_pure ?_)
  replace hp2 : Heap.SameBut i2 p1 p2 := hp2
  refine wpAny_pure (wpAny_pure ?_)
  show wpAny _ _ (newTuple [x1, x2] >>= _) _ _ _
  refine wpAny_bind (wpAny_newTuple ?_)
  have hsz : p2.objs.size = hp.objs.size := by rw [hp2.1, hp1.1, hs0.1]
  have hzz : IsZipHeld p2 z TI TO T true := hp2.extBut _ _ S.zi2 (hp1.extBut _ _ S.zi1 hz0)
  have hk : ∀ c o, c ≠ z → c ≠ i1 → c ≠ i2 → hp.get? c = some o → p2.get? c = some o := fun c o c1 c2 c3 e => hp2.extBut _ _ c3 (hp1.extBut _ _ c2 (hs0.extBut _ _ c1 e))
  have hj1 : St1 (i + 1) p2 := D1.over sn1 hp2 S.sep2_1
  refine wpAny_pure ⟨_, rfl, ?_⟩
  show Q (.ref p2.objs.size) _
  have hp' : IsTupOf2 (p2.push { cls := .type "tuple", data := .seq #[x1, x2] }) p2.objs.size x1 x2 := Heap.get?_push_size _ rfl
  have hz4 : (p2.push { cls := .type "tuple", data := .seq #[x1, x2] }).objs.size = p2.objs.size + 1 := Heap.size_push ..
  rw [hsz] at hp' hz4 ⊢
  exact hQ x1 x2 _ tk2 hx1 hx2 (Heap.get?_push_of_some _ hzz) (D1.frame _ _ _ hj1 fun b _ o e => Heap.get?_push_of_some _ e) (D2.frame _ _ _ sn2 fun b _ o e => Heap.get?_push_of_some _ e) hp' hz4 fun c o c1 c2 c3 e => Heap.get?_push_of_some _ (hk c o c1 c2 c3 e)
theorem held_end {T : Addr} {f : Bool} {oT : Obj} {Q : Fin → Shared → Prop} (S : ZipSep2 z TI TO i1 i2 fp1 fp2) (D1 : Draws prog w A i1 fp1 n1 P1 St1) (D2 : Draws prog w A i2 fp2 n2 P2 St2)
    (hz : IsZipHeld s.heap z TI TO T f) (hT : s.heap.get? T = some oT) (hTI : IsTupOf2 s.heap TI (.ref i1) (.ref i2)) (st1 : St1 i s.heap) (st2 : St2 i s.heap) (hle1 : i ≤ n1) (hle2 : i ≤ n2) (hend : i = n1 ∨ i = n2)
    (hE : ∀ h' tk e, (∀ c o, c ≠ z → c ≠ i1 → c ≠ i2 → s.heap.get? c = some o → h'.get? c = some o) → (∃ o, h'.get? e = some o ∧ o.cls = .type "StopIteration") → E (.ref e) { s with heap := h', toks := tk }) :
    wpAny (model prog w) A (Builtin.«zip.__next__» ⟨[.ref z], []⟩) Q E s := by
  obtain ⟨hp, g, d, tk0, os⟩ := s
  show wpAny _ _ (field (.ref z) 2 >>= _) _ _ _
  refine wpAny_bind (wpAny_field hz rfl (x := .bool false) rfl ?_)
  show wpAny _ _ (field (.ref z) 3 >>= _) _ _ _
  refine wpAny_bind (wpAny_field hz rfl (x := .ref TI) rfl ?_)
  refine wpAny_bind (wpAny_seqItems hTI rfl ?_)
  show wpAny _ _ (Builtin.SmallTypes.ownedTupleIsFree (.ref z) >>= _) _ _ _
  refine wpAny_bind (wpAny_tupleHeld_zip hz hT fun g0 hz0 hs0 => ?_)
  replace hs0 : Heap.SameBut z hp g0 := hs0
  simp only [Bool.false_eq_true, if_false]
  refine wpAny_bind ?_
  rw [← Array.forIn_toList]
  simp only [List.forIn_cons, List.forIn_nil]
  refine wpAny_bind (wpAny_bind (wpAny_holding ?_))
  show wpAny _ _ (Builtin.SmallTypes.nextOf (.ref i1) >>= _) _ _ ⟨g0, g, d, tk0, os⟩
  by_cases hlt1 : i < n1
  · refine wpAny_bind (D1.item i _ _ _ hlt1 (D1.over st1 hs0 S.zf1) fun x1 p1 tk1 hx1 sn1 hp1 => wpAny_pure ?_)
    replace hp1 : Heap.SameBut i1 g0 p1 := hp1
    have hi2 : i = n2 := by omega
    refine wpAny_pure ?_
    refine wpAny_bind (wpAny_bind (wpAny_holding ?_))
    show wpAny _ _ (Builtin.SmallTypes.nextOf (.ref i2) >>= _) _ _ ⟨p1, g, d, tk1, os⟩
    refine wpAny_bind (D2.done ⟨p1, g, d, tk1, os⟩ _ _ (by rw [← hi2]; exact D2.over (D2.over st2 hs0 S.zf2) hp1 S.sep1_2) fun q e hq he => ?_)
    exact hE q tk1 e (fun c o c1 c2 c3 x => hq _ _ c3 (hp1.extBut _ _ c2 (hs0.extBut _ _ c1 x))) he
  · have hi1 : i = n1 := by omega
    refine wpAny_bind (D1.done ⟨g0, g, d, tk0, os⟩ _ _ (by rw [← hi1]; exact D1.over st1 hs0 S.zf1) fun q e hq he => ?_)
    exact hE q tk0 e (fun c o c1 c2 c3 x => hq _ _ c2 (hs0.extBut _ _ c1 x)) he
/-- a zip at turn i, the tuple given out before, if there is one, still there -/
structure ZAt (h : Heap) (L z TI TO i1 i2 : Addr) (St1 St2 : Nat → Heap → Prop) (i : Nat) : Prop where
  ti : IsTupOf2 h TI (.ref i1) (.ref i2)
  s1 : St1 i h
  s2 : St2 i h
  zz : (∃ a b, IsZip h z TI TO .none ∧ IsTupOf2 h TO a b) ∨ ∃ T f oT, IsZipHeld h z TI TO T f ∧ h.get? T = some oT ∧ T ≠ z ∧ T ≠ i1 ∧ T ≠ i2 ∧ L < T
theorem next_item {L : Addr} {Q : Option Value → Shared → Prop} (S : ZipSep2 z TI TO i1 i2 fp1 fp2) (D1 : Draws prog w A.in1 i1 fp1 n1 P1 St1) (D2 : Draws prog w A.in1 i2 fp2 n2 P2 St2) (za : ZAt s.heap L z TI TO i1 i2 St1 St2 i) (hlt1 : i < n1) (hlt2 : i < n2) (hL : L < s.heap.objs.size)
    (hQ : ∀ x1 x2 h' tk, P1 i x1 → P2 i x2 → ZAt h' L z TI TO i1 i2 St1 St2 (i + 1) → IsTupOf2 h' s.heap.objs.size x1 x2 → h'.objs.size = s.heap.objs.size + 1 → (∀ c o, c ∉ [z, TO, i1, i2] → s.heap.get? c = some o → h'.get? c = some o) → Q (some (.ref s.heap.objs.size)) { s with heap := h', toks := tk }) :
    wpAny (model prog w) A (pyNext (.ref z)) Q E s := by
  obtain ⟨ti, s1, s2, zz⟩ := za
  have lt : ∀ {c o}, s.heap.get? c = some o → s.heap.objs.size ≠ c := fun e => Nat.ne_of_gt (Heap.lt_size e)
  have l1 : s.heap.objs.size ≠ i1 := by obtain ⟨_, e⟩ := D1.live _ _ s1; exact lt e
  have l2 : s.heap.objs.size ≠ i2 := by obtain ⟨_, e⟩ := D2.live _ _ s2; exact lt e
  rcases zz with ⟨a, b, hz, hTO⟩ | ⟨T, f, oT, hz, hT, n1, n2, n3, n4⟩
  · refine wpAny_pyNext_zipD2_item S D1 D2 hz ti hTO s1 s2 hlt1 hlt2 fun x1 x2 h' tk y1 y2 b1 b2 d1 d2 b5 b6 hk => ?_
    exact hQ x1 x2 h' tk y1 y2 ⟨hk _ _ S.TIz S.TITO S.TIi1 S.TIi2 ti, d1, d2, .inr ⟨_, false, _, b1, b5, lt hz, l1, l2, hL⟩⟩ b5 b6 fun c o hc e => hk c o (fun x => hc (by simp [x])) (fun x => hc (by simp [x])) (fun x => hc (by simp [x])) (fun x => hc (by simp [x])) e
  · have hTy : s.TypeIs (.ref z) "zip" := ⟨_, hz, rfl⟩
    unfold pyNext
    refine wpAny_bind (wpAny_attempt (wpAny_callSpecial?_slot (name := Str.ofString "__next__") hTy PySem.F.slot_zip_next
      (wpAny_call_entry PySem.F.slot_zip_next hTy PySem.F.entry_zip_next
        (held_item S D1 D2 hz hT ti s1 s2 hlt1 hlt2 fun x1 x2 h' tk y1 y2 b1 d1 d2 b5 b6 hk => wpAny_pure ?_) (PySem.F.args_zip_next_1 _))))
    exact hQ x1 x2 h' tk y1 y2 ⟨hk _ _ S.TIz S.TIi1 S.TIi2 ti, d1, d2, .inr ⟨T, true, oT, b1, hk _ _ n1 n2 n3 hT, n1, n2, n3, n4⟩⟩ b5 b6 fun c o hc e => hk c o (fun x => hc (by simp [x])) (fun x => hc (by simp [x])) (fun x => hc (by simp [x])) e
theorem next_done {L : Addr} {Q : Option Value → Shared → Prop} (S : ZipSep2 z TI TO i1 i2 fp1 fp2) (D1 : Draws prog w A.in1 i1 fp1 n1 P1 St1) (D2 : Draws prog w A.in1 i2 fp2 n2 P2 St2) (za : ZAt s.heap L z TI TO i1 i2 St1 St2 i) (hle1 : i ≤ n1) (hle2 : i ≤ n2) (hend : i = n1 ∨ i = n2)
    (hQ : ∀ h' tk, (∀ c o, c ∉ [z, TO, i1, i2] → s.heap.get? c = some o → h'.get? c = some o) → Q none { s with heap := h', toks := tk }) :
    wpAny (model prog w) A (pyNext (.ref z)) Q E s := by
  obtain ⟨ti, s1, s2, zz⟩ := za
  rcases zz with ⟨a, b, hz, hTO⟩ | ⟨T, f, oT, hz, hT, m1, m2, m3, m4⟩
  · exact wpAny_pyNext_zipD2_end S D1 D2 hz ti hTO s1 s2 hle1 hle2 hend fun h' tk hk => hQ h' tk fun c o hc e => hk c o (fun x => hc (by simp [x])) (fun x => hc (by simp [x])) (fun x => hc (by simp [x])) (fun x => hc (by simp [x])) e
  · have hTy : s.TypeIs (.ref z) "zip" := ⟨_, hz, rfl⟩
    unfold pyNext
    refine wpAny_bind (wpAny_attempt (wpAny_callSpecial?_slot (name := Str.ofString "__next__") hTy PySem.F.slot_zip_next
      (wpAny_call_entry PySem.F.slot_zip_next hTy PySem.F.entry_zip_next (held_end S D1 D2 hz hT ti s1 s2 hle1 hle2 hend fun h' tk e hk he => ?_) (PySem.F.args_zip_next_1 _))))
    obtain ⟨o, ho, hc⟩ := he
    refine wpAny_bind (wpAny_isInstance (T := "StopIteration") (b := true) ⟨o, ho, hc⟩ isSubtype_stop ?_)
    exact wpAny_pure (hQ _ _ fun c o hc e => hk c o (fun x => hc (by simp [x])) (fun x => hc (by simp [x])) (fun x => hc (by simp [x])) e)
end
end TmZ

/-! list(zip(a tuple, a list)): the list's loop, the call, the rule. -/
namespace TmZ
open PySem PySem.Spec PyProof.Rows L2
theorem zip_no_len : typeLookup (.type "zip") "__len__" = pure none := by rw [typeLookup_type, builtinLookup_eq_fast]; kernel_rfl
theorem zip_no_hint : typeLookup (.type "zip") "__length_hint__" = pure none := by rw [typeLookup_type, builtinLookup_eq_fast]; kernel_rfl
/-- pairs made so far -/
structure PG (P1 P2 : Nat → Value → Prop) (lo : Addr) (h : Heap) (as : List Addr) : Prop where
  rise : as.Pairwise (· < ·)
  above : ∀ a ∈ as, lo < a
  at_ : ∀ (j : Nat) (a : Addr), as[j]? = some a → ∃ x1 x2, P1 j x1 ∧ P2 j x2 ∧ IsTupOf2 h a x1 x2
theorem PG.keep {P1 P2 : Nat → Value → Prop} {lo : Addr} {h h' : Heap} {as : List Addr} (g : PG P1 P2 lo h as) (k : ∀ b o, lo < b → h.get? b = some o → h'.get? b = some o) : PG P1 P2 lo h' as :=
  ⟨g.rise, g.above, fun j a hj => by
    obtain ⟨x1, x2, p1, p2, e⟩ := g.at_ j a hj
    exact ⟨x1, x2, p1, p2, k _ _ (g.above a (List.mem_of_getElem? hj)) e⟩⟩
theorem PG.there {P1 P2 : Nat → Value → Prop} {lo : Addr} {h : Heap} {as : List Addr} (g : PG P1 P2 lo h as) {a : Addr} (ha : a ∈ as) : a < h.objs.size := by
  obtain ⟨j, hj⟩ := List.mem_iff_getElem?.mp ha
  obtain ⟨_, _, _, _, e⟩ := g.at_ j a hj
  exact Heap.lt_size e
section
variable {prog : Program} {w : World} {A : Around} {z TI TO i1 i2 : Addr} {fp1 fp2 : List Addr} {n1 n2 : Nat} {P1 P2 : Nat → Value → Prop} {St1 St2 : Nat → Heap → Prop}
theorem loop {s : Shared} {L : Addr} {R : Result → Shared → Prop} (S : ZipSep2 z TI TO i1 i2 fp1 fp2) (D1 : Draws prog w A.in1.in1 i1 fp1 n1 P1 St1) (D2 : Draws prog w A.in1.in1 i2 fp2 n2 P2 St2) (hn : min n1 n2 ≤ sizeLine) (res : Value)
    (zl : z < L) (tl : TO < L) (til : TI < L) (l1 : i1 < L) (l2 : i2 < L) (f1 : L ∉ fp1) (f2 : L ∉ fp2) {h₁ : Heap}
    (hR : ∀ h' tk acc c as, (∀ b o, b ≠ L → b ∉ [z, TO, i1, i2] → h₁.get? b = some o → h'.get? b = some o) → h'.get? L = some { cls := .type "list", dict := none, data := .seq acc c, slots := #[] } → as.length = min n1 n2 → PG P1 P2 L h' as →
      acc.toList = as.map Value.ref → R (.ok (.ret res)) { s with heap := h', toks := tk }) :
    ∀ (k i : Nat) (h : Heap) (tk c : Nat) (acc : Array Value) (as : List Addr), min n1 n2 - i = k → i ≤ min n1 n2 → ZAt h L z TI TO i1 i2 St1 St2 i → (∀ b o, b ≠ L → b ∉ [z, TO, i1, i2] → h₁.get? b = some o → h.get? b = some o) →
      h.get? L = some { cls := .type "list", dict := none, data := .seq acc c, slots := #[] } → acc.toList = as.map Value.ref → as.length = i → PG P1 P2 L h as →
      codeAny (model prog w) A (.builtin "list.extend.loop" ⟨[.ref L, .ref z, res], []⟩) R { s with heap := h, toks := tk } := by
  have cl : ∀ c, c ∈ [z, TO, i1, i2] → c < L := fun c hc => by
    have hc' : c = z ∨ c = TO ∨ c = i1 ∨ c = i2 := by simpa using hc
    rcases hc' with e | e | e | e <;> rw [e] <;> assumption
  have nc : ∀ b, L ≤ b → b ∉ [z, TO, i1, i2] := fun b hb hc => absurd (cl b hc) (Nat.not_lt.mpr hb)
  intro k
  induction k with
  | zero =>
    intro i h tk c acc as hk hi za hkeep hS hacc hal hG
    refine codeAny_builtin PySem.F.entry_extend_loop ?_
    rw [Around.under_plainId PySem.F.plain_extend_loop _]
    show wpAny _ A.in1 (pyNext (.ref z) >>= _) _ _ _
    refine wpAny_bind (next_done (s := { s with heap := h, toks := tk }) (A := A.in1) S D1 D2 za (by omega) (by omega) (by omega) fun h' tk' he => ?_)
    exact wpAny_pure (hR h' tk' acc c as (fun b o e1 e2 e => he b o e2 (hkeep b o e1 e2 e)) (he L _ (nc L (Nat.le_refl _)) hS) (by omega) (hG.keep fun b o hb e => he b o (nc b (Nat.le_of_lt hb)) e) hacc)
  | succ k ih =>
    intro i h tk c acc as hk hi za hkeep hS hacc hal hG
    have hsz : acc.size = i := by rw [← Array.length_toList, hacc, List.length_map, hal]
    refine codeAny_builtin PySem.F.entry_extend_loop ?_
    rw [Around.under_plainId PySem.F.plain_extend_loop _]
    show wpAny _ A.in1 (pyNext (.ref z) >>= _) _ _ _
    refine wpAny_bind (next_item (s := { s with heap := h, toks := tk }) (A := A.in1) S D1 D2 za (by omega) (by omega) (Heap.lt_size hS) fun x1 x2 h' tk' y1 y2 za' ht hz hkp => ?_)
    dsimp only at ht hz hkp ⊢
    have hS' := hkp L _ (nc L (Nat.le_refl _)) hS
    have up : ∀ b o, b ≠ L → h'.get? b = some o → (h'.update L (Obj.mapSeq (·.push (Value.ref h.objs.size)))).get? b = some o := fun b o hb e => (Heap.get?_update_other _ _ (Ne.symm hb)).trans e
    have hSl : L < h.objs.size := Heap.lt_size hS
    have za2 : ZAt (h'.update L (Obj.mapSeq (·.push (Value.ref h.objs.size)))) L z TI TO i1 i2 St1 St2 (i + 1) := by
      obtain ⟨ti, s1, s2, zz⟩ := za'
      refine ⟨up _ _ (Nat.ne_of_lt til) ti, D1.frame _ _ _ s1 fun b hb o e => up b o (fun q => f1 (q ▸ hb)) e, D2.frame _ _ _ s2 fun b hb o e => up b o (fun q => f2 (q ▸ hb)) e, ?_⟩
      rcases zz with ⟨a, b, g1, g2⟩ | ⟨T, f, oT, g1, g2, g3, g4, g5, g6⟩
      · exact .inl ⟨a, b, up _ _ (Nat.ne_of_lt zl) g1, up _ _ (Nat.ne_of_lt tl) g2⟩
      · exact .inr ⟨T, f, oT, up _ _ (Nat.ne_of_lt zl) g1, up _ _ (Nat.ne_of_gt g6) g2, g3, g4, g5, g6⟩
    show wpAny _ A.in1 (updateSeq L (·.push (Value.ref h.objs.size)) >>= _) _ _ _
    refine wpAny_bind ?_
    refine wpAny_updateSeq hS' rfl (wpAny_pure ⟨plainId_quiet PySem.F.plain_extend_loop _, ih (i + 1) _ tk' _ (acc.push (Value.ref h.objs.size)) (as ++ [h.objs.size]) (by omega) (by omega) za2
      (fun b o e1 e2 e => up b o e1 (hkp b o e2 (hkeep b o e1 e2 e))) (Heap.get?_update_self _ hS' rfl) (by rw [Array.toList_push, hacc, List.map_append]; rfl) (by rw [List.length_append, hal]; rfl) ⟨?_, ?_, ?_⟩⟩) (by rw [hsz]; omega) (by show (acc.push (Value.ref h.objs.size)).size ≤ sizeLine + 1; rw [Array.size_push, hsz]; omega)
    · refine List.pairwise_append.mpr ⟨hG.rise, List.pairwise_singleton _ _, fun a ha b hb => ?_⟩
      rw [List.mem_singleton.mp hb]
      exact hG.there ha
    · intro a ha
      rcases List.mem_append.mp ha with ha | ha
      · exact hG.above a ha
      · rw [List.mem_singleton.mp ha]; exact hSl
    · intro j a hj
      by_cases hji : j < as.length
      · rw [List.getElem?_append_left hji] at hj
        obtain ⟨y1, y2, q1, q2, e⟩ := hG.at_ j a hj
        have ab := hG.above a (List.mem_of_getElem? hj)
        exact ⟨y1, y2, q1, q2, up _ _ (Nat.ne_of_gt ab) (hkp _ _ (nc a (Nat.le_of_lt ab)) e)⟩
      · have hje : j = as.length := by
          have := (List.getElem?_eq_some_iff.mp hj).1
          rw [List.length_append, List.length_singleton] at this
          omega
        rw [hje, List.getElem?_append_right (Nat.le_refl _), Nat.sub_self] at hj
        have ea : h.objs.size = a := Option.some.inj hj
        rw [hje, hal, ← ea]
        exact ⟨x1, x2, y1, y2, up _ _ (Nat.ne_of_gt hSl) ht⟩
theorem extend {s : Shared} {L : Addr} {R : Result → Shared → Prop} (S : ZipSep2 z TI TO i1 i2 fp1 fp2) (D1 : Draws prog w A.in1.in1 i1 fp1 n1 P1 St1) (D2 : Draws prog w A.in1.in1 i2 fp2 n2 P2 St2) (hn : min n1 n2 ≤ sizeLine) (res : Value)
    (zl : z < L) (tl : TO < L) (til : TI < L) (l1 : i1 < L) (l2 : i2 < L) (f1 : L ∉ fp1) (f2 : L ∉ fp2) (c₀ : Nat) {a b : Value}
    (hz : IsZip s.heap z TI TO .none) (hTI : IsTupOf2 s.heap TI (.ref i1) (.ref i2)) (hTO : IsTupOf2 s.heap TO a b) (st1 : St1 0 s.heap) (st2 : St2 0 s.heap) (hS : s.heap.get? L = some { cls := .type "list", data := .seq #[] c₀ })
    (hR : ∀ h' tk acc c as, (∀ b o, b ≠ L → b ∉ [z, TO, i1, i2] → s.heap.get? b = some o → h'.get? b = some o) → h'.get? L = some { cls := .type "list", dict := none, data := .seq acc c, slots := #[] } → as.length = min n1 n2 → PG P1 P2 L h' as →
      acc.toList = as.map Value.ref → R (.ok (.ret res)) { s with heap := h', toks := tk }) :
    wpAny (model prog w) A.in1 (Builtin.List.listExtendWith (.ref L) (.ref z) res)
      (fun fin s' => match fin with | .done f => R (.ok f) s' | .again c' => c'.quiet = true ∧ codeAny (model prog w) A c' R s') (fun e s' => R (.error e) s') s := by
  have hT : s.TypeIs (.ref z) "zip" := ⟨_, hz, rfl⟩
  unfold Builtin.List.listExtendWith
  refine wpAny_bind (wpAny_typeOf hT ?_)
  have h1 : Builtin.List.listSameRef (.ref L) (.ref z) = false := by simp [Builtin.List.listSameRef, Nat.ne_of_gt zl]
  have h2 : (Value.type "zip" == Value.type "list") = false := by decide
  have h3 : (Value.type "zip" == Value.type "tuple") = false := by decide
  simp only [h1, h2, h3, Bool.or_false, Bool.false_eq_true, if_false]
  refine wpAny_bind (wpAny_pyIter_zip hz ?_)
  refine wpAny_bind (wpAny_holding ?_)
  unfold Builtin.List.listLengthHint
  refine wpAny_bind (wpAny_specialOf hT zip_no_len ?_)
  show wpAny _ A.in1 (specialOf (Value.ref z) (Str.ofString "__length_hint__") >>= _) _ _ _
  refine wpAny_bind (wpAny_specialOf hT zip_no_hint ?_)
  refine wpAny_pure ?_
  show wpAny _ A.in1 (rule "list.extend.makes-room" >>= fun _ => Builtin.List.listTouch (.ref L) >>= fun _ =>
    again (.builtin "list.extend.loop" ⟨[.ref L, .ref z, res], []⟩)) _ _ _
  refine wpAny_bind (wpAny_rule ?_)
  refine wpAny_bind ?_
  show wpAny _ A.in1 (updateSeq L (·.push .none) >>= fun _ => updateSeq L (·.pop)) _ _ _
  refine wpAny_bind (wpAny_updateSeq hS rfl ?_)
  have hS₂ := Heap.get?_update_self (Obj.mapSeq (·.push Value.none)) hS rfl
  refine wpAny_updateSeq (hz := by seq_fits) hS₂ rfl ?_
  have hS₃ := Heap.get?_update_self (Obj.mapSeq (·.pop)) hS₂ rfl
  have oth : ∀ b o, b ≠ L → s.heap.get? b = some o → ((s.heap.update L (Obj.mapSeq (·.push Value.none))).update L (Obj.mapSeq (·.pop))).get? b = some o :=
    fun b o hb e => (Heap.get?_update_other _ _ (Ne.symm hb)).trans ((Heap.get?_update_other _ _ (Ne.symm hb)).trans e)
  refine wpAny_pure ⟨plainId_quiet PySem.F.plain_extend_loop _, ?_⟩
  refine loop (s := s) S D1 D2 hn res zl tl til l1 l2 f1 f2 (h₁ := s.heap) hR (min n1 n2) 0 _ s.toks _ #[] [] (Nat.sub_zero _) (Nat.zero_le _) ⟨oth _ _ (Nat.ne_of_lt til) hTI, D1.frame _ _ _ st1 fun b hb o e => oth b o (fun q => f1 (q ▸ hb)) e, D2.frame _ _ _ st2 fun b hb o e => oth b o (fun q => f2 (q ▸ hb)) e, .inl ⟨a, b, oth _ _ (Nat.ne_of_lt zl) hz, oth _ _ (Nat.ne_of_lt tl) hTO⟩⟩
    (fun b o e1 _ e => oth b o e1 e) hS₃ rfl rfl ⟨List.Pairwise.nil, (fun _ ha => nomatch ha), (fun j a hj => by simp at hj)⟩
theorem init {s : Shared} {L : Addr} {R : Result → Shared → Prop} (S : ZipSep2 z TI TO i1 i2 fp1 fp2) (D1 : Draws prog w A.in1.in1 i1 fp1 n1 P1 St1) (D2 : Draws prog w A.in1.in1 i2 fp2 n2 P2 St2) (hn : min n1 n2 ≤ sizeLine)
    (zl : z < L) (tl : TO < L) (til : TI < L) (l1 : i1 < L) (l2 : i2 < L) (f1 : L ∉ fp1) (f2 : L ∉ fp2) {a b : Value}
    (hz : IsZip s.heap z TI TO .none) (hTI : IsTupOf2 s.heap TI (.ref i1) (.ref i2)) (hTO : IsTupOf2 s.heap TO a b) (st1 : St1 0 s.heap) (st2 : St2 0 s.heap) (hS : s.heap.get? L = some { cls := .type "list", data := .seq #[] })
    (hR : ∀ h' tk acc c as, (∀ b o, b ≠ L → b ∉ [z, TO, i1, i2] → s.heap.get? b = some o → h'.get? b = some o) → h'.get? L = some { cls := .type "list", dict := none, data := .seq acc c, slots := #[] } → as.length = min n1 n2 → PG P1 P2 L h' as →
      acc.toList = as.map Value.ref → R (.ok (.ret .none)) { s with heap := h', toks := tk }) :
    wpAny (model prog w) A.in1 (Builtin.«list.__init__» ⟨[.ref L, .ref z], []⟩)
      (fun fin s' => match fin with | .done f => R (.ok f) s' | .again c' => c'.quiet = true ∧ codeAny (model prog w) A c' R s') (fun e s' => R (.error e) s') s := by
  show wpAny _ _ (do let old ← Builtin.List.listItems (.ref L); Builtin.List.listUpdate (.ref L) (fun _ => #[]); letGo old.toList.reverse; Builtin.List.listExtendWith (.ref L) (.ref z) .none) _ _ s
  refine wpAny_bind ?_
  unfold Builtin.List.listItems
  refine wpAny_bind (wpAny_seqItems hS rfl (wpAny_pure ?_))
  show wpAny _ _ (updateSeq L (fun _ => #[]) >>= fun _ => letGo (#[] : Array Value).toList.reverse >>= fun _ => Builtin.List.listExtendWith (.ref L) (.ref z) .none) _ _ s
  refine wpAny_bind (wpAny_updateSeq hS rfl ?_)
  have hS₂ := Heap.get?_update_self (Obj.mapSeq (fun _ => (#[] : Array Value))) hS rfl
  have oth : ∀ b o, b ≠ L → s.heap.get? b = some o → (s.heap.update L (Obj.mapSeq (fun _ => (#[] : Array Value)))).get? b = some o :=
    fun b o hb e => (Heap.get?_update_other _ _ (Ne.symm hb)).trans e
  refine wpAny_bind (wpAny_letGo ?_)
  refine extend S D1 D2 hn .none zl tl til l1 l2 f1 f2 _ (oth _ _ (Nat.ne_of_lt zl) hz) (oth _ _ (Nat.ne_of_lt til) hTI) (oth _ _ (Nat.ne_of_lt tl) hTO) (D1.frame _ _ _ st1 fun b hb o e => oth b o (fun q => f1 (q ▸ hb)) e) (D2.frame _ _ _ st2 fun b hb o e => oth b o (fun q => f2 (q ▸ hb)) e) hS₂ fun h' tk acc c as hk hS' hl hG hacc => ?_
  exact hR h' tk acc c as (fun b o e1 e2 e => hk b o e1 e2 (oth b o e1 e)) hS' hl hG hacc
end
section
variable {prog : Program} {w : World} {A : Around} {E : Value → Shared → Prop} {s : Shared}
/-- list(a new zip over a tuple and a list) -/
theorem call_list {Q : Value → Shared → Prop} {z TI TO i1 i2 la lb : Addr} {xs ys : Array Value} {a b : Value} (hh : A.handled = none) (za : z < s.heap.objs.size) (dTIz : TI ≠ z) (dTOz : TO ≠ z) (dTITO : TI ≠ TO) (dTI1 : TI ≠ i1) (dTI2 : TI ≠ i2) (d12 : i1 ≠ i2) (dz1 : z ≠ i1) (dz2 : z ≠ i2) (dT1 : TO ≠ i1) (dT2 : TO ≠ i2)
    (ha : la ∉ [z, TI, TO, i1, i2]) (hb : lb ∉ [z, TI, TO, i1, i2]) (hn : min xs.size ys.size ≤ sizeLine)
    (hz : IsZip s.heap z TI TO .none) (hTI : IsTupOf2 s.heap TI (.ref i1) (.ref i2)) (hTO : IsTupOf2 s.heap TO a b) (h1 : s.heap.IsTupleIter i1 la 0) (h2 : s.heap.IsListIter i2 lb 0) (hx : s.heap.IsTuple la xs) (hy : s.heap.IsList lb ys)
    (hQ : ∀ h' tk acc c as, (∀ b o, b ∉ [z, TO, i1, i2] → s.heap.get? b = some o → h'.get? b = some o) → h'.get? s.heap.objs.size = some { cls := .type "list", dict := none, data := .seq acc c, slots := #[] } → as.length = min xs.size ys.size → PG (fun i v => xs[i]? = some v) (fun i v => ys[i]? = some v) s.heap.objs.size h' as →
      acc.toList = as.map Value.ref → Q (.ref s.heap.objs.size) { s with heap := h', toks := tk }) :
    wpAny (model prog w) A (call (.type "list") [.ref z]) Q E s := by
  refine callType_codes (Q₁ := fun obj s₁ => obj = .ref s.heap.objs.size ∧ s₁ = { s with heap := s.heap.push { cls := .type "list", data := .seq #[] } }) PySem.F.called_list (PySem.F.typeCall_list_1 _) PySem.F.entry_list_init
    (code_list_new _ ⟨rfl, rfl⟩) fun obj s₁ h₁ => ?_
  obtain ⟨rfl, rfl⟩ := h₁
  have hS : (s.heap.push { cls := .type "list", data := .seq #[] }).get? s.heap.objs.size = some { cls := .type "list", data := .seq #[] } := Heap.get?_push_size _ rfl
  have up : ∀ b o, s.heap.get? b = some o → (s.heap.push { cls := .type "list", data := .seq #[] }).get? b = some o := fun b o e => Heap.get?_push_of_some _ e
  simp only [List.mem_cons, List.not_mem_nil, or_false, not_or] at ha hb
  obtain ⟨az, aTI, aTO, a1, a2⟩ := ha
  obtain ⟨bz, bTI, bTO, b1, b2⟩ := hb
  have ltT : TO < s.heap.objs.size := Heap.lt_size hTO
  have ltI : TI < s.heap.objs.size := Heap.lt_size hTI
  have lt1 : i1 < s.heap.objs.size := by obtain ⟨_, e, _⟩ := h1; exact Heap.lt_size e
  have lt2 : i2 < s.heap.objs.size := by obtain ⟨_, e, _⟩ := h2; exact Heap.lt_size e
  have lta : la < s.heap.objs.size := by obtain ⟨_, e, _⟩ := hx; exact Heap.lt_size e
  have ltb : lb < s.heap.objs.size := by obtain ⟨_, e, _⟩ := hy; exact Heap.lt_size e
  have ne : ∀ {x y : Addr}, x ≠ y → ∀ {u : Addr}, x ≠ u → x ∉ [y, u] := fun h1 _ h2 h => by
    simp only [List.mem_cons, List.not_mem_nil, or_false] at h
    exact h.elim h1 h2
  refine ⟨⟨_, hS, rfl⟩, PySem.F.args_list_init_2 _ _, init (A := A.in1) (fp1 := [i1, la]) (fp2 := [i2, lb]) ⟨dTIz, dTOz, dTITO, dTI1, by simp, ne dz1 (Ne.symm az), ne dT1 (Ne.symm aTO), dTI2, by simp, ne dz2 (Ne.symm bz), ne dT2 (Ne.symm bTO), ne d12 (Ne.symm b1), ne (Ne.symm d12) (Ne.symm a2)⟩
    (draws_tup (A := A.in1.in1.in1) hh i1 la a1 xs) (Draws.list (A := A.in1.in1.in1) hh i2 lb b2 ys) hn za ltT ltI lt1 lt2 (ne (Nat.ne_of_gt lt1) (Nat.ne_of_gt lta)) (ne (Nat.ne_of_gt lt2) (Nat.ne_of_gt ltb)) (up _ _ hz) (up _ _ hTI) (up _ _ hTO) ⟨h1.at fun o e => up _ o e, hx.push _⟩ ⟨h2.at fun o e => up _ o e, hy.push _⟩ hS fun h' tk acc c as hk hS' hl hG hacc => ?_⟩
  exact ⟨rfl, hQ h' tk acc c as (fun b o e1 e => hk b o (Nat.ne_of_lt (Heap.lt_size e)) e1 (up b o e)) hS' hl hG hacc⟩
end
end TmZ

/-! list(zip(a tuple, a list)): the rule. -/
namespace TmZ
open PySem PySem.Spec PyProof.Rows L2
def mid1 (h : Heap) (l1 : Addr) : Heap := h.push { cls := .type "tuple_iterator", data := .fields #[.ref l1, .int 0 0] }
def mid2 (h : Heap) (l1 l2 : Addr) : Heap := (mid1 h l1).push { cls := .type "list_iterator", data := .fields #[.ref l2, .int 0 0] }
def mid3 (h : Heap) (l1 l2 : Addr) : Heap := (mid2 h l1 l2).push { cls := .type "tuple", data := .seq #[.ref h.objs.size, .ref (mid1 h l1).objs.size] }
def mid4 (h : Heap) (l1 l2 : Addr) : Heap := (mid3 h l1 l2).push { cls := .type "tuple", data := .seq #[.none, .none] }
def mid5 (h : Heap) (l1 l2 : Addr) : Heap := (mid4 h l1 l2).push { cls := .type "zip", data := .fields #[.none, .bool false, .bool false, .ref (mid2 h l1 l2).objs.size, .ref (mid3 h l1 l2).objs.size] }
theorem meets_new (l1 l2 : Addr) (xs ys : Array Value) :
    Meets (Builtin.«zip.__new__» ⟨[.type "zip", .ref l1, .ref l2], []⟩) (fun _ R s => s.heap.IsTuple l1 xs ∧ s.heap.IsList l2 ys ∧
      R (.ok (.ret (.ref (mid4 s.heap l1 l2).objs.size))) { s with heap := mid5 s.heap l1 l2 }) :=
  .of_wp fun prog w A R s h => by
    obtain ⟨hp, g, d, tk, os⟩ := s; obtain ⟨hl1, hl2, h⟩ := h
    have hsub := sub_zip
    have hL1 : Heap.IsTuple (Shared.heap ⟨hp, g, d, tk, os⟩) l1 xs := hl1
    have hL2 : Heap.IsList (Shared.heap ⟨hp.push { cls := .type "tuple_iterator", data := .fields #[.ref l1, .int 0 0] }, g, d, tk, os⟩) l2 ys := Heap.IsList.push hl2 _
    wp_walk using wpAny_pyIter_tuple hL1, wpAny_pyIter_list hL2
    exact ⟨_, rfl, h⟩
section
variable {prog : Program} {w : World} {A : Around} {E : Value → Shared → Prop} {s : Shared}
theorem call_zip {l1 l2 : Addr} {xs ys : Array Value} {Q : Value → Shared → Prop} (hl1 : s.heap.IsTuple l1 xs) (hl2 : s.heap.IsList l2 ys)
    (h : ∀ h', IsZip h' (s.heap.objs.size + 4) (s.heap.objs.size + 2) (s.heap.objs.size + 3) .none → IsTupOf2 h' (s.heap.objs.size + 2) (.ref s.heap.objs.size) (.ref (s.heap.objs.size + 1)) →
      IsTupOf2 h' (s.heap.objs.size + 3) .none .none → h'.IsTupleIter s.heap.objs.size l1 0 → h'.IsListIter (s.heap.objs.size + 1) l2 0 → h'.objs.size = s.heap.objs.size + 5 →
      (∀ c o, s.heap.get? c = some o → h'.get? c = some o) → Q (.ref (s.heap.objs.size + 4)) { s with heap := h' }) :
    wpAny (model prog w) A (call (.type "zip") [.ref l1, .ref l2]) Q E s := by
  refine callType_new PySem.F.called_zip (by decide) (PySem.F.typeCall_zip_2 _ _) (PySem.F.newCall_zip_2 _ _) (fun obj => PySem.F.args_object_init_3 obj _ _) PySem.F.entry_zip_new
    (meets_new l1 l2 xs ys) ⟨hl1, hl2, ?_⟩
  have z1 : (mid1 s.heap l1).objs.size = s.heap.objs.size + 1 := Heap.size_push ..
  have z2 : (mid2 s.heap l1 l2).objs.size = s.heap.objs.size + 2 := by unfold mid2; rw [Heap.size_push, z1]
  have z3 : (mid3 s.heap l1 l2).objs.size = s.heap.objs.size + 3 := by unfold mid3; rw [Heap.size_push, z2]
  have z4 : (mid4 s.heap l1 l2).objs.size = s.heap.objs.size + 4 := by unfold mid4; rw [Heap.size_push, z3]
  have z5 : (mid5 s.heap l1 l2).objs.size = s.heap.objs.size + 5 := by unfold mid5; rw [Heap.size_push, z4]
  have u1 : ∀ c o, s.heap.get? c = some o → (mid1 s.heap l1).get? c = some o := fun c o x => Heap.get?_push_of_some _ x
  have u2 : ∀ c o, (mid1 s.heap l1).get? c = some o → (mid2 s.heap l1 l2).get? c = some o := fun c o x => Heap.get?_push_of_some _ x
  have u3 : ∀ c o, (mid2 s.heap l1 l2).get? c = some o → (mid3 s.heap l1 l2).get? c = some o := fun c o x => Heap.get?_push_of_some _ x
  have u4 : ∀ c o, (mid3 s.heap l1 l2).get? c = some o → (mid4 s.heap l1 l2).get? c = some o := fun c o x => Heap.get?_push_of_some _ x
  have u5 : ∀ c o, (mid4 s.heap l1 l2).get? c = some o → (mid5 s.heap l1 l2).get? c = some o := fun c o x => Heap.get?_push_of_some _ x
  have g5 : (mid5 s.heap l1 l2).get? (mid4 s.heap l1 l2).objs.size = some { cls := .type "zip", data := .fields #[.none, .bool false, .bool false, .ref (mid2 s.heap l1 l2).objs.size, .ref (mid3 s.heap l1 l2).objs.size] } := Heap.get?_push_size _ rfl
  have g4 : (mid4 s.heap l1 l2).get? (mid3 s.heap l1 l2).objs.size = some { cls := .type "tuple", data := .seq #[.none, .none] } := Heap.get?_push_size _ rfl
  have g3 : (mid3 s.heap l1 l2).get? (mid2 s.heap l1 l2).objs.size = some { cls := .type "tuple", data := .seq #[.ref s.heap.objs.size, .ref (mid1 s.heap l1).objs.size] } := Heap.get?_push_size _ rfl
  have g2 : (mid2 s.heap l1 l2).get? (mid1 s.heap l1).objs.size = some { cls := .type "list_iterator", data := .fields #[.ref l2, .int 0 0] } := Heap.get?_push_size _ rfl
  have g1 : (mid1 s.heap l1).get? s.heap.objs.size = some { cls := .type "tuple_iterator", data := .fields #[.ref l1, .int 0 0] } := Heap.get?_push_size _ rfl
  show _ ∧ _
  rw [z2, z3, z4] at g5
  rw [z1, z2] at g3
  rw [z3] at g4
  rw [z1] at g2
  rw [z4]
  exact ⟨⟨_, g5, rfl⟩, h _ g5 (u5 _ _ (u4 _ _ g3)) (u5 _ _ g4) ⟨_, u5 _ _ (u4 _ _ (u3 _ _ (u2 _ _ g1))), rfl, rfl⟩ ⟨_, u5 _ _ (u4 _ _ (u3 _ _ g2)), rfl, rfl⟩ z5 fun c o x => u5 _ _ (u4 _ _ (u3 _ _ (u2 _ _ (u1 _ _ x))))⟩
end
/-- the tuples at their addresses -/
def putP : Hp → List Addr → List (V × V) → Hp
  | H, a :: as, p :: ps => putP (upd H a (.tup [p.1, p.2])) as ps
  | H, _, _ => H
theorem putP_off {b : Addr} : ∀ (as : List Addr) (ps : List (V × V)) (H : Hp), b ∉ as → putP H as ps b = H b
  | [], _, _, _ => rfl
  | _ :: _, [], _, _ => rfl
  | a :: as, p :: ps, H, h => by
    show putP (upd H a (.tup [p.1, p.2])) as ps b = H b
    rw [putP_off as ps _ (fun z => h (List.mem_cons_of_mem _ z)), upd_ne (fun z => h (by rw [z]; exact List.mem_cons_self))]
theorem putP_at : ∀ (as : List Addr) (ps : List (V × V)) (H : Hp), as.length = ps.length → as.Nodup → Paired (fun (t : Addr) (p : V × V) => putP H as ps t = some (.tup [p.1, p.2])) as ps
  | [], [], _, _, _ => .nil
  | [], _ :: _, _, h, _ => by cases h
  | _ :: _, [], _, h, _ => by cases h
  | a :: as, p :: ps, H, h, hn => by
    have hn' := List.nodup_cons.mp hn
    refine .cons ?_ (putP_at as ps (upd H a (.tup [p.1, p.2])) (Nat.succ.inj h) hn'.2)
    show putP (upd H a (.tup [p.1, p.2])) as ps a = some (.tup [p.1, p.2])
    rw [putP_off as ps _ hn'.1, upd_same]
section
variable {X : Cx}
theorem pairs_laid {pins : List (Addr × Obj)} {σ : L2.St} {H : Hp} {s : Shared} {h' : Heap} {L : Addr} {tk c : Nat} {ps : List (V × V)} {acc : Array Value} {as : List Addr} {P1 P2 : Nat → Value → Prop} (I : Inv X pins σ H s) (hL : s.heap.objs.size ≤ L) (hz : ps.length ≤ sizeLine)
    (hk : ∀ b o, s.heap.get? b = some o → h'.get? b = some o) (hS : h'.get? L = some { cls := .type "list", dict := none, data := .seq acc c, slots := #[] }) (hl : as.length = ps.length) (hG : PG P1 P2 L h' as) (hacc : acc.toList = as.map Value.ref)
    (hr : ∀ j p x1 x2, ps[j]? = some p → P1 j x1 → P2 j x2 → RelV p.1 x1 ∧ RelV p.2 x2) :
    ∃ H' : Hp, (∀ b o, H b = some o → H' b = some o) ∧ H L = none ∧ (∀ t ∈ as, H t = none) ∧ H' L = some (.lst (as.map V.ref)) ∧ Paired (fun (t : Addr) (q : V × V) => H' t = some (.tup [q.1, q.2])) as ps ∧ Inv X pins σ H' { s with heap := h', toks := tk } := by
  have hSn : L ∉ as := fun z => Nat.lt_irrefl _ (hG.above _ z)
  have nd : as.Nodup := List.Pairwise.imp (fun {a b} (h : a < b) => Nat.ne_of_lt h) hG.rise
  have hi : ∀ t ∈ as, s.heap.objs.size ≤ t := fun t ht => Nat.le_trans hL (Nat.le_of_lt (hG.above t ht))
  have new : ∀ t ∈ as, H t = none := fun t ht => I.hok.fresh (hi t ht)
  have newS : H L = none := I.hok.fresh hL
  have atP := putP_at as ps (upd H L (.lst (as.map V.ref))) hl nd
  have off : ∀ b, b ∉ as → b ≠ L → putP (upd H L (.lst (as.map V.ref))) as ps b = H b := fun b h1 h2 => by rw [putP_off as ps _ h1, upd_ne h2]
  have low : ∀ b o, s.heap.get? b = some o → b ∉ as ∧ b ≠ L := fun b o e => ⟨fun z => absurd (Heap.lt_size e) (Nat.not_lt.mpr (hi b z)), Nat.ne_of_lt (Nat.lt_of_lt_of_le (Heap.lt_size e) hL)⟩
  have kp : ∀ b u, H b = some u → (putP (upd H L (.lst (as.map V.ref))) as ps) b = some u := fun b u e => by
    rw [off b (fun z => by rw [new b z] at e; cases e) (fun z => by rw [z, newS] at e; cases e)]
    exact e
  have eS : putP (upd H L (.lst (as.map V.ref))) as ps L = some (.lst (as.map V.ref)) := by rw [putP_off as ps _ hSn, upd_same]
  refine ⟨putP (upd H L (.lst (as.map V.ref))) as ps, kp, newS, new, eS, atP, ?_⟩
  refine I.call' (ch := []) rfl ⟨fun b o q _ _ _ => hk b o q, fun b o q _ _ _ => ⟨o.slots, hk b o q⟩, fun b o q n _ => ?_, fun b o q _ => ⟨o, hk b o q⟩, fun b xs q => kp b _ q, fun b o u q => kp b _ q, fun b ps q => ⟨#[], by rw [kp b _ q]; simp⟩⟩ (fun b u q => ?_) I.bare fun b z => by simp at z
  · obtain ⟨z1, z2⟩ := low b o q
    rw [off b z1 z2]
    exact n
  · by_cases hb : b ∈ as
    · obtain ⟨j, pk, e1, e2, e3⟩ := LiI.paired_ix atP hb
      rw [e3] at q
      cases q
      obtain ⟨x1, x2, f1, f2, f3⟩ := hG.at_ j b e1
      obtain ⟨r1, r2⟩ := hr j pk x1 x2 e2 f1 f2
      exact ⟨by show 2 ≤ sizeLine; decide, [x1, x2], .cons r1 (.cons r2 .nil), ⟨_, f3, rfl, _, rfl⟩⟩
    · by_cases hb2 : b = L
      · rw [hb2] at q ⊢
        rw [eS] at q
        cases q
        refine ⟨by rw [List.length_map]; omega, acc.toList, c, by rw [hacc]; exact LiI.vals_refs as, ?_⟩
        rw [Array.toArray_toList]
        exact hS
      · rw [off b hb hb2] at q
        exact (I.hok b u q).stay (fun d v _ y => hk d v y) (fun d y => kp d _ y) fun d xs y => kp d _ y
/-- list(zip(a tuple, a list)) -/
def tListZip (K : PySem.W.Frag) (ta : TA) : TE := fun σ H Q => ta σ H fun vs H1 => ∃ a b xs ys, vs = [.ref a, .ref b] ∧ SqT K H1 a xs ∧ SqL K H1 b ys ∧
  ∀ (H' : Hp) (p : Addr) (ts : List Addr), (∀ b o, H1 b = some o → H' b = some o) → H1 p = none → (∀ t ∈ ts, H1 t = none) → H' p = some (.lst (ts.map V.ref)) → Paired (fun (t : Addr) (q : V × V) => H' t = some (.tup [q.1, q.2])) ts (xs.zip ys) → Q (.ref p) H'
theorem pe_listZip {K : PySem.W.Frag} {e e2 : Expr} {ta : TA} {p p2 q2 pos : Pos} (hg : Gl X "list") (hm : X.mg "list" = none) (hg2 : Gl X "zip") (hm2 : X.mg "zip" = none) (ha : PA X [e, e2] ta) (hK : X.K = K := by rfl) (hc : X.calm = true := by rfl)
    (na : starEach [.Call (.Name "zip" p2) [e, e2] [] q2] X.env = (false, eval (.Call (.Name "zip" p2) [e, e2] [] q2) X.env) :: starEach [] X.env := by rfl)
    (hs : starEach [e, e2] X.env = (false, eval e X.env) :: starEach [e2] X.env := by rfl) (hpl : (backTo q2 (starEach [e2] X.env)).any (·.1) = false := by rfl) :
    PE X (.Call (.Name "list" p) [.Call (.Name "zip" p2) [e, e2] [] q2] [] pos) (tListZip K ta) := by
  subst hK
  refine ⟨fun pins s σ H Q I h => ?_⟩
  refine Call_ (ld_blt I hg hm boot_list (PyProof.Rows.callWith_type1 (PyProof.Rows.args_cons ?_ na) na rfl))
  refine Call_ (ld_blt I hg2 hm2 PyProof.Rows.boot_zip (PyProof.Rows.callWith_type1 (thn (ha.run q2 pins s σ H _ I h) fun us s1 ⟨vs, H1, I1, r1, q1⟩ => ?_) hs hpl))
  obtain ⟨a, b, xs, ys, ex, hx, hy, q⟩ := q1
  subst ex
  cases r1 with
  | cons r rr =>
    cases rr with
    | cons r' rr =>
      cases rr
      cases r
      cases r'
      obtain ⟨its, rv, pt, zt⟩ := I1.tuple hx
      obtain ⟨its2, rv2, pl, zl⟩ := I1.list hy
      have l1 := rv.length
      have l2 := rv2.length
      have hx' : s1.heap.IsTuple a its.toArray := pt
      have la : a < s1.heap.objs.size := by obtain ⟨_, e, _⟩ := hx'; exact Heap.lt_size e
      have hy' : s1.heap.IsList b its2.toArray := pl.isList
      have lb : b < s1.heap.objs.size := by obtain ⟨_, e, _⟩ := hy'; exact Heap.lt_size e
      refine call_zip hx' hy' fun h' hz hTI hTO hi1 hi2 hsz hk => ?_
      refine PyProof.Rows.args_nil ?_
      have ni : ∀ {x : Addr}, x < s1.heap.objs.size → x ∉ [s1.heap.objs.size + 4, s1.heap.objs.size + 2, s1.heap.objs.size + 3, s1.heap.objs.size, s1.heap.objs.size + 1] := fun {x} hx hc => by
        simp only [List.mem_cons, List.not_mem_nil, or_false] at hc
        rcases hc with z | z | z | z | z <;> exact absurd hx (by rw [z]; exact Nat.not_lt.mpr (by omega))
      have hxk : Heap.IsTuple h' a its.toArray := by obtain ⟨o, ho, r⟩ := hx'; exact ⟨o, hk _ _ ho, r⟩
      have hyk : Heap.IsList h' b its2.toArray := by obtain ⟨o, ho, r⟩ := hy'; exact ⟨o, hk _ _ ho, r⟩
      have lz : (xs.zip ys).length = min its.toArray.size its2.toArray.size := by
        rw [List.length_zip, List.size_toArray, List.size_toArray, l1, l2]
      have few : min its.toArray.size its2.toArray.size ≤ sizeLine := by
        rw [List.size_toArray, List.size_toArray]
        have : its2.length ≤ sizeLine := by
          rw [← l2]
          simpa using zl
        omega
      refine call_list (s := { s1 with heap := h' }) (z := s1.heap.objs.size + 4) (TI := s1.heap.objs.size + 2) (TO := s1.heap.objs.size + 3) (i1 := s1.heap.objs.size) (i2 := s1.heap.objs.size + 1) (I1.ok.hd hc) (by show _ < h'.objs.size; omega) (Nat.ne_of_lt (by omega)) (Nat.ne_of_lt (by omega)) (Nat.ne_of_lt (by omega)) (Nat.ne_of_gt (by omega)) (Nat.ne_of_gt (by omega)) (Nat.ne_of_lt (by omega)) (Nat.ne_of_gt (by omega)) (Nat.ne_of_gt (by omega)) (Nat.ne_of_gt (by omega)) (Nat.ne_of_gt (by omega)) (ni la) (ni lb) few hz hTI hTO hi1 hi2 hxk hyk fun h'' tk acc c as hk2 hS hl hG hacc => ?_
      have szL : s1.heap.objs.size ≤ ({ s1 with heap := h' } : Shared).heap.objs.size := by show _ ≤ h'.objs.size; omega
      obtain ⟨H', k1, k2, k3, k4, k5, J⟩ := pairs_laid (tk := tk) I1 szL (by rw [lz]; exact few) (fun b o e => hk2 b o (fun hc => by
        have lb := Heap.lt_size e
        simp only [List.mem_cons, List.not_mem_nil, or_false] at hc
        rcases hc with z | z | z | z <;> exact absurd lb (by rw [z]; exact Nat.not_lt.mpr (by omega))) (hk b o e)) hS (by rw [hl, lz]) hG hacc (fun j p x1 x2 hj p1 p2 => by
        rw [List.getElem?_zip_eq_some] at hj
        obtain ⟨u1, hu1, ru1⟩ := rv.get hj.1
        obtain ⟨u2, hu2, ru2⟩ := rv2.get hj.2
        rw [List.getElem?_toArray, hu1] at p1
        rw [List.getElem?_toArray, hu2] at p2
        cases p1
        cases p2
        exact ⟨ru1, ru2⟩)
      exact ⟨.ref _, H', J, rfl, q H' _ as k1 k2 k3 k4 k5⟩
end
end TmZ

/-! list(zip(a list, a list)). -/
namespace TmZ
open PySem PySem.Spec PyProof.Rows L2
section
variable {prog : Program} {w : World} {A : Around} {E : Value → Shared → Prop} {s : Shared}
/-- list(a new zip over two lists) -/
theorem call_listL {Q : Value → Shared → Prop} {z TI TO i1 i2 la lb : Addr} {xs ys : Array Value} {a b : Value} (hh : A.handled = none) (za : z < s.heap.objs.size) (dTIz : TI ≠ z) (dTOz : TO ≠ z) (dTITO : TI ≠ TO) (dTI1 : TI ≠ i1) (dTI2 : TI ≠ i2) (d12 : i1 ≠ i2) (dz1 : z ≠ i1) (dz2 : z ≠ i2) (dT1 : TO ≠ i1) (dT2 : TO ≠ i2)
    (ha : la ∉ [z, TI, TO, i1, i2]) (hb : lb ∉ [z, TI, TO, i1, i2]) (hn : min xs.size ys.size ≤ sizeLine)
    (hz : IsZip s.heap z TI TO .none) (hTI : IsTupOf2 s.heap TI (.ref i1) (.ref i2)) (hTO : IsTupOf2 s.heap TO a b) (h1 : s.heap.IsListIter i1 la 0) (h2 : s.heap.IsListIter i2 lb 0) (hx : s.heap.IsList la xs) (hy : s.heap.IsList lb ys)
    (hQ : ∀ h' tk acc c as, (∀ b o, b ∉ [z, TO, i1, i2] → s.heap.get? b = some o → h'.get? b = some o) → h'.get? s.heap.objs.size = some { cls := .type "list", dict := none, data := .seq acc c, slots := #[] } → as.length = min xs.size ys.size → PG (fun i v => xs[i]? = some v) (fun i v => ys[i]? = some v) s.heap.objs.size h' as →
      acc.toList = as.map Value.ref → Q (.ref s.heap.objs.size) { s with heap := h', toks := tk }) :
    wpAny (model prog w) A (call (.type "list") [.ref z]) Q E s := by
  refine callType_codes (Q₁ := fun obj s₁ => obj = .ref s.heap.objs.size ∧ s₁ = { s with heap := s.heap.push { cls := .type "list", data := .seq #[] } }) PySem.F.called_list (PySem.F.typeCall_list_1 _) PySem.F.entry_list_init
    (code_list_new _ ⟨rfl, rfl⟩) fun obj s₁ h₁ => ?_
  obtain ⟨rfl, rfl⟩ := h₁
  have hS : (s.heap.push { cls := .type "list", data := .seq #[] }).get? s.heap.objs.size = some { cls := .type "list", data := .seq #[] } := Heap.get?_push_size _ rfl
  have up : ∀ b o, s.heap.get? b = some o → (s.heap.push { cls := .type "list", data := .seq #[] }).get? b = some o := fun b o e => Heap.get?_push_of_some _ e
  simp only [List.mem_cons, List.not_mem_nil, or_false, not_or] at ha hb
  obtain ⟨az, aTI, aTO, a1, a2⟩ := ha
  obtain ⟨bz, bTI, bTO, b1, b2⟩ := hb
  have ltT : TO < s.heap.objs.size := Heap.lt_size hTO
  have ltI : TI < s.heap.objs.size := Heap.lt_size hTI
  have lt1 : i1 < s.heap.objs.size := by obtain ⟨_, e, _⟩ := h1; exact Heap.lt_size e
  have lt2 : i2 < s.heap.objs.size := by obtain ⟨_, e, _⟩ := h2; exact Heap.lt_size e
  have lta : la < s.heap.objs.size := by obtain ⟨_, e, _⟩ := hx; exact Heap.lt_size e
  have ltb : lb < s.heap.objs.size := by obtain ⟨_, e, _⟩ := hy; exact Heap.lt_size e
  have ne : ∀ {x y : Addr}, x ≠ y → ∀ {u : Addr}, x ≠ u → x ∉ [y, u] := fun h1 _ h2 h => by
    simp only [List.mem_cons, List.not_mem_nil, or_false] at h
    exact h.elim h1 h2
  refine ⟨⟨_, hS, rfl⟩, PySem.F.args_list_init_2 _ _, init (A := A.in1) (fp1 := [i1, la]) (fp2 := [i2, lb]) ⟨dTIz, dTOz, dTITO, dTI1, by simp, ne dz1 (Ne.symm az), ne dT1 (Ne.symm aTO), dTI2, by simp, ne dz2 (Ne.symm bz), ne dT2 (Ne.symm bTO), ne d12 (Ne.symm b1), ne (Ne.symm d12) (Ne.symm a2)⟩
    (Draws.list (A := A.in1.in1.in1) hh i1 la a1 xs) (Draws.list (A := A.in1.in1.in1) hh i2 lb b2 ys) hn za ltT ltI lt1 lt2 (ne (Nat.ne_of_gt lt1) (Nat.ne_of_gt lta)) (ne (Nat.ne_of_gt lt2) (Nat.ne_of_gt ltb)) (up _ _ hz) (up _ _ hTI) (up _ _ hTO) ⟨h1.at fun o e => up _ o e, hx.push _⟩ ⟨h2.at fun o e => up _ o e, hy.push _⟩ hS fun h' tk acc c as hk hS' hl hG hacc => ?_⟩
  exact ⟨rfl, hQ h' tk acc c as (fun b o e1 e => hk b o (Nat.ne_of_lt (Heap.lt_size e)) e1 (up b o e)) hS' hl hG hacc⟩
end
section
variable {X : Cx}
/-- list(zip(a list, a list)) -/
def tListZipL (K : PySem.W.Frag) (ta : TA) : TE := fun σ H Q => ta σ H fun vs H1 => ∃ a b xs ys, vs = [.ref a, .ref b] ∧ SqL K H1 a xs ∧ SqL K H1 b ys ∧
  ∀ (H' : Hp) (p : Addr) (ts : List Addr), (∀ b o, H1 b = some o → H' b = some o) → H1 p = none → (∀ t ∈ ts, H1 t = none) → H' p = some (.lst (ts.map V.ref)) → Paired (fun (t : Addr) (q : V × V) => H' t = some (.tup [q.1, q.2])) ts (xs.zip ys) → Q (.ref p) H'
theorem pe_listZipL {K : PySem.W.Frag} {e e2 : Expr} {ta : TA} {p p2 q2 pos : Pos} (hg : Gl X "list") (hm : X.mg "list" = none) (hg2 : Gl X "zip") (hm2 : X.mg "zip" = none) (ha : PA X [e, e2] ta) (hK : X.K = K := by rfl) (hc : X.calm = true := by rfl)
    (na : starEach [.Call (.Name "zip" p2) [e, e2] [] q2] X.env = (false, eval (.Call (.Name "zip" p2) [e, e2] [] q2) X.env) :: starEach [] X.env := by rfl)
    (hs : starEach [e, e2] X.env = (false, eval e X.env) :: starEach [e2] X.env := by rfl) (hpl : (backTo q2 (starEach [e2] X.env)).any (·.1) = false := by rfl) :
    PE X (.Call (.Name "list" p) [.Call (.Name "zip" p2) [e, e2] [] q2] [] pos) (tListZipL K ta) := by
  subst hK
  refine ⟨fun pins s σ H Q I h => ?_⟩
  refine Call_ (ld_blt I hg hm boot_list (PyProof.Rows.callWith_type1 (PyProof.Rows.args_cons ?_ na) na rfl))
  refine Call_ (ld_blt I hg2 hm2 PyProof.Rows.boot_zip (PyProof.Rows.callWith_type1 (thn (ha.run q2 pins s σ H _ I h) fun us s1 ⟨vs, H1, I1, r1, q1⟩ => ?_) hs hpl))
  obtain ⟨a, b, xs, ys, ex, hx, hy, q⟩ := q1
  subst ex
  cases r1 with
  | cons r rr =>
    cases rr with
    | cons r' rr =>
      cases rr
      cases r
      cases r'
      obtain ⟨its, rv, pt, zt⟩ := I1.list hx
      obtain ⟨its2, rv2, pl, zl⟩ := I1.list hy
      have l1 := rv.length
      have l2 := rv2.length
      have hx' : s1.heap.IsList a its.toArray := pt.isList
      have la : a < s1.heap.objs.size := by obtain ⟨_, e, _⟩ := hx'; exact Heap.lt_size e
      have hy' : s1.heap.IsList b its2.toArray := pl.isList
      have lb : b < s1.heap.objs.size := by obtain ⟨_, e, _⟩ := hy'; exact Heap.lt_size e
      refine call_zip_2 hx' hy' fun h' hz hTI hTO hi1 hi2 hsz hk => ?_
      refine PyProof.Rows.args_nil ?_
      have ni : ∀ {x : Addr}, x < s1.heap.objs.size → x ∉ [s1.heap.objs.size + 4, s1.heap.objs.size + 2, s1.heap.objs.size + 3, s1.heap.objs.size, s1.heap.objs.size + 1] := fun {x} hx hc => by
        simp only [List.mem_cons, List.not_mem_nil, or_false] at hc
        rcases hc with z | z | z | z | z <;> exact absurd hx (by rw [z]; exact Nat.not_lt.mpr (by omega))
      have hxk : Heap.IsList h' a its.toArray := by obtain ⟨o, ho, r⟩ := hx'; exact ⟨o, hk _ _ ho, r⟩
      have hyk : Heap.IsList h' b its2.toArray := by obtain ⟨o, ho, r⟩ := hy'; exact ⟨o, hk _ _ ho, r⟩
      have lz : (xs.zip ys).length = min its.toArray.size its2.toArray.size := by
        rw [List.length_zip, List.size_toArray, List.size_toArray, l1, l2]
      have few : min its.toArray.size its2.toArray.size ≤ sizeLine := by
        rw [List.size_toArray, List.size_toArray]
        have : its2.length ≤ sizeLine := by
          rw [← l2]
          simpa using zl
        omega
      refine call_listL (s := { s1 with heap := h' }) (z := s1.heap.objs.size + 4) (TI := s1.heap.objs.size + 2) (TO := s1.heap.objs.size + 3) (i1 := s1.heap.objs.size) (i2 := s1.heap.objs.size + 1) (I1.ok.hd hc) (by show _ < h'.objs.size; omega) (Nat.ne_of_lt (by omega)) (Nat.ne_of_lt (by omega)) (Nat.ne_of_lt (by omega)) (Nat.ne_of_gt (by omega)) (Nat.ne_of_gt (by omega)) (Nat.ne_of_lt (by omega)) (Nat.ne_of_gt (by omega)) (Nat.ne_of_gt (by omega)) (Nat.ne_of_gt (by omega)) (Nat.ne_of_gt (by omega)) (ni la) (ni lb) few hz hTI hTO hi1 hi2 hxk hyk fun h'' tk acc c as hk2 hS hl hG hacc => ?_
      have szL : s1.heap.objs.size ≤ ({ s1 with heap := h' } : Shared).heap.objs.size := by show _ ≤ h'.objs.size; omega
      obtain ⟨H', k1, k2, k3, k4, k5, J⟩ := pairs_laid (tk := tk) I1 szL (by rw [lz]; exact few) (fun b o e => hk2 b o (fun hc => by
        have lb := Heap.lt_size e
        simp only [List.mem_cons, List.not_mem_nil, or_false] at hc
        rcases hc with z | z | z | z <;> exact absurd lb (by rw [z]; exact Nat.not_lt.mpr (by omega))) (hk b o e)) hS (by rw [hl, lz]) hG hacc (fun j p x1 x2 hj p1 p2 => by
        rw [List.getElem?_zip_eq_some] at hj
        obtain ⟨u1, hu1, ru1⟩ := rv.get hj.1
        obtain ⟨u2, hu2, ru2⟩ := rv2.get hj.2
        rw [List.getElem?_toArray, hu1] at p1
        rw [List.getElem?_toArray, hu2] at p2
        cases p1
        cases p2
        exact ⟨ru1, ru2⟩)
      exact ⟨.ref _, H', J, rfl, q H' _ as k1 k2 k3 k4 k5⟩
end
end TmZ

/-! {**d, k: v}: a dict's entries put into a new one, by mergeMapping. -/
namespace TmD
open PySem PySem.Spec
section
variable {prog : Program} {w : World} {K : Type} [DecidableEq K] {knd : KeyKind prog w K} {A : Around} {E : Value → Shared → Prop} {s : Shared}
theorem put_pairs {d : Addr} {kvs : List (K × Value)} {k : K} {key v : Value} {Q : Unit → Shared → Prop} (hkey : knd.is k key = true) (hm : s.heap.DictOf knd d kvs)
    (hQ : ∀ h', h'.DictOf knd d (stored kvs k v) → Heap.SameBut d s.heap h' → Q () { s with heap := h' }) (hsz : kvs.length ≤ sizeLine) :
    wpAny (model prog w) A (dictPut d (knd.hash k) key v) Q E s := by
  obtain ⟨o, es, ep, ho, hc, hd, hk, hp, hn⟩ := hm
  have hes : es.size ≤ sizeLine := by
    have e1 := hp.length
    have e2 : es.toList.length = es.size := by simp
    omega
  unfold dictPut
  refine wpAny_bind (wpAny_dictFind_of hkey ho hd hk ?_)
  have hidx : (es.findIdx? fun e => knd.is k e.key) = kvs.findIdx? fun kv => decide (kv.1 = k) := by
    rw [← hp.findIdx k]; obtain ⟨l⟩ := es; simp
  cases hi : es.findIdx? fun e => knd.is k e.key with
  | some i =>
    refine wpAny_updateDict ho hd (hQ _ ⟨_, _, ep, Heap.get?_update_self _ ho (Obj.isFreed_of_dict (Obj.data_mapDict hd _)),
      hc.mapDict _, Obj.data_mapDict hd _, hk.modify _ _, ?_, ?_⟩ (Heap.SameBut.update ..))
    · rw [stored, if_pos (any_of_findIdx_some (hidx ▸ hi))]
      have hl : (es.toList.findIdx? fun e => knd.is k e.key) = some i := by rw [← hi]; obtain ⟨l⟩ := es; simp
      have := hp.modify hn hl v
      obtain ⟨l⟩ := es
      simpa using this
    · rw [stored, if_pos (any_of_findIdx_some (hidx ▸ hi)), keys_map_store]; exact hn
  | none =>
    have hnot : k ∉ kvs.map (·.1) := not_mem_of_findIdx_none (hidx ▸ hi)
    have hany : ¬ (kvs.any fun kv => decide (kv.1 = k)) = true := by
      rw [List.any_eq_true]; rintro ⟨kv, hkv, he⟩
      exact hnot (List.mem_map.mpr ⟨kv, hkv, of_decide_eq_true he⟩)
    refine wpAny_updateDictKeys (hz := hes) ho hd (hQ _ ⟨_, _, ep + 1, Heap.get?_update_self _ ho (Obj.isFreed_of_dict (Obj.data_mapDictKeys hd _)),
      hc.mapDictKeys _, Obj.data_mapDictKeys hd _, hk.push hkey _, ?_, ?_⟩ (Heap.SameBut.update ..))
    · rw [stored, if_neg hany]
      have := hp.append hkey (knd.hash k) v
      obtain ⟨l⟩ := es
      simpa using this
    · rw [stored, if_neg hany, List.map_append, List.nodup_append]
      refine ⟨hn, by simp, ?_⟩
      intro a ha b hb
      simp only [List.map_cons, List.map_nil, List.mem_singleton] at hb
      subst hb
      exact fun e => hnot (e ▸ ha)
theorem merge_map {d o : Addr} {kvs more : List (K × Value)} {Q : Unit → Shared → Prop} (hdo : d ≠ o) (hoS : (o == sysModules) = false)
    (hd : s.heap.DictOf knd d kvs) (ho : s.heap.DictOf knd o more)
    (hQ : ∀ h', h'.DictOf knd d (merged kvs more) → h'.DictOf knd o more → Heap.SameBut d s.heap h' → Q () { s with heap := h' })
    (hsz : kvs.length + more.length ≤ sizeLine) :
    wpAny (model prog w) A (mergeMapping d (.ref o) false) Q E s := by
  obtain ⟨od, esd, epd, hod, hcd, hdd, hkd, hpd, hnd⟩ := id hd
  obtain ⟨oo, eso, epo, hoo, hco, hdo', hko, hpo, hno⟩ := id ho
  have hlen : more.length = eso.size := by rw [← hpo.length]; simp
  unfold mergeMapping
  refine wpAny_bind (wpAny_isInstance ho.typeIs isSubtype_dict_dict ?_)
  simp only [if_true]
  refine wpAny_bind (wpAny_specialOf ho.typeIs F.slot_dict_iter.lookup ?_)
  simp only [beq_self_eq_true]
  have loop : wpAny (model prog w) A (do
      let l ← dictEntries o
      let epoch ← dictEpoch o
      forIn (List.range l.size) PUnit.unit fun i (_ : PUnit) => (do
          let l' ← dictEntries o
          match l'[i]? with
            | some e => do
              holding [e.key, e.val]
                (if false = true then do
                  let f ← dictFind d e.key e.hash
                  if f.isSome = true then do
                      rule "dict.merge.duplicate-key"
                      let x ← newExc (Value.type "KeyError") [e.key]
                      raiseNew x
                      dictPut d e.hash e.key e.val
                    else dictPut d e.hash e.key e.val
                else dictPut d e.hash e.key e.val)
              let ep' ← dictEpoch o
              if (ep' != epoch) = true then do
                  (unsupported "dict.changed-during-merge" : Sem PUnit)
                  pure (ForInStep.yield PUnit.unit)
                else pure (ForInStep.yield PUnit.unit)
            | _ => do
              (unsupported "dict.changed-during-merge" : Sem PUnit)
              pure (ForInStep.yield PUnit.unit) : Sem (ForInStep PUnit))
      pure ()) Q E s := by
    refine wpAny_bind (wpAny_dictEntries hoo hdo' ?_)
    refine wpAny_bind (wpAny_dictEpoch hoo hdo' ?_)
    refine wpAny_bind ?_
    refine wpAny_forIn_list _
      (fun rest _ s' => ∃ h' i, s' = { s with heap := h' } ∧ rest = (List.range eso.size).drop i ∧ i ≤ eso.size ∧ h'.DictOf knd d (merged kvs (more.take i)) ∧ h'.get? o = some oo ∧ Heap.SameBut d s.heap h')
      _ ?_ ?_ _ _ ⟨s.heap, 0, rfl, rfl, Nat.zero_le _, by simpa [merged] using hd, hoo, Heap.SameBut.refl _ _⟩
    · rintro x rest b s' ⟨h', i, rfl, hr, hi, hd', hoo', hs'⟩
      have hlt : i < eso.size := by
        rcases Nat.lt_or_ge i eso.size with h | h
        · exact h
        · rw [List.drop_eq_nil_of_le (by rw [List.length_range]; exact h)] at hr
          cases hr
      rw [List.drop_eq_getElem_cons (by rw [List.length_range]; exact hlt)] at hr
      obtain ⟨hx, hrest⟩ := List.cons.inj hr
      rw [List.getElem_range] at hx
      subst hx
      refine wpAny_bind (wpAny_dictEntries hoo' hdo' ?_)
      rw [Array.getElem?_eq_getElem hlt]
      obtain ⟨kv, hkv⟩ : ∃ kv, more[x]? = some kv := ⟨more[x]'(by rw [hlen]; exact hlt), List.getElem?_eq_getElem _⟩
      obtain ⟨k, v⟩ := kv
      obtain ⟨hkey, hval⟩ := hpo.get? (e := eso[x]) (by simp [hlt]) hkv
      obtain ⟨k', hkey', hhash⟩ := hko eso[x] (Array.getElem_mem hlt)
      obtain rfl : k' = k := knd.inj _ _ _ hkey' hkey
      show wpAny _ _ (holding [eso[x].key, eso[x].val] (if false = true then _ else dictPut d eso[x].hash eso[x].key eso[x].val) >>= _) _ _ _
      rw [if_neg Bool.false_ne_true, hhash, hval]
      have hmx : (merged kvs (more.take x)).length ≤ sizeLine := by
        have e1 := merged_length_le kvs (more.take x)
        have e2 : (more.take x).length ≤ more.length := by rw [List.length_take]; omega
        omega
      refine wpAny_bind (wpAny_holding (put_pairs hkey hd' (fun h'' hd'' hs'' => ?_) hmx))
      have hoo'' : h''.get? o = some oo := (hs''.2 o (Ne.symm hdo)).trans hoo'
      refine wpAny_bind (wpAny_dictEpoch hoo'' hdo' ?_)
      rw [if_neg (by simp)]
      exact wpAny_pure ⟨h'', x + 1, rfl, hrest, hlt, by rw [merged_take_succ kvs more x (k', v) hkv]; exact hd'', hoo'', hs'.trans hs''⟩
    · rintro b s' ⟨h', i, rfl, hr, hi, hd', hoo', hs'⟩
      have hin : i = eso.size := by
        rcases Nat.lt_or_ge i eso.size with h | h
        · rw [List.drop_eq_getElem_cons (by rw [List.length_range]; exact h)] at hr
          cases hr
        · exact Nat.le_antisymm hi h
      refine wpAny_pure (hQ h' ?_ ⟨oo, eso, epo, hoo', hco, hdo', hko, hpo, hno⟩ hs')
      rw [hin, ← hlen, List.take_length] at hd'
      exact hd'
  refine wpAny_bind (wpAny_pure ?_)
  dsimp only
  rw [if_neg (by rw [hoS]; exact Bool.false_ne_true)]
  refine wpAny_bind (wpAny_dictEntries hod hdd ?_)
  split
  · refine wpAny_bind (wpAny_dictEntries hoo hdo' ?_)
    have hloop : (forIn eso PUnit.unit fun e (_ : PUnit) => (match e.key with
        | Value.ref _ => do
          let q ← specialOf e.key (Str.ofString "__eq__")
          if (q != some (Value.builtin "object.__eq__")) = true then
              if (Array.filter (fun x => x.hash == e.hash) eso).size > 1 then do
                (unsupported "dict.merge-into-an-empty-dict:keys-of-equal-hash" : Sem PUnit)
                pure (ForInStep.yield PUnit.unit)
              else pure (ForInStep.yield PUnit.unit)
            else pure (ForInStep.yield PUnit.unit)
        | _ => pure (ForInStep.yield PUnit.unit) : Sem (ForInStep PUnit))) = pure PUnit.unit := by
      rw [← Array.forIn_toList]
      refine forIn_yield_id _ fun e he c => ?_
      obtain ⟨k, hkey, _⟩ := hko e (Array.mem_toList_iff.mp he)
      have hb := knd.byValue k _ hkey
      cases hk : e.key <;> first | rfl | (rw [hk] at hb; exact absurd hb Bool.false_ne_true)
    exact wpAny_bind (wpAny_of_eq hloop loop)
  · exact loop
end
end TmD

/-! {**d, k: v}: the rule. -/
namespace TmD
open PySem PySem.Spec PyProof.Rows L2
/-- {**d, k: v} with keys ints and texts; the new dicts stand while what they hold is made -/
def tDispS (t1 tk tv : TE) : TE := fun σ H Q => ∀ p, H p = none → t1 σ (upd H p (.dK [])) fun x H1 => H1 p = some (.dK []) ∧ ∃ (o : Addr) (kvs : List (Key × V)), x = .ref o ∧ Rd H1 o (.dK kvs) ∧ o ≠ p ∧ kvs.length ≤ 1000 ∧
  ∀ q, (upd H1 p (.dK kvs)) q = none → tk σ (upd (upd H1 p (.dK kvs)) q (.dK [])) fun y H2 => tv σ H2 fun z H3 => H3 q = some (.dK []) ∧ H3 p = some (.dK kvs) ∧ p ≠ q ∧ ∃ key : Key, y = kV key ∧ Q (.ref p) (upd (upd H3 q (.dK [(key, z)])) p (.dK (mergeK kvs [(key, z)])))
section
variable {X : Cx}
theorem pe_dispS {e1 ek ev : Expr} {t1 tk tv : TE} {pos : Pos} (h1 : PE X e1 t1) (hk : PE X ek tk) (hv : PE X ev tv) : PE X (.Dict [none, some ek] [e1, ev] pos) (tDispS t1 tk tv) := by
  refine ⟨fun pins s σ H Q I q => ?_⟩
  rw [arm_eval_Dict]
  refine wpAny_bind (wpAny_standAt ?_)
  show wpAny _ _ (dictDisplay [(none, do let x ← eval e1 X.env; standAt pos; pure x), (some (eval ek X.env), do let x ← eval ev X.env; standAt pos; pure x)]) _ _ s
  unfold dictDisplay
  simp only [List.forIn_cons, List.forIn_nil]
  have hn := I.hok.fresh (Nat.le_refl s.heap.objs.size)
  have I1 := I.laid (a := s.heap.objs.size) (o := .dK []) (h' := s.heap.push { cls := .type "dict", data := .dict #[] }) (t' := s.toks) (fun _ _ q => Heap.get?_push_of_some _ q) (Nat.le_refl _) (dk_empty s.heap I.big)
  refine wpAny_bind (wpAny_bind (wpAny_bind ?_))
  simp only [List.isEmpty_nil, if_true]
  refine wpAny_pure ?_
  refine wpAny_bind (wpAny_alloc ?_)
  refine wpAny_bind (wpAny_holding (wpAny_bind ?_))
  refine thn (h1.run pins _ σ _ _ I1 (q _ hn)) fun mv s2 ⟨x, H1, I2, rx, e, o, kvs, ex, ho, nop, hlen, q2⟩ => ?_
  refine wpAny_bind (wpAny_standAt (wpAny_pure ?_))
  subst ex
  obtain rfl : mv = Value.ref o := rx
  obtain ⟨zp, hdp, vp, rp, dp⟩ := dk_of I2.hok e
  cases rp
  obtain ⟨zo, hdo, vo, ro, dO⟩ := dk_rd I2.hok ho
  have lo : vo.length = kvs.length := (Paired.length ro).symm
  refine wpAny_bind (wpAny_onRaise (wpAny_tryCatch (wpAny_onRaise (wpAny_holding ?_))))
  refine merge_map (knd := mixKind X.prog X.w) (Ne.symm nop) hdo dp dO (fun h' m1 m2 sb => ?_) (by rw [List.length_nil, lo, sizeLine_eq]; omega)
  have hno : (vo.map (·.1)).Nodup := by
    obtain ⟨_, _, _, _, _, _, _, _, h⟩ := id dO
    exact h
  rw [merged_nil_of_nodup vo hno] at m1
  have hzk : kvs.length ≤ sizeLine := by rw [sizeLine_eq]; omega
  have he1 : ∃ u, h'.get? s.heap.objs.size = some u := let ⟨u, _, _, hu, _⟩ := m1; ⟨u, hu⟩
  have I3 : Inv X pins σ (upd H1 s.heap.objs.size (.dK kvs)) { s2 with heap := h' } := d_write (t' := s2.toks) I2 (by rw [e]; exact True.intro) sb he1 (dk_new hzk hdp ro m1)
  refine wpAny_pure ?_
  dsimp only
  refine wpAny_bind ?_
  rw [if_neg (by simp)]
  refine wpAny_pure ?_
  dsimp only
  refine wpAny_pure ?_
  refine wpAny_bind ?_
  rw [if_neg (by simp)]
  dsimp only [List.nil_append]
  have hq := I3.hok.fresh (Nat.le_refl h'.objs.size)
  have I4 := I3.laid (a := h'.objs.size) (o := .dK []) (h' := h'.push { cls := .type "dict", data := .dict #[] }) (t' := s2.toks) (fun _ _ q => Heap.get?_push_of_some _ q) (Nat.le_refl _) (dk_empty h' I3.big)
  refine wpAny_bind (wpAny_holding (wpAny_subDict (knd := mixKind X.prog X.w) (by simp) ?_))
  refine evalPairs_cons ?_
  refine thn (hk.run pins _ σ _ _ I4 (q2 _ hq)) fun ky s3 ⟨y, H2, I5, ry, q3⟩ => ?_
  refine wpAny_bind (thn (hv.run pins _ σ _ _ I5 q3) fun vz s4 ⟨z, H3, I6, rz, eq, ep, npq, key, ey, q4⟩ => wpAny_bind (wpAny_standAt (wpAny_pure (evalPairs_nil ?_))))
  subst ey
  obtain ⟨zq, hdq, vq, rq, dq⟩ := dk_of I6.hok eq
  cases rq
  refine ⟨[(key, vz)], ⟨kV_is ry, rfl, True.intro⟩, dq, fun h2 dd2 hs2 => ?_⟩
  have em : merged ([] : List (Key × Value)) [(key, vz)] = [(key, vz)] := rfl
  rw [em] at dd2
  have he2 : ∃ u, h2.get? h'.objs.size = some u := let ⟨u, _, _, hu, _⟩ := dd2; ⟨u, hu⟩
  have rel1 : KV [(key, z)] [(key, vz)] := .cons ⟨rfl, rz⟩ .nil
  have I7 : Inv X pins σ (upd H3 h'.objs.size (.dK [(key, z)])) { s4 with heap := h2, toks := s4.toks + 1 } := d_write (t' := s4.toks + 1) I6 (by rw [eq]; exact True.intro) hs2 he2 (dk_new (by rw [sizeLine_eq]; show 1 ≤ _; omega) hdq rel1 dd2)
  have epp : (upd H3 h'.objs.size (.dK [(key, z)])) s.heap.objs.size = some (.dK kvs) := by
    rw [upd_ne npq]
    exact ep
  obtain ⟨zP, hdP, vP, rP, dP⟩ := dk_of I7.hok epp
  have lP : vP.length = kvs.length := (Paired.length rP).symm
  refine wpAny_bind (wpAny_onRaise (wpAny_holding ?_))
  refine merge_map (knd := mixKind X.prog X.w) npq hdq dP dd2 (fun h3 m3 m4 sb3 => ?_) (by rw [lP, sizeLine_eq]; show kvs.length + 1 ≤ _; omega)
  have he3 : ∃ u, h3.get? s.heap.objs.size = some u := let ⟨u, _, _, hu, _⟩ := m3; ⟨u, hu⟩
  have hz3 : (mergeK kvs [(key, z)]).length ≤ sizeLine := by
    have h1 := length_mergeK [(key, z)] kvs
    rw [List.length_singleton] at h1
    rw [sizeLine_eq]
    omega
  have I8 := d_write (t' := s4.toks + 1) I7 (by rw [epp]; exact True.intro) sb3 he3 (dk_new hz3 hdP (KV.merge rel1 rP) m3)
  refine wpAny_pure ?_
  exact wpAny_pure ⟨.ref s.heap.objs.size, _, I8, rfl, q4⟩
end
end TmD

/-! several except clauses, with and without a name. -/
namespace TmT
open PySem PySem.Spec PyProof.Rows L2
/-- a clause: the class it names, the slot of its own name, its suite -/
abbrev Clause := Value × Option Nat × (Addr → Value → Option Addr → TS)
/-- what the clauses wish of an exception of the body -/
def wMix (K : PySem.W.Frag) (Wout : WX) (D : Ends) : List Clause → WX
  | [] => Wout
  | (c, none, ts) :: r => fun cls d σ H => ∃ b, PySem.W.exmOne K cls c = some b ∧ (b = true → ∀ a, H a = none → ts a cls d D σ H) ∧ (b = false → wMix K Wout D r cls d σ H)
  | (c, some i, ts) :: r => fun cls d σ H => ∃ b, PySem.W.exmOne K cls c = some b ∧ (b = true → ∀ a, H a = none → ts a cls d { nx := fun σ' H' => D.nx (σ'.set i none) H', rt := D.rt, bk := fun σ' H' => D.bk (σ'.set i none) H', ct := fun σ' H' => D.ct (σ'.set i none) H' } (σ.set i (some (.ref a))) H) ∧
      (b = false → wMix K Wout D r cls d σ H)
inductive HdsX (X : Cx) : List ExceptHandler → List Clause → Prop
  | nil : HdsX X [] []
  | plain {x : Str} {c : Value} {ts : Addr → Value → Option Addr → TS} {b₀ : Stmt} {suite : List Stmt} {np pos' : Pos} {hds : List ExceptHandler} {l : List Clause} (hc : Names X x c)
      (hsu : ∀ (a : Addr) (oe : Obj) (cls : Value) (d : Option Addr) (pn : List (Addr × Obj)), Zc cls d oe → (∃ vs, oe.data = .fields vs) → PSs (X.suite a ((a, oe) :: pn)) (b₀ :: suite) (ts a cls d)) (r : HdsX X hds l) :
      HdsX X (.ExceptHandler (some (.Name x np)) none (b₀ :: suite) pos' :: hds) ((c, none, ts) :: l)
  | named {x n : Str} {i : Nat} {c : Value} {ts : Addr → Value → Option Addr → TS} {b₀ : Stmt} {suite : List Stmt} {np pos' : Pos} {hds : List ExceptHandler} {l : List Clause} (hi : X.N[i]? = some n) (hln : X.env.kindOf n = some .local) (hc : Names X x c)
      (hsu : ∀ (a : Addr) (oe : Obj) (cls : Value) (d : Option Addr) (pn : List (Addr × Obj)), Zc cls d oe → (∃ vs, oe.data = .fields vs) → PSs (X.suite a ((a, oe) :: pn)) (b₀ :: suite) (ts a cls d)) (r : HdsX X hds l) :
      HdsX X (.ExceptHandler (some (.Name x np)) (some n) (b₀ :: suite) pos' :: hds) ((c, some i, ts) :: l)
section
variable {X : Cx} {body : List Stmt} {h₀ : ExceptHandler} {hds : List ExceptHandler} {l : List Clause} {pos : Pos} {tb : WX → TS} {Wout : WX}
theorem ps_try_mix (hs : X.stack = X.env :: X.outer) (hf : X.env.frame = some X.env.locals) (hN : X.N.Nodup) (tk : Takes X Wout)
    (hb : ∀ (W : WX) (pn : List (Addr × Obj)) (xe : Value → Shared → Prop), Takes (X.tr pn xe) W → PassesOwn (model X.prog X.w) X.A X.env xe → PSs (X.tr pn xe) body (tb W))
    (hh : HdsX X (h₀ :: hds) l) : PS X (.Try body (h₀ :: hds) [] [] pos) (fun D σ H => tb (wMix X.K Wout D l) D σ H) := by
  refine ⟨fun pins s σ H D I h => ?_⟩
  have ok := I.ok
  have hfr : X.A.frames = some (X.env :: X.outer) := by rw [ok.frames, hs]
  refine wpAny_Try_except ?_
  refine wpAny_mono ((hb (wMix X.K Wout D l) (X.pn ++ pins) (fun e s₁ => wpAny (model X.prog X.w) X.A (noteFrame e X.env) (fun _ s₂ => wpAny (model X.prog X.w) X.A (setFlight e none) (fun _ s₃ =>
    wpAny (model X.prog X.w) X.A (handleBy e X.env (h₀ :: hds)) (SP X pins D) X.xe s₃) X.xe s₂) X.xe s₁) (fun u s' xx => ?_) PassesOwn.looking).run [] s σ H D (I.toTry _) h) (fun f s1 hsp => ?_) (fun e s1 he => he)
  · obtain ⟨a, B, sI, pins', σ', H', cls, d, rfl, J', nb, up, sky, na, os, ag, w⟩ := xx
    have J : Inv X pins σ' H' sI := J'.ofTry ok
    have sky' : Sky B (X.env :: X.outer) a (Zc cls d) X.env.locals s'.heap := by rw [← hs]; exact sky
    show wpAny (model X.prog X.w) X.A (noteFrame (.ref a) X.env) _ _ _
    refine Sky.land Zc.steady hfr hf sky' fun h3 fl3 up3 => ?_
    have J3 : Inv X pins σ' H' { s' with heap := h3 } := J.landed nb fl3.1 (up.trans up3) os ag
    obtain ⟨oe3, vs3, he3, hz3, hd3⟩ := fl3.there
    have notFr : ∀ {h : Heap} {o : Obj} {vs : Array Value}, h.FunFrames B (X.env :: X.outer) → h.get? a = some o → o.data = .fields vs → a ∉ frs (X.env :: X.outer) := fun {h o vs} ff e dd hm => by
      obtain ⟨_, o', e', hnf⟩ := ff.mem hm
      rw [e] at e'; cases e'
      exact hnf _ dd
    have nfr := notFr fl3.2.2.1 he3 hd3
    have nL : a ≠ X.env.locals := fun z => nfr (List.mem_filterMap.mpr ⟨X.env, List.mem_cons_self, by rw [hf, z]⟩)
    have nF : a ∉ X.fs := fun hm => by
      obtain ⟨e, he, q⟩ := List.mem_filterMap.mp hm
      exact nfr (List.mem_filterMap.mpr ⟨e, List.mem_cons_of_mem _ he, q⟩)
    have S3 := J3.suite he3 hd3 na nL nF
    have LT : PySem.W.Looks (model X.prog X.w) h3 (typeOf (.ref a)) cls := fun A Q E s k q => wpAny_typeOf_ref (k _ _ he3) (by rw [hz3.1]; exact q)
    have test : ∀ {x : Str} {c : Value} {np : Pos} {Q : Value → Shared → Prop} {E : Value → Shared → Prop}, Names X x c → Q c { s' with heap := h3 } → wpAny (model X.prog X.w) (X.A.mark (some (.ref a))) (eval (.Name x np) X.env) Q E { s' with heap := h3 } := fun {x c np Q E} hc q => by
      obtain ⟨hg, hdbg, hm | ⟨hm, hv, hnn⟩⟩ := hc
      · exact ld_glob (X := X.suite a ((a, oe3) :: (X.pn ++ pins))) S3 hg hm q hdbg
      · exact ld_blt (X := X.suite a ((a, oe3) :: (X.pn ++ pins))) S3 hg hm hv q hnn hdbg
    have go : ∀ {hds' : List ExceptHandler} {l' : List Clause}, HdsX X hds' l' → wMix X.K Wout D l' cls d σ' H' →
        wpAny (model X.prog X.w) X.A (handleBy (.ref a) X.env hds') (SP X pins D) X.xe { s' with heap := h3 } := by
      intro hds' l' hk
      induction hk with
      | nil =>
        intro w
        refine wpAny_handleBy_nil ?_
        obtain ⟨k1, k2, k3, oe, vs, T, oT, ts', he, hz, hd, h1, hr⟩ := id fl3
        unfold PySem.passOn
        refine wpAny_bind (wpAny_field he hd h1 ?_)
        rw [if_neg (show ¬ ((Value.ref T == Value.none) = true) from by simp)]
        have fin : wpAny (model X.prog X.w) X.A (setFlight (.ref a) X.env.frame) (fun _ s4 => wpAny (model X.prog X.w) X.A (throw (.ref a) : Sem Flow) (SP X pins D) X.xe s4) X.xe { s' with heap := h3 } := by
          rw [hf]
          refine HandSPX.setFlight_upZ fl3 fun h4 hh4 up4 => wpAny_throw (tk _ _ ?_)
          exact ⟨a, B, sI, pins, σ', H', cls, d, rfl, J, nb, (up.trans up3).trans up4, .inr (.inr (by rw [hs]; exact hh4)), na, os, ag, w⟩
        first
          | exact wpAny_bind (wpAny_pure (wpAny_bind fin))
          | exact wpAny_bind fin
      | @plain x c ts b₀ suite np pos' hds2 l2 hc hsu r ih =>
        intro w
        obtain ⟨b, hb1, hyes, hno⟩ := w
        refine wpAny_handleBy_cons (codeAny_handlers_test ?_) (by intro q; cases q)
        have LM := PySem.W.exm_one (M := model X.prog X.w) (J3.kIn) LT hb1
        refine test hc (LM.here ?_)
        cases b with
        | true =>
          refine codeAny_handlers_suite ?_
          refine HandSPX.lands_againZ fl3 fun h4 fl4 up4 => ?_
          have J4 : Inv X pins σ' H' { s' with heap := h4 } := J.landed nb fl4.1 ((up.trans up3).trans up4) os ag
          obtain ⟨oe4, vs4, he4, hz4, hd4⟩ := fl4.there
          have S4 := J4.suite he4 hd4 na nL nF
          refine wpAny_mono ((hsu a oe4 cls d (X.pn ++ pins) hz4 ⟨_, hd4⟩).run [] _ _ H' _ S4 (hyes rfl a na)) (fun f s6 hsp => ?_) (fun _ _ z => False.elim z)
          cases f with
          | next =>
            obtain ⟨σ6, H6, S6, q6⟩ := hsp
            exact ⟨_, _, S6.unsuite ok, q6⟩
          | brk =>
            obtain ⟨σ6, H6, S6, q6⟩ := hsp
            exact ⟨_, _, S6.unsuite ok, q6⟩
          | cont =>
            obtain ⟨σ6, H6, S6, q6⟩ := hsp
            exact ⟨_, _, S6.unsuite ok, q6⟩
          | ret u =>
            obtain ⟨v6, σ6, H6, S6, r6, q6⟩ := hsp
            exact ⟨_, _, _, S6.unsuite ok, r6, q6⟩
        | false =>
          show wpAny _ X.A (handleBy (.ref a) X.env hds2) _ _ _
          exact ih (hno rfl)
      | @named x n i c ts b₀ suite np pos' hds2 l2 hi hln hc hsu r ih =>
        intro w
        obtain ⟨b, hb1, hyes, hno⟩ := w
        have hloc : Loc X.env.scope n := .inl hln
        refine wpAny_handleBy_cons (codeAny_handlers_test ?_) (by intro q; cases q)
        have LM := PySem.W.exm_one (M := model X.prog X.w) (J3.kIn) LT hb1
        refine test hc (LM.here ?_)
        cases b with
        | true =>
          refine codeAny_handlers_suite_as ?_
          refine HandSPX.lands_againZ fl3 fun h4 fl4 up4 => ?_
          have J4 : Inv X pins σ' H' { s' with heap := h4 } := J.landed nb fl4.1 ((up.trans up3).trans up4) os ag
          obtain ⟨oe4, vs4, he4, hz4, hd4⟩ := fl4.there
          have S4 := J4.suite he4 hd4 na nL nF
          refine store_ok (X := X.suite a ((a, oe4) :: (X.pn ++ pins))) (v := .ref a) S4 hN hi hloc rfl (fun s5 S5 => ?_) (.inr hln)
          refine wpAny_mono ((hsu a oe4 cls d (X.pn ++ pins) hz4 ⟨_, hd4⟩).run [] s5 _ H' _ S5 (hyes rfl a na)) (fun f s6 hsp => ?_) (fun _ _ z => False.elim z)
          have end_ : ∀ {σ6 : L2.St} {H6 : Hp} {Q : Shared → Prop}, Inv (X.suite a ((a, oe4) :: (X.pn ++ pins))) [] σ6 H6 s6 → (∀ s7, Inv X pins (σ6.set i none) H6 s7 → Q s7) →
              wpAny (model X.prog X.w) X.A (do bindName X.env n .none; unbindBehindTheSuite X.env n pos') (fun _ s7 => Q s7) X.xe s6 := fun {σ6 H6 Q} S6 hq => gone_ok (S6.unsuite ok) hN hi hln hq
          cases f with
          | next =>
            obtain ⟨σ6, H6, S6, q6⟩ := hsp
            exact end_ S6 fun s7 J7 => ⟨_, _, J7, q6⟩
          | brk =>
            obtain ⟨σ6, H6, S6, q6⟩ := hsp
            exact end_ S6 fun s7 J7 => ⟨_, _, J7, q6⟩
          | cont =>
            obtain ⟨σ6, H6, S6, q6⟩ := hsp
            exact end_ S6 fun s7 J7 => ⟨_, _, J7, q6⟩
          | ret u =>
            obtain ⟨v6, σ6, H6, S6, r6, q6⟩ := hsp
            exact end_ S6 fun s7 J7 => ⟨_, _, _, J7, r6, q6⟩
        | false =>
          show wpAny _ X.A (handleBy (.ref a) X.env hds2) _ _ _
          exact ih (hno rfl)
    exact go hh w
  · cases f with
    | next =>
      obtain ⟨σ', H', J', q⟩ := hsp
      exact wpAny_execs_nil ⟨σ', H', J'.ofTry ok, q⟩
    | brk =>
      obtain ⟨σ', H', J', q⟩ := hsp
      exact ⟨σ', H', J'.ofTry ok, q⟩
    | cont =>
      obtain ⟨σ', H', J', q⟩ := hsp
      exact ⟨σ', H', J'.ofTry ok, q⟩
    | ret u =>
      obtain ⟨v, σ', H', J', r, q⟩ := hsp
      exact ⟨v, σ', H', J'.ofTry ok, r, q⟩
end
end TmT

/-! sets of texts whose members can be collected: one more member. -/
namespace TmS
open PySem PySem.Spec PyProof.Rows L2
theorem perm_along {α β : Type} {F : α → β → Prop} : ∀ {xs xs' : List α}, xs'.Perm xs → ∀ {ys : List β}, Paired F xs ys → ∃ ys', ys'.Perm ys ∧ Paired F xs' ys' := by
  intro xs xs' p
  induction p with
  | nil => exact fun h => ⟨_, List.Perm.refl _, h⟩
  | cons x _ ih =>
    intro ys h
    cases h with
    | cons r t =>
      obtain ⟨zs, p2, q⟩ := ih t
      exact ⟨_ :: zs, p2.cons _, .cons r q⟩
  | swap x y l =>
    intro ys h
    cases h with
    | cons r t =>
      cases t with
      | cons r2 t2 => exact ⟨_, List.Perm.swap _ _ _, .cons r2 (.cons r t2)⟩
  | trans _ _ ih1 ih2 =>
    intro ys h
    obtain ⟨zs, p1, q1⟩ := ih2 h
    obtain ⟨us, p2, q2⟩ := ih1 q1
    exact ⟨us, p2.trans p1, q2⟩
def TxtE (P : Program) (w : World) (e : Int × Value) (x : Str) : Prop := ∃ tk, e.2 = Value.str x tk ∧ e.1 = (strKind P w).hash x
/-- the set of the texts ks at a, in the order of its entries -/
def SetS (P : Program) (w : World) (h : Heap) (a : Addr) (ks : List Str) : Prop :=
  ∃ o es ep t, h.get? a = some o ∧ o.ExactSet ∧ o.data = .set es ep t ∧ Paired (TxtE P w) es.toList ks ∧ ks.Nodup ∧ es.size < scanBound ∧ t.fits es.size = true ∧ Ris t.place.toList ∧ (w.params.followText "set-order" = true ∨ t.led = true)
section
variable {P : Program} {w : World} {A : Around} {E : Value → Shared → Prop} {s : Shared} {a : Addr} {ks : List Str}
theorem SetS.at {h h' : Heap} (R : SetS P w h a ks) (k : ∀ o, h.get? a = some o → h'.get? a = some o) : SetS P w h' a ks := by
  obtain ⟨o, es, ep, t, ho, r⟩ := R
  exact ⟨o, es, ep, t, k o ho, r⟩
theorem elems {es : List (Int × Value)} (h : Paired (TxtE P w) es ks) : ElemsOf (strKind P w) es := fun e he => by
  induction h with
  | nil => cases he
  | @cons d x ds xs r _ ih =>
    rcases List.mem_cons.mp he with z | z
    · subst z
      obtain ⟨tk, h1, h2⟩ := r
      exact ⟨⟨x, by rw [h1]; exact strKind_is P w x tk, h2⟩, by rw [h1] <;> rfl⟩
    · exact ih z
theorem is_txt {e : Int × Value} {x y : Str} (h : TxtE P w e y) : (strKind P w).is x e.2 = true ↔ x = y := by
  obtain ⟨tk, h1, _⟩ := h
  have hy := strKind_is P w y tk
  rw [h1]
  constructor
  · intro hx
    exact (strKind P w).inj _ _ _ hx hy
  · rintro rfl
    exact hy
theorem any_txt {es : List (Int × Value)} {x : Str} (h : Paired (TxtE P w) es ks) : x ∈ ks ↔ ∃ e ∈ es, (strKind P w).is x e.2 = true := by
  induction h with
  | nil => simp
  | @cons d y ds ys r _ ih =>
    rw [List.mem_cons, ih]
    constructor
    · rintro (z | ⟨e, he, q⟩)
      · exact ⟨d, List.mem_cons_self, (is_txt r).mpr z⟩
      · exact ⟨e, List.mem_cons_of_mem _ he, q⟩
    · rintro ⟨e, he, q⟩
      rcases List.mem_cons.mp he with z | z
      · subst z
        exact .inl ((is_txt r).mp q)
      · exact .inr ⟨e, z, q⟩
theorem put_tail {g : Bool → Sem Unit} (hg : ∀ (b : Bool) (s₁ : Shared) (Q' : Unit → Shared → Prop), Q' () s₁ → wpAny (model P w) A (g b) Q' E s₁)
    {o : Obj} {es es1 : Array (Int × Value)} {ep : Nat} {t t2 : SetTable} (ho : s.heap.get? a = some o) (hex : o.ExactSet) (hd : o.data = .set es ep t) {k1 : List Str} (pr : Paired (TxtE P w) es1.toList k1) (nd : k1.Nodup)
    (hb1 : es1.size < scanBound) (hf2 : t2.fits es1.size = true) (hr : Ris t2.place.toList) (hl : w.params.followText "set-order" = true ∨ t2.led = true) {wasDummy : Bool} {R : Option Bool → Shared → Prop}
    (hR : ∀ h' k2, Heap.SameBut a s.heap h' → k2.Perm k1 → SetS P w h' a k2 → R (some true) { s with heap := h' }) :
    wpAny (model P w) A (do
        storeSet a es1 t2
        if (!wasDummy && t2.tooFull) = true then do
            g (relayAll t2 es1 (SetTable.grown es1.size)).2.2
            storeSet a (relayAll t2 es1 (SetTable.grown es1.size)).1 (relayAll t2 es1 (SetTable.grown es1.size)).2.1
            pure (some true)
          else pure (some true)) R E s := by
  refine wpAny_bind (wpAny_storeSet_of ho hd ?_ (fits_of_scanBound hb1))
  have ho1 := store_at (es' := es1) (t' := t2) ho hd
  have sb1 := Heap.SameBut.update s.heap a (Obj.putSet es1 t2)
  split
  · have pm := relayAll_perm t2 es1 (SetTable.grown es1.size)
    have hf3 := relayAll_fits t2 es1 (SetTable.grown es1.size)
    have hr3 := relayAll_ris t2 es1 (SetTable.grown es1.size)
    have hl3 := relayAll_led t2 es1 (SetTable.grown es1.size)
    generalize relayAll t2 es1 (SetTable.grown es1.size) = Z at pm hf3 hr3 hl3 ⊢
    obtain ⟨es2, t3, gave⟩ := Z
    dsimp only at pm hf3 hr3 hl3 ⊢
    have hsz : es2.size = es1.size := by rw [← Array.length_toList, pm.length_eq, Array.length_toList]
    have hb2 : es2.size < scanBound := by rw [hsz]; exact hb1
    obtain ⟨k2, p2, q2⟩ := perm_along pm pr
    refine wpAny_bind (hg _ _ _ ?_)
    refine wpAny_bind (wpAny_storeSet_of ho1 rfl ?_ (fits_of_scanBound hb2))
    have ho2 := store_at (es' := es2) (t' := t3) ho1 rfl
    refine wpAny_pure (hR _ k2 (sb1.trans (Heap.SameBut.update _ a _)) p2 ?_)
    exact ⟨_, es2, _, t3, ho2, hex, rfl, q2, p2.nodup_iff.mpr nd, hb2, hf3, hr3, hl.imp id fun z => by rw [hl3]; exact z⟩
  · exact wpAny_pure (hR _ k1 sb1 (List.Perm.refl _) ⟨_, es1, _, t2, ho1, hex, rfl, pr, nd, hb1, hf2, hr, hl⟩)
theorem add_txt {x : Str} {tk : Tok} {Q : Bool → Shared → Prop} (R : SetS P w s.heap a ks) (room : ks.length + 1 < scanBound)
    (hQ : ∀ h' k2, Heap.SameBut a s.heap h' → SetS P w h' a k2 → (x ∈ ks ∧ k2 = ks ∨ x ∉ ks ∧ k2.Perm (x :: ks)) → Q (!decide (x ∈ ks)) { s with heap := h' }) :
    wpAny (model P w) A (setAddHashed a (.str x tk) ((strKind P w).hash x)) Q E s := by
  obtain ⟨o, es, ep, t, ho, hex, hd, pr, nd, hb, hf, hr, hl⟩ := R
  have hkey : (strKind P w).is x (.str x tk) = true := strKind_is P w x tk
  have hsc : (Value.str x tk).scannable = true := rfl
  have hel := elems pr
  unfold setAddHashed setAddHashedIn
  refine wpAny_holding (wpAny_bind (wpAny_setState_of ho hd hf ?_))
  dsimp only
  rw [byScan_of hsc hb hel]
  simp only [↓reduceIte]
  unfold setAddByScan
  refine wpAny_bind ?_
  refine wpAny_bind (wpAny_rule ?_)
  refine wpAny_bind (wpAny_setScan_of hkey ho hd hf hel ?_)
  cases hfi : List.findIdx? (fun e => (strKind P w).is x e.2) es.toList with
  | some j =>
    dsimp only
    obtain ⟨hj, pj, _⟩ := List.findIdx?_eq_some_iff_getElem.mp hfi
    have hx : x ∈ ks := (any_txt pr).mpr ⟨es.toList[j], List.getElem_mem hj, pj⟩
    refine wpAny_pure (wpAny_pure ?_)
    have q := hQ s.heap ks (Heap.SameBut.refl a s.heap) ⟨o, es, ep, t, ho, hex, hd, pr, nd, hb, hf, hr, hl⟩ (.inl ⟨hx, rfl⟩)
    rw [decide_eq_true hx] at q
    exact q
  | none =>
    dsimp only
    have hx : x ∉ ks := fun z => by
      obtain ⟨e, he, q⟩ := (any_txt pr).mp z
      have c := List.findIdx?_eq_none_iff.mp hfi e he
      rw [q] at c
      cases c
    have hgw : ∀ (b : Bool) {s₁ : Shared} {Q' : Unit → Shared → Prop}, Q' () s₁ → wpAny (model P w) A (match b with | true => rule "set.scan.the-table-gave-way" | false => pure ()) Q' E s₁ :=
      fun b s₁ Q' q => by cases b <;> first | exact wpAny_pure q | exact wpAny_rule q
    have pm := layNew_perm t es ((strKind P w).hash x) (.str x tk)
    have hf1 := layNew_fits t es ((strKind P w).hash x) (.str x tk)
    have hr1 := layNew_ris t es ((strKind P w).hash x) (.str x tk) hr
    have hl1 := layNew_led t es ((strKind P w).hash x) (.str x tk)
    generalize layNew t es ((strKind P w).hash x) (.str x tk) = Z at pm hf1 hr1 hl1 ⊢
    obtain ⟨es1, t1, wasDummy, gave⟩ := Z
    dsimp only at pm hf1 hr1 hl1 ⊢
    rw [Array.toList_push] at pm
    have pc : es1.toList.Perm (((strKind P w).hash x, Value.str x tk) :: es.toList) := pm.trans (List.perm_append_singleton _ _)
    obtain ⟨k1, p1, q1⟩ := perm_along pc (.cons (show TxtE P w ((strKind P w).hash x, Value.str x tk) x from ⟨tk, rfl, rfl⟩) pr)
    have nd1 : k1.Nodup := p1.nodup_iff.mpr (List.nodup_cons.mpr ⟨hx, nd⟩)
    have hsz : es1.size = ks.length + 1 := by rw [← Array.length_toList, pc.length_eq, List.length_cons, Paired.length pr]
    have hb1 : es1.size < scanBound := by rw [hsz]; exact room
    have hled : w.params.followText "set-order" = true ∨ t1.led = true := hl.imp id fun z => by rw [hl1]; exact z
    have fin : ∀ h' k2, Heap.SameBut a s.heap h' → k2.Perm k1 → SetS P w h' a k2 → Q true { s with heap := h' } := fun h' k2 sb p r => by
      have q := hQ h' k2 sb r (.inr ⟨hx, p.trans p1⟩)
      rw [decide_eq_false hx] at q
      exact q
    refine wpAny_bind (hgw _ ?_)
    split
    · refine wpAny_bind ?_
      rw [hashByValue_scannable 8 hsc]
      refine wpAny_pure ?_
      refine put_tail ?_ ho hex hd q1 nd1 hb1 ?_ ?_ ?_ ?_
      · intro b s₁ Q' q; cases b <;> first | exact wpAny_pure q | exact wpAny_rule q
      · first | (split <;> first | exact hf1 | exact SetTable.fits_plain_off hf1) | exact hf1
      · first | (split <;> exact hr1) | exact hr1
      · first | (split <;> exact hled) | exact hled
      · intro h' k2 sb p r; dsimp only; exact wpAny_pure (fin h' k2 sb p r)
    · refine wpAny_bind (wpAny_pure ?_)
      simp only [↓reduceIte]
      refine put_tail ?_ ho hex hd q1 nd1 hb1 hf1 hr1 hled ?_
      · intro b s₁ Q' q; cases b <;> first | exact wpAny_pure q | exact wpAny_rule q
      · intro h' k2 sb p r; dsimp only; exact wpAny_pure (fin h' k2 sb p r)
end
end TmS

/-! set(a list of texts), sorted(a set of texts). -/
namespace TmS
open PySem PySem.Spec PyProof.Rows L2
section
variable {P : Program} {w : World} {A : Around} {E : Value → Shared → Prop} {R : Result → Shared → Prop}
/-- what is met so far -/
def MetS (P : Program) (w : World) (h : Heap) (a : Addr) (ts : List Str) (m : Nat) : Prop := ∃ ks, SetS P w h a ks ∧ ks.length ≤ m ∧ ∀ x, x ∈ ks ↔ x ∈ ts
theorem update_txt {I : Addr} {fp wr : List Addr} {G : Array GenState → Array GenState → Prop} {n : Nat} {Pv : Nat → Value → Prop} {St : Nat → Shared → Prop}
    (W : WalksS P w A.in1 I fp wr G n Pv St) (S : Addr) (hSf : S ∉ fp) (ts : List Str) (hn : n = ts.length) (hb : ts.length + 1 < scanBound) (hval : ∀ i v, Pv i v → ∃ x t, ts[i]? = some x ∧ v = .str x t) :
    ∀ (k i : Nat) (s : Shared), n - i = k → i ≤ n → St i s → MetS P w s.heap S (ts.take i) i →
      (∀ s', Moved (S :: wr) G s s' → MetS P w s'.heap S ts n → R (.ok (.ret .none)) s') →
      codeAny (model P w) A (.builtin "set.update.loop" ⟨[.ref S, .ref I], []⟩) R s := by
  have hSw : S ∉ wr := fun h => hSf (W.sub _ h)
  have hsub : ∀ b ∈ wr, b ∈ S :: wr := fun b hb => List.mem_cons_of_mem _ hb
  intro k
  induction k with
  | zero =>
    intro i s hk' hi hst ⟨ks, hS, hc, hm⟩ hR
    have hin : i = n := by omega
    subst hin
    refine codeAny_builtin F.entry_set_update_loop ?_
    rw [Around.under_plainId F.plain_set_update_loop _]
    show wpAny _ A.in1 (pyNext (.ref I) >>= _) _ _ s
    refine wpAny_bind (W.done s _ _ hst fun s' mv => ?_)
    show wpAny _ A.in1 (ret Value.none) _ _ s'
    have e : ts.take i = ts := List.take_of_length_le (by omega)
    rw [e] at hm
    exact wpAny_pure (hR s' (mv.mono hsub) ⟨ks, hS.at fun o e => mv.heap S o hSw e, hc, hm⟩)
  | succ k ih =>
    intro i s hk' hi hst ⟨ks, hS, hc, hm⟩ hR
    have hlt : i < n := by omega
    refine codeAny_builtin F.entry_set_update_loop ?_
    rw [Around.under_plainId F.plain_set_update_loop _]
    show wpAny _ A.in1 (pyNext (.ref I) >>= _) _ _ s
    refine wpAny_bind (W.item i s _ _ hlt hst fun v s' hP hst' mv => ?_)
    obtain ⟨z, t, hz, rfl⟩ := hval i v hP
    have hS' : SetS P w s'.heap S ks := hS.at fun o e => mv.heap S o hSw e
    show wpAny _ A.in1 (holding [Value.str z t] (setAdd S (.str z t)) >>= _) _ _ s'
    refine wpAny_bind (wpAny_holding ?_)
    unfold setAdd
    refine wpAny_holding ?_
    refine wpAny_bind ((strKind P w).pyHash (k := z) (strKind_is _ _ _ _) ?_)
    refine add_txt (s := { s' with toks := s'.toks + 1 }) hS' (by omega) fun h' k2 hsb hS2 hk2 => ?_
    have hc2 : k2.length ≤ i + 1 := by
      rcases hk2 with ⟨_, e⟩ | ⟨_, p⟩
      · rw [e]
        omega
      · rw [p.length_eq, List.length_cons]
        omega
    have hm2 : ∀ x, x ∈ k2 ↔ x ∈ ts.take (i + 1) := fun x => by
      rw [List.take_add_one, hz]
      show _ ↔ x ∈ ts.take i ++ [z]
      rw [List.mem_append, ← hm x, List.mem_singleton]
      rcases hk2 with ⟨hin, e⟩ | ⟨_, p⟩
      · rw [e]
        exact ⟨.inl, fun q => q.elim id fun q => by rw [q]; exact hin⟩
      · rw [p.mem_iff, List.mem_cons]
        exact Or.comm
    refine wpAny_pure ⟨plainId_quiet F.plain_set_update_loop _, ih (i + 1) _ (by omega) hlt (W.frame _ s' _ _ hst' (Nat.le_succ _) fun b hb o e => ?_) ⟨k2, hS2, hc2, hm2⟩ fun s'' mv'' hS'' => ?_⟩
    · rw [hsb.2 b (fun h : b = S => hSf (by rw [← h]; exact hb))]; exact e
    · refine hR s'' (Moved.trans W.gtrans ((mv.mono hsub).then_heap (Nat.le_succ _) fun b o hb e => ?_) mv'') hS''
      exact (hsb.2 b (fun h : b = S => hb (by rw [h]; exact List.mem_cons_self))).trans e
end
/-- the set of texts at a, as tracked -/
def SetSO (P : Program) (w : World) (a : Addr) (ks : List Str) : HO := .ext fun h => SetS P w h a ks
theorem setSO_new {w : World} {P : Program} {H : Hp} {h : Heap} {a : Addr} {ks : List Str} (R : SetS P w h a ks) : ObjOk P w H h a (SetSO P w a ks) := by
  have ⟨o, _, _, _, ho, _⟩ := R
  exact ⟨R, ⟨o, ho⟩, fun h1 h2 p k => SetS.at p k⟩
section
variable {P : Program} {w : World} {A : Around} {E : Value → Shared → Prop} {s : Shared} {a : Addr} {ks : List Str}
theorem vals_txt {es : List (Int × Value)} (h : Paired (TxtE P w) es ks) : Paired (fun (v : Value) (x : Str) => ∃ tk, v = Value.str x tk) (es.map (·.2)) ks := by
  induction h with
  | nil => exact .nil
  | cons r _ ih =>
    obtain ⟨tk, h1, _⟩ := r
    exact .cons ⟨tk, h1⟩ ih
theorem strs_txt {vs : List Value} {ks : List Str} (h : Paired (fun (v : Value) (x : Str) => ∃ tk, v = Value.str x tk) vs ks) : StrsAre vs ks := by
  induction h with
  | nil => exact .nil
  | cons r _ ih =>
    obtain ⟨tk, rfl⟩ := r
    exact .cons _ _ ih
theorem sorted_txt {Q : Value → Shared → Prop} (R : SetS P w s.heap a ks) (hh : A.handled = none) (h64 : ks.length < 64)
    (hQ : ∀ s' p (out : Array Value) (c : Nat) (ys : List Str), (∀ b o, s.heap.get? b = some o → s'.heap.get? b = some o) → s'.gens = s.gens → s'.os = s.os → s.heap.objs.size ≤ p →
      s'.heap.get? p = some (seqObj "list" out c) → StrsAre out.toList ys → ys.Perm ks → sortedS ys = true → Q (.ref p) s') :
    wpAny (model P w) A (call (.builtin "sorted") [.ref a]) Q E s := by
  obtain ⟨o, es, ep, t, ho, hex, hd, pr, nd, hb, hf, hr, hl⟩ := R
  refine Calls.call_function_entry kind_sorted plain_sorted entry_sorted (args_sorted1 _) ?_
  unfold Builtin.«sorted»
  refine wpAny_bind (m := checkCount "sorted" 1 1 _) (wpAny_pure ?_)
  refine wpAny_bind (collect_set (A := A.in1) hh ⟨o, ho, hex.1, hd⟩ hf hb hr hl fun s1 vs k1 hz g1 o1 pm => ?_)
  obtain ⟨k2, p2, q2⟩ := perm_along pm (vals_txt pr)
  have hS := strs_txt q2
  have hvl : vs.length = ks.length := by rw [Paired.length q2, p2.length_eq]
  refine wpAny_bind (wpAny_newList ?_ (by rw [hvl, sizeLine_eq]; omega))
  have hoL : (s1.heap.push (seqObj "list" vs.toArray 0)).get? s1.heap.objs.size = some (seqObj "list" vs.toArray 0) := Heap.get?_push_size _ rfl
  refine wpAny_bind (wpAny_holding (wpAny_call_entry PyProof.Rows.slot_list_sort ⟨_, hoL, rfl⟩ PyProof.Rows.entry_list_sort
    (list_sort_treeK strKind_oneLt hoL hS.keysOf (fun v₁ v₂ rest e => keyKind_strs (by rw [← e]; exact hS)) (by rw [hvl]; exact h64) fun st' hp hs => ⟨_, rfl, ?_⟩)
    (PyProof.Rows.args_list_sort _)))
  obtain ⟨ys, h1, h2, h3⟩ := sorted_out_str hS hp hs
  obtain ⟨c, hc⟩ := PyProof.Rows.sortedHeap_at (vs := vs) (out := (arrOf st').map (·.2)) hoL
  refine wpAny_pure ⟨_, rfl, hQ _ s1.heap.objs.size _ c ys (fun b u e => ?_) g1 o1 hz hc h1 (h2.trans p2) h3⟩
  have q := k1 b u e
  have hlt := Heap.lt_size q
  show (sortedHeap (s1.heap.push (seqObj "list" vs.toArray 0)) s1.heap.objs.size vs _).get? b = some u
  rw [sortedHeap_old (Nat.ne_of_lt hlt) (by rw [size_push']; exact Nat.lt_succ_of_lt hlt)]
  exact Heap.get?_push_of_some _ q
end
section
variable {X : Cx}
/-- sorted(a set of texts), fewer than 64 -/
theorem cr_sortedTx (hc : X.calm = true) : CallR X (.builtin "sorted") (fun vs H Q => ∃ (a : Addr) (ks : List Str), vs = [V.ref a] ∧ H a = some (SetSO X.prog X.w a ks) ∧ ks.length < 64 ∧ ∀ (ys : List Str) (p : Addr), ys.Perm ks → sortedS ys = true → H p = none → Q (.ref p) (upd H p (.lst (ys.map V.str)))) := by
  intro pins s σ H vs us Q I r h
  obtain ⟨a, ks, rfl, ha, h64, q⟩ := h
  have R : SetS X.prog X.w s.heap a ks := (I.hok a _ ha).1
  rw [Vals.ref1 r]
  refine sorted_txt R (I.ok.hd hc) h64 fun s' p out c ys k g o hp hg hi pm hs => ?_
  have hlen : (ys.map V.str).length ≤ sizeLine := by rw [List.length_map, pm.length_eq, sizeLine_eq]; omega
  have hn : H p = none := I.hok.fresh hp
  have J : Inv X pins σ (upd H p (.lst (ys.map V.str))) { s with heap := s'.heap, gens := s'.gens, drawn := s'.drawn, toks := s'.toks } :=
    I.call (ch := []) (Un.laid k hp hn) (I.hok.laid k hp ⟨hlen, out.toList, c, vals_of_strs hi, hg⟩) (by rw [g]; exact I.bare) (fun _ z => nomatch z)
  have e : s' = { s with heap := s'.heap, gens := s'.gens, drawn := s'.drawn, toks := s'.toks } := by
    cases s'
    cases s
    cases o
    rfl
  rw [e]
  exact ⟨.ref p, _, J, rfl, q ys p pm hs hn⟩
end
end TmS

set_option maxHeartbeats 4000000
/-! set(xs), xs a list of texts. -/
namespace TmS
open PySem PySem.Spec PyProof.Rows L2 Tm
section
variable {P : Program} {w : World} {B : Around} {G : Value → Shared → Prop} {z : Shared}
theorem setS_new_at {h : Heap} {a : Addr} (e : h.get? a = some (bareSet w)) : SetS P w h a [] :=
  ⟨_, #[], 0, _, e, ⟨rfl, rfl, rfl⟩, rfl, .nil, .nil, (by decide), (by rfl), List.Pairwise.nil, by
    show _ ∨ (!w.params.followText "set-order") = true
    cases w.params.followText "set-order"
    · exact .inr rfl
    · exact .inl rfl⟩
/-- what set(..) leaves: all members, the old heap kept -/
abbrev FilledS (P : Program) (w : World) (z : Shared) (ts : List Str) (y : Shared) : Prop := ∃ (g : Heap) (n : Nat), y = { z with heap := g, toks := n } ∧ MetS P w g z.heap.objs.size ts ts.length ∧ ∀ b o, z.heap.get? b = some o → g.get? b = some o
theorem str_at {vs : List Value} {xs : List Str} (h : StrsAre vs xs) : ∀ (i : Nat) (v : Value), vs[i]? = some v → ∃ x t, xs[i]? = some x ∧ v = Value.str x t := by
  induction h with
  | nil => intro i v e; simp at e
  | cons x t _ ih =>
    intro i v e
    match i with
    | 0 =>
      rw [List.getElem?_cons_zero] at e
      exact ⟨x, t, List.getElem?_cons_zero, (Option.some.inj e).symm⟩
    | i + 1 =>
      rw [List.getElem?_cons_succ] at e
      obtain ⟨y, u, h1, h2⟩ := ih i v e
      exact ⟨y, u, by rw [List.getElem?_cons_succ]; exact h1, h2⟩
theorem strs_len : ∀ {vs : List Value} {xs : List Str}, StrsAre vs xs → vs.length = xs.length
  | _, _, .nil => rfl
  | _, _, .cons x t r => by rw [List.length_cons, List.length_cons, strs_len r]
/-- the body of set.__init__, one list given -/
theorem init_listS {l : Addr} {us : Array Value} {ns : List Str} (calm : B.handled = none) (lst : z.heap.IsList l us) (num : StrsAre us.toList ns) (few : ns.length + 1 < scanBound) :
    wpAny (model P w) B (Builtin.«set.__init__» ⟨[.ref z.heap.objs.size, .ref l], []⟩) (fun f y => f = .done (.ret .none) ∧ FilledS P w z ns y) G { z with heap := z.heap.push (bareSet w) } := by
  have cnt : us.size = ns.length := (Array.length_toList (xs := us)).symm.trans (strs_len num)
  have new : (z.heap.push (bareSet w)).get? z.heap.objs.size = some (bareSet w) := Heap.get?_push_size _ rfl
  obtain ⟨⟨oc, od, oda, os⟩, old, e1, k, e2⟩ := lst
  dsimp only at e1 e2
  cases e1
  cases e2
  have at1 : (z.heap.push (bareSet w)).get? l = some { cls := .type "list", dict := od, data := .seq us k, slots := os } := Heap.get?_push_of_some _ old
  have is1 : (z.heap.push (bareSet w)).IsList l us := ⟨_, at1, rfl, k, rfl⟩
  have n1 := PySem.F.sub_list_set
  have n2 := PySem.F.sub_list_frozenset
  have n3 : (Value.type "list" == Value.type "dict") = false := by decide
  unfold Builtin.«set.__init__» noKeywords Builtin.Frozenset.updateFrom
  generalize e : pyIter = PI
  wp_walk
  subst e
  refine wpAny_pyIter_list is1 (wpAny_bind (wpAny_runValue ?_))
  have big : (z.heap.push (bareSet w)).objs.size = z.heap.objs.size + 1 := Heap.size_push ..
  have less := Heap.lt_size old
  have ne1 : l ≠ (z.heap.push (bareSet w)).objs.size := Nat.ne_of_lt (big ▸ Nat.lt_succ_of_lt less)
  have ne2 : z.heap.objs.size ≠ (z.heap.push (bareSet w)).objs.size := Nat.ne_of_lt (big ▸ Nat.lt_succ_self _)
  have out : z.heap.objs.size ∉ [(z.heap.push (bareSet w)).objs.size, l] := fun m => by
    rcases List.mem_cons.mp m with x | x
    · exact ne2 x
    · exact Nat.ne_of_gt less (List.mem_singleton.mp x)
  have val : ∀ (i : Nat) (v : Value), us[i]? = some v → ∃ c t, ns[i]? = some c ∧ v = .str c t := fun i v hv => str_at num i v ((Array.getElem?_toList ..).trans hv)
  refine update_txt (Walks.list (by simp [calm]) _ l ne1 us).toS z.heap.objs.size out ns cnt few val us.size 0 _ rfl (Nat.zero_le _) ⟨⟨_, Heap.get?_push_size _ rfl, rfl, rfl⟩, is1.push _⟩ ⟨[], setS_new_at (Heap.get?_push_of_some _ new), Nat.le_refl 0, fun x => by simp⟩ fun y mv hS => ?_
  obtain ⟨g, gs, dr, tk, os2⟩ := y
  have q1 := mv.gens
  have q2 := mv.drawn
  have q3 := mv.os
  dsimp only at q1 q2 q3
  subst q1 q2 q3
  refine wpAny_pure (wpAny_pure ⟨rfl, g, tk, rfl, by rw [← cnt]; exact hS, fun b o e => mv.heap b o (fun m => ?_) (Heap.get?_push_of_some _ (Heap.get?_push_of_some _ e))⟩)
  have lb := Heap.lt_size e
  rcases List.mem_cons.mp m with x | x
  · exact Nat.ne_of_lt lb x
  · exact Nat.ne_of_lt (big ▸ Nat.lt_succ_of_lt lb) (List.mem_singleton.mp x)
/-- the call -/
theorem set_listS {A : Around} {s : Shared} {l : Addr} {us : Array Value} {ns : List Str} {R : Value → Shared → Prop} (calm : A.handled = none) (lst : s.heap.IsList l us) (num : StrsAre us.toList ns) (few : ns.length + 1 < scanBound)
    (end_ : ∀ y, FilledS P w s ns y → R (.ref s.heap.objs.size) y) : wpAny (model P w) A (call (.type "set") [.ref l]) R G s := by
  have C := PySem.F.called_set
  have ⟨m0, m1, mro⟩ := C.mro
  refine wpAny_call (codeAny_of_tree (?_ : wpAny _ _ (callAny (.type "set") _) _ _ _))
  refine wpAny_pure ⟨Code.quiet_builtin _ (by decide +kernel), codeAny_builtin F.entry_type_call ?_⟩
  rw [Around.under_plain (weight_type_call_type "set" [.ref l] []) rfl]
  have c1 := C.made
  have c2 := C.sub
  have c3 := C.notType
  have c4 := C.canCreate
  have c5 := F.typeCall_set_1 (.ref l)
  repeat (any_goals (first | assumption | wp_step))
  refine codeAny_mono (code_set_led1 (.ref l) (E := G) (Q₁ := fun o s1 => o = .ref s.heap.objs.size ∧ s1 = { s with heap := s.heap.push (bareSet w) }) ⟨rfl, rfl⟩) fun r1 s1 h1 => ?_
  match r1, h1 with
  | .ok (.ret _), h1 =>
    obtain ⟨rfl, rfl⟩ := h1
    have new : (s.heap.push (bareSet w)).get? s.heap.objs.size = some (bareSet w) := Heap.get?_push_size _ rfl
    have typ : Shared.TypeIs { s with heap := s.heap.push (bareSet w) } (.ref s.heap.objs.size) "set" := ⟨_, new, rfl⟩
    have i1 := C.init.lookup
    have i2 := C.init.bind (.ref s.heap.objs.size)
    repeat (any_goals (first | assumption | wp_step))
    refine codeAny_mono (codeAny_call_builtin (R := wants (fun r y => r = .none ∧ FilledS P w s ns y) G) C.init.plain F.entry_set_init (check_set_init_1 typ ?_)) fun r2 s2 h2 => ?_
    · exact wpAny_mono (init_listS (by simp [calm]) lst num few) (fun f y q => by obtain ⟨rfl, q⟩ := q; exact ⟨rfl, q⟩) fun _ _ e => e
    · match r2, h2 with
      | .ok (.ret _), h2 =>
        obtain ⟨rfl, q⟩ := h2
        repeat (any_goals (first | assumption | wp_step))
        exact end_ _ q
      | .error _, e => exact e
  | .error _, e => exact e
end
/-- set(a list of texts): its members, in some order -/
def rSetTx (K : PySem.W.Frag) (P : Program) (w : World) : List V → Hp → VK → Prop := fun xs H Q => ∃ (l : Addr) (ns : List Str), xs = [V.ref l] ∧ SqL K H l (ns.map V.str) ∧ ns.length ≤ 1000 ∧
  ∀ p ks, H p = none → ks.Nodup → ks.length ≤ ns.length → (∀ x, x ∈ ks ↔ x ∈ ns) → Q (.ref p) (upd H p (SetSO P w p ks))
theorem cr_setTx {X : Cx} (calm : X.calm = true) : CallR X (.type "set") (rSetTx X.K X.prog X.w) := by
  intro pins s σ H xs us Q I r h
  obtain ⟨l, ns, rfl, hl, few, q⟩ := h
  rw [Vals.ref1 r]
  obtain ⟨its, rv, pl, _⟩ := I.list hl
  refine set_listS (I.ok.hd calm) pl.isList (ns := ns) (strs_of_vals rv) (by show _ < 4096; omega) fun y ⟨g, n, ey, ⟨ks, new, hc, hm⟩, keep⟩ => ?_
  subst ey
  have nd : ks.Nodup := by
    obtain ⟨_, _, _, _, _, _, _, _, nd, _⟩ := id new
    exact nd
  exact ⟨.ref s.heap.objs.size, _, I.laid (t' := n) keep (Nat.le_refl _) (setSO_new new), rfl, q _ ks (I.hok.fresh (Nat.le_refl _)) nd hc hm⟩
end TmS

/-! a table with a row put into it; _law_more. -/
namespace Tm
open PySem PySem.Spec PyProof.Rows L2 TmZ
local macro_rules | `(tactic| walk_at "x") => `(tactic| dsimp only [tNext, tRet, tSeq, tCall, tCB, tC, tCons, tNil, tAsg, tDrop, sFld])
section
variable {K : PySem.W.Frag} {σ : L2.St} {H : Hp} {te : TE} {C : Addr} {E : XK}
theorem KindV.ok {H : Hp} {v : V} {t : Tab} (h : KindV C H v t) : okTab t = true ∧ (namesT t).Nodup ∧ sortedS (namesT t) = true := by
  obtain ⟨_, _, _, _, _, _, _, _, a, b, c⟩ := h
  exact ⟨a, b, c⟩
theorem DictV.ok {H : Hp} {v : V} {t : Tab} (h : DictV H v t) : okTab t = true ∧ (namesT t).Nodup := by
  obtain ⟨_, _, _, _, _, a, b⟩ := h
  exact ⟨b, a⟩
/-- Kind(a dict) -/
theorem ev_mk {t : Tab} (h : Ev te σ H fun v H1 => DictV H1 v t) : Ev (tMake C (sp_init C) [] E (tCons te tNil)) σ H fun v H1 => ∃ t', KindV C H1 v t' ∧ t'.Perm t := fun Q q =>
  h _ fun v H1 e1 hd => by
    obtain ⟨d, kvs, rfl, hd0, ht0, nd, ok⟩ := hd
    exact mk_kind hd0 ht0 ok nd fun v' H' t' e' hk pm => q v' H' (e1.trans e') ⟨t', hk, pm⟩
/-- sorted(a dict): the names of its table, sorted -/
theorem ev_sortD {t t1 : Tab} (h : Ev te σ H fun v H1 => DictV H1 v t) (pm : t1.Perm t) (st : sortedS (namesT t1) = true) : Ev (tCB (fun xs H Q => ∃ (a : Addr) (kvs : List (L2.Key × V)) (ks : List Str), xs = [.ref a] ∧ Rd H a (.dK kvs) ∧ kvs.map (·.1) = ks.map Sum.inr ∧ ks.length < 64 ∧
    ∀ ys p, ys.Perm ks → sortedS ys = true → H p = none → Q (.ref p) (upd H p (.lst (ys.map V.str)))) (tCons te tNil)) σ H fun v H1 => ∃ p, v = .ref p ∧ H p = none ∧ H1 p = some (.lst ((namesT t1).map V.str)) := fun Q q =>
  h _ fun v H1 e1 hd => by
    have f := ok_facts hd.ok.1
    obtain ⟨d, kvs, rfl, hd0, ht0, nd, ok⟩ := hd
    refine ⟨d, kvs, namesT t, rfl, .inl hd0, tabV_keys ht0, by rw [namesT, List.length_map]; omega, fun ys p py sy hp => ?_⟩
    have ey : ys = namesT t1 := sorted_one (py.trans (pm.map (fun e : Str × Row => e.1)).symm) sy st
    subst ey
    exact q _ _ (e1.trans (same_new hp)) ⟨p, rfl, e1.free hp, upd_same⟩
theorem DictV.kl {l : Addr} {H H' : Hp} {d : Addr} {t : Tab} (va : VatV H l) (k : KL l H H') (n : d ≠ l) (h : DictV H (.ref d) t) : DictV H' (.ref d) t := by
  obtain ⟨d2, kvs, e, hd, ht, nd, ok⟩ := h
  cases e
  exact ⟨d, kvs, rfl, k.1 _ _ hd n, ht.mono (KL.tups va k), nd, ok⟩
end
theorem merge_all {κ : Type} [DecidableEq κ] : ∀ (kvs acc : List (κ × V)), ((acc ++ kvs).map (·.1)).Nodup → kvs.foldl (fun acc kv => putK acc kv.1 kv.2) acc = acc ++ kvs
  | [], acc, _ => (List.append_nil acc).symm
  | kv :: r, acc, h => by
    have e : putK acc kv.1 kv.2 = acc ++ [kv] := by
      unfold putK
      have no : (acc.any fun a => decide (a.1 = kv.1)) = false := by
        rw [List.any_eq_false]
        intro a ha
        rw [decide_eq_true_eq]
        rw [List.map_append, List.map_cons, List.nodup_append] at h
        exact h.2.2 _ (List.mem_map.mpr ⟨a, ha, rfl⟩) _ List.mem_cons_self
      rw [no]
      rfl
    rw [List.foldl_cons, e, merge_all r _ (by rw [List.append_assoc]; exact h), List.append_assoc]
    rfl
theorem mergeK_all {kvs : List (L2.Key × V)} (h : (kvs.map (·.1)).Nodup) : mergeK [] kvs = kvs := merge_all kvs [] h
theorem mergeK_snoc {kvs : List (L2.Key × V)} {kv : L2.Key × V} (h : (kvs.map (·.1)).Nodup) : mergeK [] (kvs ++ [kv]) = putK kvs kv.1 kv.2 := by
  unfold mergeK
  rw [List.foldl_append]
  have := mergeK_all h
  unfold mergeK at this
  rw [this]
  rfl
def putT (x : Str) (r : Row) (t : Tab) : Tab := if x ∈ namesT t then t.map (fun e => if e.1 = x then (e.1, r) else e) else t ++ [(x, r)]
theorem tab_any {H : Hp} {kvs : List (L2.Key × V)} {t : Tab} (x : Str) (h : TabV H kvs t) : (kvs.any fun kv => decide (kv.1 = Sum.inr x)) = decide (x ∈ namesT t) := by
  induction h with
  | nil => simp [namesT]
  | @cons kv e kvs t h _ ih =>
    rw [List.any_cons, ih, h.1]
    unfold namesT
    rw [List.map_cons]
    by_cases hx : e.1 = x
    · simp [hx]
    · have h2 : ¬ x = e.1 := fun z => hx z.symm
      simp [hx, h2]
theorem tab_putK {H : Hp} {kvs : List (L2.Key × V)} {t : Tab} {x : Str} {r : Row} {v : V} (h : TabV H kvs t) (hr : RowV H v r) : TabV H (putK kvs (Sum.inr x) v) (putT x r t) := by
  have ea := tab_any x h
  unfold putK putT
  by_cases hx : x ∈ namesT t
  · rw [ea, decide_eq_true hx, if_pos rfl, if_pos hx]
    clear ea hx
    induction h with
    | nil => exact .nil
    | @cons kv e kvs t h _ ih =>
      refine .cons ?_ ih
      dsimp only
      by_cases z : e.1 = x
      · rw [if_pos z, if_pos (by rw [h.1, z])]
        exact ⟨h.1, hr⟩
      · rw [if_neg z, if_neg (fun q => z (Sum.inr.inj (h.1.symm.trans q)))]
        exact h
  · rw [ea, decide_eq_false hx, if_neg (by decide), if_neg hx]
    exact paired_app h ⟨rfl, hr⟩
theorem put_names {x : Str} {r : Row} {t : Tab} : namesT (putT x r t) = if x ∈ namesT t then namesT t else namesT t ++ [x] := by
  unfold putT
  by_cases hx : x ∈ namesT t
  · rw [if_pos hx, if_pos hx]
    unfold namesT
    rw [List.map_map]
    refine List.map_congr_left fun e _ => ?_
    show (if e.1 = x then (e.1, r) else e).1 = e.1
    by_cases z : e.1 = x
    · rw [if_pos z]
    · rw [if_neg z]
  · rw [if_neg hx, if_neg hx]
    unfold namesT
    rw [List.map_append]
    rfl
theorem put_mem {x : Str} {r : Row} {t : Tab} {e : Str × Row} (h : e ∈ putT x r t) : e ∈ t ∨ e = (x, r) := by
  unfold putT at h
  by_cases hx : x ∈ namesT t
  · rw [if_pos hx] at h
    obtain ⟨d, hd, rfl⟩ := List.mem_map.mp h
    by_cases z : d.1 = x
    · rw [if_pos z, z]
      exact .inr rfl
    · rw [if_neg z]
      exact .inl hd
  · rw [if_neg hx] at h
    rcases List.mem_append.mp h with h | h
    · exact .inl h
    · exact .inr (List.mem_singleton.mp h)
/-- what is put stays a table -/
theorem put_ok {x : Str} {r : Row} {t : Tab} (ok : okTab t = true) (nd : (namesT t).Nodup) (hx : okName x = true) (hl : r.length = sizeT t) (hr : ∀ p ∈ r, okPair (sizeT t) p = true) (few : x ∈ namesT t ∨ t.length < 6) : okTab (putT x r t) = true ∧ sizeT (putT x r t) = sizeT t ∧ (namesT (putT x r t)).Nodup := by
  have f := ok_facts ok
  have ln : ∀ u : Tab, u.length = (namesT u).length := fun u => (List.length_map _).symm
  have lp : 1 ≤ (putT x r t).length ∧ (putT x r t).length ≤ 6 := by
    rw [ln, put_names]
    by_cases z : x ∈ namesT t
    · rw [if_pos z, ← ln]
      omega
    · rw [if_neg z, List.length_append, ← ln]
      have := few.resolve_left z
      show 1 ≤ t.length + 1 ∧ t.length + 1 ≤ 6
      omega
  have o := okTab_of (t := putT x r t) lp.1 lp.2 f.2.2.1 f.2.2.2.1 fun e he => by
    rcases put_mem he with he | he
    · exact ⟨f.2.2.2.2 e he, size_of_ok ok e he, fine_ok (fine_of ok he)⟩
    · rw [he]
      exact ⟨hx, hl, hr⟩
  refine ⟨o.1, o.2, ?_⟩
  rw [put_names]
  by_cases z : x ∈ namesT t
  · rw [if_pos z]
    exact nd
  · rw [if_neg z]
    refine List.nodup_append.mpr ⟨nd, List.pairwise_singleton _ _, fun a ha b hb e => z ?_⟩
    rw [List.mem_singleton.mp hb] at e
    rw [← e]
    exact ha
end Tm

/-! Plans: what stands in the heap; _is_team; Plan(kind, start, first, second). -/
namespace Tm
open PySem PySem.Spec PyProof.Rows L2 TmE
local macro_rules | `(tactic| walk_at "x") => `(tactic| dsimp only [tNext, tRet, tSeq, tCall, tCB, tC, tCons, tNil, tAsg, tDrop, sFld])
structure Pl where
  t : Tab
  s : Nat
  f : List Str
  g : List Str
structure Pl.Ok (p : Pl) : Prop where
  s : p.s < sizeT p.t
  f : p.f ≠ []
  g : p.g ≠ []
  few : p.f.length + p.g.length ≤ 6
  all : ∀ x ∈ p.f ++ p.g, x ∈ namesT p.t
abbrev Pl.th (p : Pl) : List Str := p.f ++ p.g
def strV (l : List Str) : List V := l.map V.str
def pflds (k : V) (s : Int) (tm th : Addr) : List (Str × V) := [("_kind", k), ("_start", .int s), ("_teams", .ref tm), ("_threads", .ref th)]
theorem pf_put (k : V) (s : Int) (tm th : Addr) : putF "_threads" (.ref th) (putF "_teams" (.ref tm) (putF "_start" (.int s) (putF "_kind" k []))) = pflds k s tm th := by
  have h1 : ¬ (("_kind" : Str) = "_start") := by decide +kernel
  have h2 : ¬ (("_kind" : Str) = "_teams") := by decide +kernel
  have h3 : ¬ (("_kind" : Str) = "_threads") := by decide +kernel
  have h4 : ¬ (("_start" : Str) = "_teams") := by decide +kernel
  have h5 : ¬ (("_start" : Str) = "_threads") := by decide +kernel
  have h6 : ¬ (("_teams" : Str) = "_threads") := by decide +kernel
  simp [putF, pflds, h1, h2, h3, h4, h5, h6]
theorem pf_K (k : V) (s : Int) (tm th : Addr) : (pflds k s tm th).lookup ("_kind" : Str) = some k := by simp [pflds, List.lookup]
theorem pf_S (k : V) (s : Int) (tm th : Addr) : (pflds k s tm th).lookup ("_start" : Str) = some (.int s) := by
  have h : (("_start" : Str) == ("_kind" : Str)) = false := by decide +kernel
  simp [pflds, List.lookup, h]
theorem pf_M (k : V) (s : Int) (tm th : Addr) : (pflds k s tm th).lookup ("_teams" : Str) = some (.ref tm) := by
  have h : (("_teams" : Str) == ("_kind" : Str)) = false := by decide +kernel
  have h2 : (("_teams" : Str) == ("_start" : Str)) = false := by decide +kernel
  simp [pflds, List.lookup, h, h2]
theorem pf_H (k : V) (s : Int) (tm th : Addr) : (pflds k s tm th).lookup ("_threads" : Str) = some (.ref th) := by
  have h : (("_threads" : Str) == ("_kind" : Str)) = false := by decide +kernel
  have h2 : (("_threads" : Str) == ("_start" : Str)) = false := by decide +kernel
  have h3 : (("_threads" : Str) == ("_teams" : Str)) = false := by decide +kernel
  simp [pflds, List.lookup, h, h2, h3]
theorem pf_no (k : V) (s : Int) (tm th : Addr) {m : Str} (h1 : (m == ("_kind" : Str)) = false := by decide +kernel) (h2 : (m == ("_start" : Str)) = false := by decide +kernel) (h3 : (m == ("_teams" : Str)) = false := by decide +kernel) (h4 : (m == ("_threads" : Str)) = false := by decide +kernel) : (pflds k s tm th).lookup m = none := by
  simp [pflds, List.lookup, h1, h2, h3, h4]
/-- a tuple of texts -/
def TeamV (H : Hp) (v : V) (l : List Str) : Prop := ∃ p, v = .ref p ∧ Rd H p (.tup (strV l))
theorem TeamV.keep {H H' : Hp} {v : V} {l : List Str} (h : TeamV H v l) (e : Same H H') : TeamV H' v l := by
  obtain ⟨p, rfl, h⟩ := h
  exact ⟨p, rfl, rd_keep e h⟩
theorem rd_kl {l a : Addr} {H H' : Hp} {xs : List V} (va : VatV H l) (k : KL l H H') (h : Rd H a (.tup xs)) : Rd H' a (.tup xs) := by
  obtain ⟨_, _, _, e⟩ := va
  have ne : a ≠ l := fun z => by
    rw [z] at h
    rcases h with h | ⟨o, h⟩
    · rw [e] at h
      cases h
    · rw [e] at h
      cases h
  exact h.imp (fun h => k.1 _ _ h ne) fun ⟨o, h⟩ => ⟨o, k.1 _ _ h ne⟩
theorem TeamV.kl {l : Addr} {H H' : Hp} {v : V} {ns : List Str} (va : VatV H l) (k : KL l H H') (h : TeamV H v ns) : TeamV H' v ns := by
  obtain ⟨p, rfl, h⟩ := h
  exact ⟨p, rfl, rd_kl va k h⟩
/-- at v a plan -/
def PlanV (C CP : Addr) (H : Hp) (v : V) (p : Pl) : Prop := ∃ a dx k tm p1 p2 th, v = .ref a ∧ H a = some (.ins CP dx (pflds k p.s tm th)) ∧ KindV C H k p.t ∧ H tm = some (.tup [p1, p2]) ∧ TeamV H p1 p.f ∧ TeamV H p2 p.g ∧ H th = some (.tup (strV p.th)) ∧ p.Ok
theorem PlanV.keep {C CP : Addr} {H H' : Hp} {v : V} {p : Pl} (h : PlanV C CP H v p) (e : Same H H') : PlanV C CP H' v p := by
  obtain ⟨a, dx, k, tm, p1, p2, th, e1, e2, e3, e4, e5, e6, e7, e8⟩ := h
  exact ⟨a, dx, k, tm, p1, p2, th, e1, e _ _ e2, e3.keep e, e _ _ e4, e5.keep e, e6.keep e, e _ _ e7, e8⟩
theorem PlanV.kl {C CP : Addr} {H H' : Hp} {v : V} {p : Pl} {l : Addr} (va : VatV H l) (k : KL l H H') (h : PlanV C CP H v p) : PlanV C CP H' v p := by
  obtain ⟨a, dx, kk, tm, p1, p2, th, e1, e2, e3, e4, e5, e6, e7, e8⟩ := h
  have ne : ∀ {b : Addr} {o : HO}, H b = some o → (∀ xs, o ≠ .lst xs) → b ≠ l := fun e n z => by
    obtain ⟨_, _, _, e'⟩ := va
    rw [z, e'] at e
    cases e
    exact n _ rfl
  exact ⟨a, dx, kk, tm, p1, p2, th, e1, k.1 _ _ e2 (ne e2 fun xs z => by cases z), e3.kl va k, k.1 _ _ e4 (ne e4 fun xs z => by cases z), e5.kl va k, e6.kl va k, k.1 _ _ e7 (ne e7 fun xs z => by cases z), e8⟩
/-- what the class Plan has -/
structure Kp (K : PySem.W.Frag) (C : Addr) : Prop where
  cl : Cls K C
  nK : NoAttr K C "_kind"
  nS : NoAttr K C "_start"
  nM : NoAttr K C "_teams"
  nH : NoAttr K C "_threads"
section
variable {P : Program} {w : World} {K : PySem.W.Frag} {mg : Str → Option Value} {base : Heap} {C CP : Addr}
abbrev s_team : Stmt := top 26
theorem sc_is_team : FnScope ["value", "kind", "name"] ["value", "kind"] (defScope s_team) := ⟨rfl, rfl, rfl, by decide +kernel, rfl, by decide +kernel, by decide +kernel⟩
def sp_team (C : Addr) : Sp := fun vs H Q _ => ∃ (v k : V) (t : Tab) (l : List Str), vs = [v, k] ∧ TeamV H v l ∧ KindV C H k t ∧ l ≠ [] ∧ l.length ≤ 100 ∧ (∀ x ∈ l, x ∈ namesT t) ∧ ∀ H', Same H H' → Q (.bl true) H'
theorem ok_team (B : Bt mg) (O_in : OkIn P w K mg base C 1 ["self", "x"] (sp_cont C)) (D : Df K mg "_is_team" s_team ["value", "kind"]) : Ok P w K mg base "_is_team" 2 ["value", "kind"] (sp_team C) := by
  refine D.ok sc_is_team (fun vs H Q E h => ?_) (fun f cdv A outer s H vs Q E hr h => ?_)
  · obtain ⟨v, k, t, l, rfl, _⟩ := h
    rfl
  · obtain ⟨v, k, t, l, rfl, ⟨p, rfl, hp⟩, hk, nl, few, al, q⟩ := h
    refine ⟨_, pss_cons (ps_if (PW.pt (pw_or (pt_not (pt_val (pe_callB (isiK (K := K)) (by rfl) B.isinstance (by decide +kernel) (pa_cons (pv 0) (pa_cons (pe_ty (n := "tuple") (by rfl) B.tuple (by decide +kernel)) (pa_nil)))))) (pw_or1 (pt_cmpR op_eq (pe_callB (lenK (K := K)) (by rfl) B.len (by decide +kernel) (pa_cons (pv 0) (pa_nil))) (pe_int) (nomark _)))))
        (pss_one (ps_ret (pe_bl)))
        (pss_nil))
      (pss_one (ps_ret (pe_callB (allK (K := K)) (by rfl) B.all (by decide +kernel) (pa_cons (pe_lc (own := [("name", 2)]) (g := gName 2) (tt := tYes) rfl sc_is_team.nd (piT (K := K) (pv 0)) (blkOk_by (own := [("name", 2)]) (N := ["value", "kind", "name"]) (sc := defScope s_team) (by decide +kernel)) (fun _ _ _ _ _ => pg_name (i := 2) sc_is_team.nd rfl (.inl rfl)) (fun _ _ _ _ _ => pts_nil) (fun _ _ _ _ _ => pe_cmpR (O_in.isIn hr) (pv 2) (pv 1) rfl)) (pa_nil))))), ?_⟩
    have lp : 1 ≤ l.length := List.length_pos_iff.mpr nl
    have ty : TyX K H (.ref p) (.type "tuple") := hp.elim (fun h => .base (.tup h)) (fun ⟨_, h⟩ => .fTuple h)
    refine ⟨_, rfl, .ref p, .ty "tuple", _, _, true, rfl, .ty "tuple", ty, kit_ty (by decide +kernel), _, rfl, ?_⟩
    refine ifF rfl ?_
    refine ⟨_, rfl, p, _, rfl, .inr (.inl hp), rfl, _, rfl, ifF (by unfold strV; rw [List.length_map]; exact decide_eq_false fun z => by have := V.int.inj z; omega) ?_⟩
    dsimp only [tNext]
    walk_at "x"
    refine lc_runT (K := K) (xs := strV l) (ev_is rfl ⟨p, rfl, .inl hp⟩) l (by unfold strV; rw [List.length_map]) (fun _ => true) (fun z v _ => v = V.bl true) (by omega) (by intro _; rfl) (fun _ _ _ _ _ h => h)
      (fun i z v H1 hi y e => ⟨evt_yes, fun _ H3 e3 Q q => ?_⟩) (fun p H1 ys hp e hl' hP => ?_)
    · have hv : v = .str z := by
        unfold strV at y
        rw [List.getElem?_map, hi] at y
        exact (Option.some.inj y).symm
      subst hv
      have hk3 := hk.keep (e.trans e3)
      obtain ⟨a, dx, _, _, rfl, ha, _⟩ := id hk3
      exact ⟨_, rfl, _, rfl, a, dx, _, rfl, ha, .ref a, t, z, rfl, hk3, _, rfl, q _ _ (Same.refl _) (by rw [decide_eq_true (al z (List.mem_of_getElem? hi))]; rfl)⟩
    · rw [filter_all] at hP
      have ey : ys = (l.map fun _ => true).map V.bl := by
        rw [paired_fun hP, List.map_map]
        rfl
      rw [ey] at hl'
      refine ⟨p, _, rfl, SqL.of hl', ?_⟩
      rw [show (l.map fun _ => true).all id = true by simp]
      exact q H1 e
/-! ### Plan(..) -/
abbrev s_pinit : Stmt := inClass (top 27) 0
theorem sc_pinit : FnScope ["self", "kind", "start", "first", "second"] ["self", "kind", "start", "first", "second"] (defScope s_pinit) := ⟨rfl, rfl, rfl, by decide +kernel, rfl, by decide +kernel, by decide +kernel⟩
def sp_pinit (C CP : Addr) : Sp := fun vs H Q _ => ∃ (a dx : Addr) (k p1 p2 : V) (p : Pl), vs = [.ref a, k, .int (p.s : Int), p1, p2] ∧ H a = some (.ins CP dx []) ∧ KindV C H k p.t ∧ TeamV H p1 p.f ∧ TeamV H p2 p.g ∧ p.Ok ∧
  ∀ H', PlanV C CP H' (.ref a) p → (∀ b o, b ≠ a → H b = some o → H' b = some o) → Q .non H'
theorem ok_pinit (B : Bt mg) (hM : GV mg "MAX_THREADS" (.int 6)) (T : Kc K C) (TP : Kp K CP) (O_need_kind : Ok P w K mg base "need_kind" 1 ["value"] (sp_needkind C)) (O_is_number_in : Ok P w K mg base "is_number_in" 1 ["value", "least", "most"] sp_num) (OP_size : OkP P w K mg base C "size" 1 (sp_size C)) (O_is_team : Ok P w K mg base "_is_team" 2 ["value", "kind"] (sp_team C))
    (D : DfC K mg "Plan" CP "Plan.__init__" s_pinit ["self", "kind", "start", "first", "second"]) : OkC P w K mg base "Plan" CP 4 ["self", "kind", "start", "first", "second"] (sp_pinit C CP) := by
  refine D.ok sc_pinit (fun vs H Q E h => ?_) (fun f cdv A outer s H vs Q E hr h => ?_)
  · obtain ⟨a, dx, k, p1, p2, p, rfl, _⟩ := h
    rfl
  · obtain ⟨a, dx, k, p1, p2, p, rfl, ha, hk, h1, h2, ok, q⟩ := h
    refine ⟨_, pss_cons (ps_expr (O_need_kind.call hr (ha := pa_cons (pv 1) (pa_nil))))
      (pss_cons (ps_if (pt_not (pt_val (O_is_number_in.call hr (ha := pa_cons (pv 2) (pa_cons (pe_int) (pa_cons (pe_op op_sub (OP_size.get hr T.cl (he := pv 1)) (pe_int)) (pa_nil)))))))
        (pss_one (ps_never))
        (pss_nil))
      (pss_cons (ps_if (PW.pt (pw_or (pt_not (pt_val (O_is_team.call hr (ha := pa_cons (pv 3) (pa_cons (pv 1) (pa_nil)))))) (pw_or (pt_not (pt_val (O_is_team.call hr (ha := pa_cons (pv 4) (pa_cons (pv 1) (pa_nil)))))) (pw_or1 (pt_cmpR op_gt (pe_op op_add (pe_callB (lenK (K := K)) (by rfl) B.len (by decide +kernel) (pa_cons (pv 3) (pa_nil))) (pe_callB (lenK (K := K)) (by rfl) B.len (by decide +kernel) (pa_cons (pv 4) (pa_nil)))) hM.pe (nomark _))))))
        (pss_one (ps_never))
        (pss_nil))
      (pss_cons (ps_fld (pv 0) (pv 1) rfl)
      (pss_cons (ps_fld (pv 0) (pv 2) rfl)
      (pss_cons (ps_fld (pv 0) (pe_tup (pa_cons (pv 3) (pa_cons (pv 4) (pa_nil)))) rfl)
      (pss_one (ps_fld (pv 0) (pe_op op_catT (pv 3) (pv 4)) rfl))))))), ?_⟩
    obtain ⟨ka, kdx, kd, kkv, rfl, hka, _⟩ := id hk
    refine ⟨_, rfl, _, p.t, rfl, hk, ?_⟩
    dsimp only [tSeq]
    refine ⟨_, rfl, _, rfl, ka, kdx, _, rfl, hka, .ref ka, p.t, rfl, hk, _, _, rfl, rfl, _, _, _, rfl, _, rfl, ?_⟩
    refine ifF (by have := ok.s; rw [decide_eq_true (show (0 : Int) ≤ (p.s : Int) by omega), decide_eq_true (show (p.s : Int) ≤ (sizeT p.t : Int) - 1 by omega)]; rfl) ?_
    dsimp only [tNext, tSeq, tIfS, tOr, tNot, tB]
    have few := ok.few
    refine ⟨_, rfl, _, rfl, p1, .ref ka, p.t, p.f, rfl, h1, hk, ok.f, by omega, fun x hx => ok.all x (List.mem_append_left _ hx), fun H1 e1 => ⟨_, rfl, ifF rfl ?_⟩⟩
    refine ⟨_, rfl, _, rfl, p2, .ref ka, p.t, p.g, rfl, h2.keep e1, hk.keep e1, ok.g, by omega, fun x hx => ok.all x (List.mem_append_right _ hx), fun H2 e2 => ⟨_, rfl, ifF rfl ?_⟩⟩
    have e12 := e1.trans e2
    obtain ⟨q1, rfl, hq1⟩ := h1.keep e12
    obtain ⟨q2, rfl, hq2⟩ := h2.keep e12
    refine ⟨_, rfl, q1, _, rfl, .inr (.inl hq1), _, rfl, q2, _, rfl, .inr (.inl hq2), _, _, rfl, rfl, ?_⟩
    refine ⟨_, _, rfl, rfl, _, rfl, ifF ?_ ?_⟩
    · unfold strV
      rw [List.length_map, List.length_map]
      exact decide_eq_false fun z => by omega
    try dsimp only [tNext]
    have sa := e12 _ _ ha
    refine ⟨_, rfl, _, rfl, a, CP, dx, [], rfl, sa, TP.cl, TP.nK, by show 0 < 1000; decide, ?_⟩
    have f3 : ∀ b o, b ≠ a → H2 b = some o → upd H2 a (.ins CP dx (putF "_kind" (.ref ka) [])) b = some o := fun b o n e => (upd_ne n).trans e
    have a3 : upd H2 a (.ins CP dx (putF "_kind" (.ref ka) [])) a = some (.ins CP dx (putF "_kind" (.ref ka) [])) := upd_same
    generalize upd H2 a (.ins CP dx (putF "_kind" (.ref ka) [])) = H3 at f3 a3
    try dsimp only [tSeq]
    refine ⟨_, rfl, _, rfl, a, CP, dx, _, rfl, a3, TP.cl, TP.nS, by show 1 < 1000; decide, ?_⟩
    have f4 : ∀ b o, b ≠ a → H2 b = some o → upd H3 a (.ins CP dx (putF "_start" (.int (p.s : Int)) (putF "_kind" (.ref ka) []))) b = some o := fun b o n e => (upd_ne n).trans (f3 b o n e)
    have a4 : upd H3 a (.ins CP dx (putF "_start" (.int (p.s : Int)) (putF "_kind" (.ref ka) []))) a = some (.ins CP dx (putF "_start" (.int (p.s : Int)) (putF "_kind" (.ref ka) []))) := upd_same
    generalize upd H3 a (.ins CP dx (putF "_start" (.int (p.s : Int)) (putF "_kind" (.ref ka) []))) = H4 at f4 a4
    try dsimp only [tSeq]
    refine ⟨_, rfl, _, rfl, by show 2 ≤ sizeLine; decide, fun tm htm => ?_⟩
    have e5 : Same H4 (upd H4 tm (.tup [.ref q1, .ref q2])) := same_new htm
    have t5 : upd H4 tm (.tup [.ref q1, .ref q2]) tm = some (.tup [.ref q1, .ref q2]) := upd_same
    have tma : tm ≠ a := fun z => by
      rw [z, a4] at htm
      cases htm
    show (fun H5 => _) (upd H4 tm (.tup [.ref q1, .ref q2]))
    generalize upd H4 tm (.tup [.ref q1, .ref q2]) = H5 at e5 t5
    refine ⟨_, rfl, a, CP, dx, _, rfl, e5 _ _ a4, TP.cl, TP.nM, by show 2 < 1000; decide, ?_⟩
    have f6 : ∀ b o, b ≠ a → H2 b = some o → upd H5 a (.ins CP dx (putF "_teams" (.ref tm) (putF "_start" (.int (p.s : Int)) (putF "_kind" (.ref ka) [])))) b = some o := fun b o n e => (upd_ne n).trans (e5 _ _ (f4 b o n e))
    have a6 : upd H5 a (.ins CP dx (putF "_teams" (.ref tm) (putF "_start" (.int (p.s : Int)) (putF "_kind" (.ref ka) [])))) a = some (.ins CP dx (putF "_teams" (.ref tm) (putF "_start" (.int (p.s : Int)) (putF "_kind" (.ref ka) [])))) := upd_same
    have t6 : upd H5 a (.ins CP dx (putF "_teams" (.ref tm) (putF "_start" (.int (p.s : Int)) (putF "_kind" (.ref ka) [])))) tm = some (.tup [.ref q1, .ref q2]) := (upd_ne tma).trans t5
    generalize upd H5 a (.ins CP dx (putF "_teams" (.ref tm) (putF "_start" (.int (p.s : Int)) (putF "_kind" (.ref ka) [])))) = H6 at f6 a6 t6
    try dsimp only [tSeq]
    have na : ∀ {b : Addr} {xs : List V}, Rd H2 b (.tup xs) → b ≠ a := fun {b xs} r z => by
      rw [z] at r
      rcases r with r | ⟨o, r⟩
      · rw [sa] at r
        cases r
      · rw [sa] at r
        cases r
    have r6 : ∀ {b : Addr} {xs : List V}, Rd H2 b (.tup xs) → Rd H6 b (.tup xs) := fun {b xs} r => by
      have n := na r
      exact r.imp (fun r => f6 _ _ n r) fun ⟨o, r⟩ => ⟨o, f6 _ _ n r⟩
    refine ⟨_, rfl, _, rfl, q1, q2, _, _, rfl, rfl, .inl (r6 hq1), .inl (r6 hq2), ?_⟩
    refine ⟨fun z => ok.f (List.map_eq_nil_iff.mp z), ?_, fun z => absurd (List.map_eq_nil_iff.mp z) ok.g, fun _ th hth => ?_⟩
    · unfold strV
      rw [List.length_map, List.length_map]
      exact Nat.le_trans few (by show 6 ≤ sizeLine; decide)
    have e7 : Same H6 (upd H6 th (.tup (strV p.f ++ strV p.g))) := same_new hth
    have t7 : upd H6 th (.tup (strV p.f ++ strV p.g)) th = some (.tup (strV p.f ++ strV p.g)) := upd_same
    have tha : th ≠ a := fun z => by
      rw [z, a6] at hth
      cases hth
    generalize upd H6 th (.tup (strV p.f ++ strV p.g)) = H7 at e7 t7
    refine ⟨_, rfl, a, CP, dx, _, rfl, e7 _ _ a6, TP.cl, TP.nH, by show 3 < 1000; decide, ?_⟩
    have f8 : ∀ b o, b ≠ a → H2 b = some o → upd H7 a (.ins CP dx (putF "_threads" (.ref th) (putF "_teams" (.ref tm) (putF "_start" (.int (p.s : Int)) (putF "_kind" (.ref ka) []))))) b = some o := fun b o n e => (upd_ne n).trans (e7 _ _ (f6 b o n e))
    have a8 : upd H7 a (.ins CP dx (putF "_threads" (.ref th) (putF "_teams" (.ref tm) (putF "_start" (.int (p.s : Int)) (putF "_kind" (.ref ka) []))))) a = some (.ins CP dx (pflds (.ref ka) p.s tm th)) := by rw [upd_same, pf_put]
    have t8 : upd H7 a (.ins CP dx (putF "_threads" (.ref th) (putF "_teams" (.ref tm) (putF "_start" (.int (p.s : Int)) (putF "_kind" (.ref ka) []))))) tm = some (.tup [.ref q1, .ref q2]) := (upd_ne tma).trans (e7 _ _ t6)
    have s8 : upd H7 a (.ins CP dx (putF "_threads" (.ref th) (putF "_teams" (.ref tm) (putF "_start" (.int (p.s : Int)) (putF "_kind" (.ref ka) []))))) th = some (.tup (strV p.f ++ strV p.g)) := (upd_ne tha).trans t7
    generalize upd H7 a (.ins CP dx (putF "_threads" (.ref th) (putF "_teams" (.ref tm) (putF "_start" (.int (p.s : Int)) (putF "_kind" (.ref ka) []))))) = H8 at f8 a8 t8 s8
    have r8 : ∀ {b : Addr} {xs : List V}, Rd H2 b (.tup xs) → Rd H8 b (.tup xs) := fun {b xs} r => by
      have n := na r
      exact r.imp (fun r => f8 _ _ n r) fun ⟨o, r⟩ => ⟨o, f8 _ _ n r⟩
    have hk8 : KindV C H8 (.ref ka) p.t := by
      obtain ⟨b, bdx, bd, bkv, eb, hb, hbd, hbt, okb⟩ := hk.keep e12
      have nb : ∀ {b : Addr} {o : HO}, H2 b = some o → o ≠ .ins CP dx [] → b ≠ a := fun h n z => by
        rw [z, sa] at h
        exact n (Option.some.inj h).symm
      refine ⟨b, bdx, bd, bkv, eb, f8 _ _ (nb hb fun z => ?_) hb, f8 _ _ (nb hbd fun z => by cases z) hbd, hbt.mono fun c xs hc => f8 _ _ (nb hc fun z => by cases z) hc, okb⟩
      have := (HO.ins.inj z).2.2
      cases this
    refine q H8 ⟨a, dx, .ref ka, tm, .ref q1, .ref q2, th, rfl, a8, hk8, t8, ⟨q1, rfl, r8 hq1⟩, ⟨q2, rfl, r8 hq2⟩, ?_, ok⟩ fun b o n e => f8 b o n (e12 _ _ e)
    rw [s8]
    unfold strV
    rw [List.map_append]
end
end Tm

/-! sorted(a tuple of whole numbers); a plan's properties; len; ==. -/
namespace Tm
open PySem PySem.Spec PyProof.Rows L2 TmE
local macro_rules | `(tactic| walk_at "x") => `(tactic| dsimp only [tNext, tRet, tSeq, tCall, tCB, tC, tCons, tNil, tAsg, tDrop, sFld])
def rSortTu (K : PySem.W.Frag) : List V → Hp → VK → Prop := fun vs H Q => ∃ (a : Addr) (ns : List Int), vs = [V.ref a] ∧ SqT K H a (ns.map V.int) ∧ ns.length < 64 ∧ ∀ (ys : List Int) (p : Addr), ys.Perm ns → ys.Pairwise (· ≤ ·) → H p = none → Q (.ref p) (upd H p (.lst (ys.map V.int)))
theorem cr_sortTu {X : Cx} {K : PySem.W.Frag} (hK : X.K = K := by rfl) : CallR X (.builtin "sorted") (rSortTu K) := by
  subst hK
  intro pins s σ H vs us Q I r h
  obtain ⟨a, ns, rfl, hs, h64, q⟩ := h
  obtain ⟨its, rv, pl, _⟩ := I.tuple hs
  rw [Vals.ref1 r]
  have hi := rv.ints
  have hl : its.length = ns.length := hi.length
  obtain ⟨o, ho, hc, n, hd⟩ := id pl
  have z16 : its.length ≤ sizeLine := by rw [hl, sizeLine_eq]; omega
  refine Calls.call_function_entry kind_sorted plain_sorted entry_sorted (args_sorted1 _) ?_
  unfold Builtin.«sorted»
  refine wpAny_bind (m := checkCount "sorted" 1 1 _) (wpAny_pure ?_)
  refine wpAny_bind (wpAny_collect_seq a (.inr rfl) ho hc hd (fun g keep => ?_) (by simpa using z16))
  have e1 : its.toArray.toList = its := by simp
  rw [e1]
  have J : Inv X pins σ H { s with heap := g } := I.kept (t' := s.toks) keep
  refine wpAny_bind (wpAny_newList ?_ z16)
  have at_ : (g.push (seqObj "list" its.toArray 0)).get? g.objs.size = some (seqObj "list" its.toArray 0) := Heap.get?_push_size _ rfl
  show wpAny _ _ _ _ _ { s with heap := g.push (seqObj "list" its.toArray 0) }
  refine wpAny_bind (wpAny_holding (wpAny_call_entry slot_list_sort ⟨_, at_, rfl⟩ entry_list_sort (list_sort_tree (s := { s with heap := g.push (seqObj "list" its.toArray 0) }) at_ hi (by rw [hl]; exact h64) fun out ys g1 g2 g3 => ⟨_, rfl, ?_⟩) (args_list_sort _)))
  obtain ⟨e', he'⟩ := sortedHeap_at (vs := its) (out := out) at_
  have few : (ys.map V.int).length ≤ sizeLine := by
    rw [List.length_map, g2.length_eq, ← hl]
    exact z16
  have new : ObjOk X.prog X.w (upd H g.objs.size (.lst (ys.map V.int))) (sortedHeap (g.push (seqObj "list" its.toArray 0)) g.objs.size its out) g.objs.size (.lst (ys.map V.int)) := ⟨few, out.toList, e', vals_of_ints g1, by rw [Array.toArray_toList]; exact he'⟩
  refine wpAny_pure ⟨_, rfl, .ref g.objs.size, _, J.laid (t' := s.toks) (fun b u e => ?_) (Nat.le_refl _) new, rfl, q ys _ g2 g3 (J.hok.fresh (Nat.le_refl _))⟩
  have hb : b < g.objs.size := Heap.lt_size e
  have hb2 : b < (g.push (seqObj "list" its.toArray 0)).objs.size := by rw [size_push']; exact Nat.lt_succ_of_lt hb
  exact (sortedHeap_old (Nat.ne_of_lt hb) hb2).trans (Heap.get?_push_of_some _ e)
/-! ### Plan(..) as a term -/
theorem mk_plan {C CP : Addr} {H : Hp} {k p1 p2 : V} {p : Pl} {Q : VK} {E : XK} (hk : KindV C H k p.t) (h1 : TeamV H p1 p.f) (h2 : TeamV H p2 p.g) (ok : p.Ok) (q : ∀ v H', Same H H' → PlanV C CP H' v p → Q v H') :
    ∀ x dx, H x = none → H dx = none → dx ≠ x → sp_pinit C CP (V.ref x :: ([k, .int (p.s : Int), p1, p2] ++ [])) (upd (upd H dx (.own x)) x (.ins CP dx [])) (fun v H2 => v = V.non ∧ Q (V.ref x) H2) E := fun x dx nx ndx hne => by
  have e1 : Same H (upd (upd H dx (.own x)) x (.ins CP dx [])) := (same_new ndx).trans (same_new ((upd_ne hne.symm).trans nx))
  refine ⟨x, dx, k, p1, p2, p, rfl, upd_same, hk.keep e1, h1.keep e1, h2.keep e1, ok, fun H' pv fr => ⟨rfl, q _ H' (fun b o e => ?_) pv⟩⟩
  have nb : b ≠ x := fun z => by
    rw [z, nx] at e
    cases e
  exact fr b o nb (e1 _ _ e)
section
variable {K : PySem.W.Frag} {C CP : Addr} {σ : L2.St} {H : Hp} {tk ts t1 t2 : TE} {E : XK} {p : Pl}
theorem ev_plan (hk : Ev tk σ H fun v H1 => KindV C H1 v p.t) (hs : ∀ H1, Same H H1 → Ev ts σ H1 fun v _ => v = .int (p.s : Int)) (h1 : ∀ H1, Same H H1 → Ev t1 σ H1 fun v H2 => TeamV H2 v p.f) (h2 : ∀ H1, Same H H1 → Ev t2 σ H1 fun v H2 => TeamV H2 v p.g) (ok : p.Ok) :
    Ev (tMake CP (sp_pinit C CP) [] E (tCons tk (tCons ts (tCons t1 (tCons t2 tNil))))) σ H fun v H1 => PlanV C CP H1 v p := fun Q q =>
  hk _ fun v H1 e1 k1 => hs H1 e1 _ fun v2 H2 e2 k2 => by
    subst k2
    exact h1 H2 (e1.trans e2) _ fun v3 H3 e3 k3 => h2 H3 (e1.trans (e2.trans e3)) _ fun v4 H4 e4 k4 => mk_plan (Q := Q) (k1.keep (e2.trans (e3.trans e4))) (k3.keep e4) k4 ok fun v H' e' pv => q v H' (e1.trans (e2.trans (e3.trans (e4.trans e')))) pv
end
section
variable {P : Program} {w : World} {K : PySem.W.Frag} {mg : Str → Option Value} {base : Heap} {C CP : Addr}
abbrev s_pkind : Stmt := inClass (top 27) 1
abbrev s_pstart : Stmt := inClass (top 27) 2
abbrev s_pteams : Stmt := inClass (top 27) 3
abbrev s_pthreads : Stmt := inClass (top 27) 4
abbrev s_plen : Stmt := inClass (top 27) 18
abbrev s_peq : Stmt := inClass (top 27) 19
theorem sc_pkind : FnScope ["self"] ["self"] (defScope s_pkind) := ⟨rfl, rfl, rfl, by decide +kernel, rfl, by decide +kernel, by decide +kernel⟩
theorem sc_pstart : FnScope ["self"] ["self"] (defScope s_pstart) := ⟨rfl, rfl, rfl, by decide +kernel, rfl, by decide +kernel, by decide +kernel⟩
theorem sc_pteams : FnScope ["self"] ["self"] (defScope s_pteams) := ⟨rfl, rfl, rfl, by decide +kernel, rfl, by decide +kernel, by decide +kernel⟩
theorem sc_pthreads : FnScope ["self"] ["self"] (defScope s_pthreads) := ⟨rfl, rfl, rfl, by decide +kernel, rfl, by decide +kernel, by decide +kernel⟩
theorem sc_plen : FnScope ["self"] ["self"] (defScope s_plen) := ⟨rfl, rfl, rfl, by decide +kernel, rfl, by decide +kernel, by decide +kernel⟩
theorem sc_peq : FnScope ["self", "other"] ["self", "other"] (defScope s_peq) := ⟨rfl, rfl, rfl, by decide +kernel, rfl, by decide +kernel, by decide +kernel⟩
def sp_pkind (C CP : Addr) : Sp := fun vs H Q _ => ∃ (v : V) (p : Pl), vs = [v] ∧ PlanV C CP H v p ∧ ∀ k, KindV C H k p.t → Q k H
def sp_pstart (C CP : Addr) : Sp := fun vs H Q _ => ∃ (v : V) (p : Pl), vs = [v] ∧ PlanV C CP H v p ∧ Q (.int (p.s : Int)) H
def sp_pteams (C CP : Addr) : Sp := fun vs H Q _ => ∃ (v : V) (p : Pl), vs = [v] ∧ PlanV C CP H v p ∧ ∀ tm p1 p2, H tm = some (.tup [p1, p2]) → TeamV H p1 p.f → TeamV H p2 p.g → Q (.ref tm) H
def sp_pthreads (C CP : Addr) : Sp := fun vs H Q _ => ∃ (v : V) (p : Pl), vs = [v] ∧ PlanV C CP H v p ∧ ∀ th, H th = some (.tup (strV p.th)) → Q (.ref th) H
theorem ok_pkind (TP : Kp K CP) (D : DfP K CP "kind" "Plan.kind" s_pkind) : OkP P w K mg base CP "kind" 1 (sp_pkind C CP) := by
  refine D.ok sc_pkind (fun vs H Q E h => ?_) (fun f cdv A outer s H vs Q E hr h => ?_)
  · obtain ⟨v, p, rfl, _⟩ := h
    rfl
  · obtain ⟨v, p, rfl, ⟨a, dx, k, tm, p1, p2, th, rfl, ha, hk, _⟩, q⟩ := h
    exact ⟨_, pss_one (ps_ret (pe_fld (pv 0) rfl)), _, rfl, a, CP, dx, _, _, rfl, ha, TP.cl, TP.nK, pf_K _ _ _ _, q k hk⟩
theorem ok_pstart (TP : Kp K CP) (D : DfP K CP "start" "Plan.start" s_pstart) : OkP P w K mg base CP "start" 1 (sp_pstart C CP) := by
  refine D.ok sc_pstart (fun vs H Q E h => ?_) (fun f cdv A outer s H vs Q E hr h => ?_)
  · obtain ⟨v, p, rfl, _⟩ := h
    rfl
  · obtain ⟨v, p, rfl, ⟨a, dx, k, tm, p1, p2, th, rfl, ha, _⟩, q⟩ := h
    exact ⟨_, pss_one (ps_ret (pe_fld (pv 0) rfl)), _, rfl, a, CP, dx, _, _, rfl, ha, TP.cl, TP.nS, pf_S _ _ _ _, q⟩
theorem ok_pteams (TP : Kp K CP) (D : DfP K CP "teams" "Plan.teams" s_pteams) : OkP P w K mg base CP "teams" 1 (sp_pteams C CP) := by
  refine D.ok sc_pteams (fun vs H Q E h => ?_) (fun f cdv A outer s H vs Q E hr h => ?_)
  · obtain ⟨v, p, rfl, _⟩ := h
    rfl
  · obtain ⟨v, p, rfl, ⟨a, dx, k, tm, p1, p2, th, rfl, ha, hk, htm, h1, h2, _⟩, q⟩ := h
    exact ⟨_, pss_one (ps_ret (pe_fld (pv 0) rfl)), _, rfl, a, CP, dx, _, _, rfl, ha, TP.cl, TP.nM, pf_M _ _ _ _, q tm p1 p2 htm h1 h2⟩
theorem ok_pthreads (TP : Kp K CP) (D : DfP K CP "threads" "Plan.threads" s_pthreads) : OkP P w K mg base CP "threads" 1 (sp_pthreads C CP) := by
  refine D.ok sc_pthreads (fun vs H Q E h => ?_) (fun f cdv A outer s H vs Q E hr h => ?_)
  · obtain ⟨v, p, rfl, _⟩ := h
    rfl
  · obtain ⟨v, p, rfl, ⟨a, dx, k, tm, p1, p2, th, rfl, ha, hk, htm, h1, h2, hth, _⟩, q⟩ := h
    exact ⟨_, pss_one (ps_ret (pe_fld (pv 0) rfl)), _, rfl, a, CP, dx, _, _, rfl, ha, TP.cl, TP.nH, pf_H _ _ _ _, q th hth⟩
def sp_plen (C CP : Addr) : Sp := fun vs H Q _ => ∃ (v : V) (p : Pl), vs = [v] ∧ PlanV C CP H v p ∧ Q (.int (p.th.length : Int)) H
theorem ok_plen (B : Bt mg) (TP : Kp K CP) (D : DfS K CP "__len__" "Plan.__len__" s_plen ["self"]) : OkS P w K mg base CP "__len__" 1 ["self"] (sp_plen C CP) := by
  refine D.ok sc_plen (fun vs H Q E h => ?_) (fun f cdv A outer s H vs Q E hr h => ?_)
  · obtain ⟨v, p, rfl, _⟩ := h
    rfl
  · obtain ⟨v, p, rfl, ⟨a, dx, k, tm, p1, p2, th, rfl, ha, hk, htm, h1, h2, hth, _⟩, q⟩ := h
    refine ⟨_, pss_one (ps_ret (pe_callB (lenK (K := K)) (by rfl) B.len (by decide +kernel) (pa_cons (pe_fld (pv 0) rfl) (pa_nil)))), ?_⟩
    refine ⟨_, rfl, a, CP, dx, _, _, rfl, ha, TP.cl, TP.nH, pf_H _ _ _ _, th, _, rfl, .inr (SqT.of hth), ?_⟩
    rw [show (strV p.th).length = p.th.length from List.length_map _]
    exact q
end
end Tm

/-! Plan.__eq__ (equal ones), is_order (orders), played. -/
namespace Tm
open PySem PySem.Spec PyProof.Rows L2 TmE
local macro_rules | `(tactic| walk_at "x") => `(tactic| dsimp only [tNext, tRet, tSeq, tCall, tCB, tC, tCons, tNil, tAsg, tDrop, sFld])
def teamD (l : List Str) : PyData := .tuple (l.map .str)
theorem nice_team {l : List Str} (h : l.all PyData.strOk = true) : Nice 1 (teamD l) := nice_strsT h
theorem TeamV.dp {K : PySem.W.Frag} {H : Hp} {v : V} {l : List Str} (h : TeamV H v l) : Dp K H v (teamD l) := by
  obtain ⟨p, rfl, h⟩ := h
  exact .tup (.inl h) (dp_strs l)
def teamsD (p : Pl) : PyData := .tuple [teamD p.f, teamD p.g]
def Pl.So (p : Pl) : Prop := (namesT p.t).all PyData.strOk = true
theorem Pl.soF {p : Pl} (h : p.So) (ok : p.Ok) : p.f.all PyData.strOk = true ∧ p.g.all PyData.strOk = true := by
  unfold Pl.So at h
  rw [List.all_eq_true] at h
  exact ⟨List.all_eq_true.mpr fun x hx => h x (ok.all x (List.mem_append_left _ hx)), List.all_eq_true.mpr fun x hx => h x (ok.all x (List.mem_append_right _ hx))⟩
theorem nice_teams {p : Pl} (h : p.So) (ok : p.Ok) : Nice 2 (teamsD p) := .tuple fun d hd => by
  obtain ⟨h1, h2⟩ := p.soF h ok
  rcases List.mem_cons.mp hd with z | z
  · rw [z]
    exact nice_team h1
  · rw [List.mem_singleton.mp z]
    exact nice_team h2
section
variable {P : Program} {w : World} {K : PySem.W.Frag} {mg : Str → Option Value} {base : Heap} {C CP : Addr}
def sp_peq (C CP : Addr) : Sp := fun vs H Q _ => ∃ (v u : V) (p : Pl), vs = [v, u] ∧ PlanV C CP H v p ∧ PlanV C CP H u p ∧ p.So ∧ Q (.bl true) H
theorem ok_peq (B : Bt mg) (TP : Kp K CP) (TE : KcE K CP) (gP : mg "Plan" = some (.ref CP)) (OS_eq : OkS P w K mg base C "__eq__" 1 ["self", "other"] (sp_keq C)) (D : DfS K CP "__eq__" "Plan.__eq__" s_peq ["self", "other"]) : OkS P w K mg base CP "__eq__" 2 ["self", "other"] (sp_peq C CP) := by
  refine D.ok sc_peq (fun vs H Q E h => ?_) (fun f cdv A outer s H vs Q E hr h => ?_)
  · obtain ⟨v, u, p, rfl, _⟩ := h
    rfl
  · obtain ⟨v, u, p, rfl, ⟨a, dx, k, tm, p1, p2, th, rfl, ha, hk, htm, h1, h2, hth, ok⟩, ⟨b, dy, k', tm', p1', p2', th', rfl, hb, hk', htm', h1', h2', hth', _⟩, so, q⟩ := h
    have hu64 : (A.deeper (envOfC "Plan.__eq__" (defScope s_peq) s.heap.objs.size f cdv)).units + 64 < cLine := by
      have := hr.un
      omega
    refine ⟨_, pss_cons (ps_if (pt_not (pt_val (pe_callB (isiK (K := K)) (by rfl) B.isinstance (by decide +kernel) (pa_cons (pv 1) (pa_cons (pe_glob (v := .ref CP) (by rfl) gP rfl) (pa_nil))))))
        (pss_one (ps_ret (pe_bl)))
        (pss_nil))
      (pss_one (ps_ret (pe_and (pe_cmpR (op_eqO OS_eq (hr.mono (by decide))) (pe_fld (pv 0) rfl) (pe_fld (pv 1) rfl) (nomark _)) (pe_and (pe_cmpR op_eq (pe_fld (pv 0) rfl) (pe_fld (pv 1) rfl) (nomark _)) (pe_one (pe_cmpR (op_eqD hu64) (pe_fld (pv 0) rfl) (pe_fld (pv 1) rfl) (nomark _))))))), ?_⟩
    refine ⟨_, rfl, _, .ref CP, _, _, true, rfl, .own CP, .base (.ins hb TP.cl TE.cla TE.cg TE.ct TE.mr), TE.is_, _, rfl, ?_⟩
    refine ifF rfl ?_
    try dsimp only [tNext]
    obtain ⟨ka, kdx, _, _, rfl, hka, _⟩ := id hk
    obtain ⟨kb, kdy, _, _, rfl, hkb, _⟩ := id hk'
    refine ⟨_, rfl, a, CP, dx, _, _, rfl, ha, TP.cl, TP.nK, pf_K _ _ _ _, _, rfl, b, CP, dy, _, _, rfl, hb, TP.cl, TP.nK, pf_K _ _ _ _, ?_⟩
    refine ⟨ka, kb, kdx, kdy, _, _, rfl, rfl, hka, hkb, _, _, _, _, rfl, hk, hk', _, rfl, _, rfl, ?_⟩
    refine ifT (same_self _) ?_
    refine ⟨_, rfl, a, CP, dx, _, _, rfl, ha, TP.cl, TP.nS, pf_S _ _ _ _, _, rfl, b, CP, dy, _, _, rfl, hb, TP.cl, TP.nS, pf_S _ _ _ _, rfl, _, rfl, ifT (decide_eq_true rfl) ?_⟩
    refine ⟨_, rfl, a, CP, dx, _, _, rfl, ha, TP.cl, TP.nM, pf_M _ _ _ _, _, rfl, b, CP, dy, _, _, rfl, hb, TP.cl, TP.nM, pf_M _ _ _ _, ?_⟩
    have n := nice_teams so ok
    refine ⟨teamsD p, teamsD p, .tup (SqT.of htm) (.cons h1.dp (.cons h2.dp .nil)), .tup (SqT.of htm') (.cons h1'.dp (.cons h2'.dp .nil)), n.shaped (by decide), n.shaped (by decide), ?_⟩
    rw [n.eqv]
    exact q
/-- self.f within a comprehension -/
theorem pe_fldK {X : Cx} {K : PySem.W.Frag} {e : Expr} {f : Str} {pos : Pos} {ta : TE} (he : PE X e ta) (hb : attributeBase e f X.env (eval e X.env) = eval e X.env) (hK : X.K = K := by rfl) : PE X (.Attribute e f pos) (tFld K ta f) := by
  subst hK
  exact pe_fld he hb
/-! ### orders -/
structure OrdOk (p : Pl) (o : List Nat) : Prop where
  ne : o ≠ []
  nd : o.Nodup
  lt : ∀ i ∈ o, i < p.th.length
theorem OrdOk.len {p : Pl} {o : List Nat} (h : OrdOk p o) : o.length ≤ p.th.length := by
  have := List.Nodup.length_le_of_subset h.nd (l₂ := List.range p.th.length) fun x hx => List.mem_range.mpr (h.lt x hx)
  rwa [List.length_range] at this
abbrev s_isord : Stmt := inClass (top 27) 6
theorem sc_is_order : FnScope ["self", "value", "thread"] ["self", "value"] (defScope s_isord) := ⟨rfl, rfl, rfl, by decide +kernel, rfl, by decide +kernel, by decide +kernel⟩
def sp_isord (C CP : Addr) : Sp := fun vs H Q _ => ∃ (v : V) (p : Pl) (a : Addr) (o : List Nat), vs = [v, .ref a] ∧ PlanV C CP H v p ∧ Rd H a (.tup (natV o)) ∧ OrdOk p o ∧ ∀ H', Same H H' → Q (.bl true) H'
theorem ok_isord (B : Bt mg) (Bs : mg "set" = none) (TP : Kp K CP) (O_is_number_in : Ok P w K mg base "is_number_in" 1 ["value", "least", "most"] sp_num) (D : DfM K CP "is_order" "Plan.is_order" s_isord ["self", "value"]) : OkM P w K mg base CP "is_order" 2 ["self", "value"] (sp_isord C CP) := by
  refine D.ok sc_is_order (fun vs H Q E h => ?_) (fun f cdv A outer s H vs Q E hr h => ?_)
  · obtain ⟨v, p, a, o, rfl, _⟩ := h
    rfl
  · obtain ⟨v, p, oa, o, rfl, hp, ho, oo, q⟩ := h
    refine ⟨_, pss_cons (ps_if (PW.pt (pw_or (pt_not (pt_val (pe_callB (isiK (K := K)) (by rfl) B.isinstance (by decide +kernel) (pa_cons (pv 1) (pa_cons (pe_ty (n := "tuple") (by rfl) B.tuple (by decide +kernel)) (pa_nil)))))) (pw_or1 (pt_cmpR op_eq (pe_callB (lenK (K := K)) (by rfl) B.len (by decide +kernel) (pa_cons (pv 1) (pa_nil))) (pe_int) (nomark _)))))
        (pss_one (ps_ret (pe_bl)))
        (pss_nil))
      (pss_cons (ps_if (pt_not (pt_val (pe_callB (allK (K := K)) (by rfl) B.all (by decide +kernel) (pa_cons (pe_lc (own := [("thread", 2)]) (g := gName 2) (tt := tYes) rfl sc_is_order.nd (piT (K := K) (pv 1)) (blkOk_by (own := [("thread", 2)]) (N := ["self", "value", "thread"]) (sc := defScope s_isord) (by decide +kernel)) (fun _ _ _ _ _ => pg_name (i := 2) sc_is_order.nd rfl (.inl rfl)) (fun _ _ _ _ _ => pts_nil) (fun _ _ _ _ _ => O_is_number_in.call hr (ha := pa_cons (pv 2) (pa_cons (pe_int) (pa_cons (pe_op op_sub (pe_callB (lenK (K := K)) (by rfl) B.len (by decide +kernel) (pa_cons (pe_fldK (K := K) (pv 0) rfl) (pa_nil))) (pe_int)) (pa_nil)))))) (pa_nil)))))
        (pss_one (ps_ret (pe_bl)))
        (pss_nil))
      (pss_one (ps_ret (pe_cmpR op_eq (pe_lenSetT (K := K) (by rfl) B.len (by rfl) Bs (pv 1)) (pe_callB (lenK (K := K)) (by rfl) B.len (by decide +kernel) (pa_cons (pv 1) (pa_nil))) (nomark _))))), ?_⟩
    obtain ⟨a, dx, k, tm, p1, p2, th, rfl, ha, hk, htm, h1, h2, hth, ok⟩ := id hp
    have few : p.th.length ≤ 6 := by
      have := ok.few
      rw [List.length_append]
      exact this
    have len := oo.len
    have lo : 1 ≤ o.length := List.length_pos_iff.mpr oo.ne
    have ty : TyX K H (.ref oa) (.type "tuple") := ho.elim (fun h => .base (.tup h)) (fun ⟨_, h⟩ => .fTuple h)
    refine ⟨_, rfl, .ref oa, .ty "tuple", _, _, true, rfl, .ty "tuple", ty, kit_ty (by decide +kernel), _, rfl, ?_⟩
    refine ifF rfl ?_
    refine ⟨_, rfl, oa, _, rfl, .inr (.inl ho), rfl, _, rfl, ifF (by rw [natV_len]; exact decide_eq_false fun z => by have := V.int.inj z; omega) ?_⟩
    try dsimp only [tNext]
    try dsimp only [tSeq, tIfS, tNot, tB, tCB, tCons, tNil]
    refine lc_runT (K := K) (xs := natV o) (ev_is rfl ⟨oa, rfl, .inl ho⟩) o (natV_len o) (fun _ => true) (fun z v _ => v = V.bl true) (by omega) (by intro _; rfl) (fun _ _ _ _ _ h => h)
      (fun i z v H1 hi y e => ⟨evt_yes, fun _ H3 e3 Q q => ?_⟩) (fun p3 H1 ys hp3 e hl' hP => ?_)
    · have hv : v = .int (z : Int) := by
        unfold natV at y
        rw [List.getElem?_map, hi] at y
        exact (Option.some.inj y).symm
      subst hv
      have e13 := e.trans e3
      refine ⟨_, rfl, _, rfl, a, CP, dx, _, _, rfl, e13 _ _ ha, TP.cl, TP.nH, pf_H _ _ _ _, th, _, rfl, .inr (SqT.of (e13 _ _ hth)), _, _, rfl, rfl, _, _, _, rfl, q _ _ (Same.refl _) ?_⟩
      have := oo.lt z (List.mem_of_getElem? hi)
      rw [show (strV p.th).length = p.th.length from List.length_map _, decide_eq_true (show (0 : Int) ≤ (z : Int) by omega), decide_eq_true (show (z : Int) ≤ (p.th.length : Int) - 1 by omega)]
      rfl
    · rw [filter_all] at hP
      have ey : ys = (o.map fun _ => true).map V.bl := by
        rw [paired_fun hP, List.map_map]
        rfl
      rw [ey] at hl'
      refine ⟨p3, _, rfl, SqL.of hl', _, rfl, ifF (by simp) ?_⟩
      try dsimp only [tNext, tRet, tOp]
      have ho1 := rd_keep e ho
      refine ⟨_, rfl, oa, iN o, rfl, .inl (by rw [← natV_iN]; exact ho1), ?_, by rw [iN, List.length_map]; omega, _, rfl, oa, _, rfl, .inr (.inl ho1), rfl, ?_⟩
      · unfold iN
        exact List.pairwise_map.mpr (oo.nd.imp fun h e => h (by omega))
      · rw [natV_len, iN, List.length_map, decide_eq_true rfl]
        exact q H1 e
end
end Tm

/-! Plan.played. -/
namespace Tm
open PySem PySem.Spec PyProof.Rows L2 TmE
local macro_rules | `(tactic| walk_at "x") => `(tactic| dsimp only [tNext, tRet, tSeq, tCall, tCB, tC, tCons, tNil, tAsg, tDrop, sFld])
def rowI (t : Tab) (th : List Str) (i : Nat) : Row := rowAt t (th.getD i Str.empty)
def stP (t : Tab) (th : List Str) (z : Nat × List (Nat × Int)) (i : Nat) : Nat × List (Nat × Int) := ((pickR (rowI t th i) z.1).1.toNat, z.2 ++ [(i, (pickR (rowI t th i) z.1).2)])
def playP (t : Tab) (th : List Str) (s : Nat) (o : List Nat) : Nat × List (Nat × Int) := o.foldl (stP t th) (s, [])
def ansK (l : List (Nat × Int)) : List (L2.Key × V) := l.map fun z => (Sum.inl (z.1 : Int), V.int z.2)
theorem play_snoc (t : Tab) (th : List Str) (s : Nat) (o : List Nat) (i : Nat) : playP t th s (o ++ [i]) = stP t th (playP t th s o) i := by
  unfold playP
  rw [List.foldl_append]
  rfl
theorem play_keys (t : Tab) (th : List Str) (s : Nat) (o : List Nat) : (playP t th s o).2.map (·.1) = o := by
  have gen : ∀ (o : List Nat) (z : Nat × List (Nat × Int)), (o.foldl (stP t th) z).2.map (·.1) = z.2.map (·.1) ++ o := fun o => by
    induction o with
    | nil => intro z; simp
    | cons i o ih =>
      intro z
      rw [List.foldl_cons, ih]
      unfold stP
      rw [List.map_append, List.append_assoc]
      rfl
  exact gen o _
theorem row_step {p : Pl} (okt : okTab p.t = true) (ok : p.Ok) {i : Nat} (hi : i < p.th.length) {s : Nat} (hs : s < sizeT p.t) : ∃ x c, p.th[i]? = some x ∧ x ∈ namesT p.t ∧ (x, rowI p.t p.th i) ∈ p.t ∧ (rowI p.t p.th i)[s]? = some (pickR (rowI p.t p.th i) s) ∧ (pickR (rowI p.t p.th i) s).1 = ((c : Nat) : Int) ∧ c < sizeT p.t := by
  have e := List.getElem?_eq_getElem hi
  have hx := ok.all _ (List.mem_of_getElem? e)
  have er : rowI p.t p.th i = rowAt p.t p.th[i] := by
    unfold rowI
    rw [List.getD_eq_getElem?_getD, e]
    rfl
  have hm := row_in hx
  have f := fine_of okt hm
  obtain ⟨c, c1, c2, _⟩ := f.fine s hs
  refine ⟨_, c, e, hx, by rw [er]; exact hm, by rw [er]; exact pick_at (by rw [f.len]; exact hs), by rw [er]; exact c1, c2⟩
theorem play_lt {p : Pl} (okt : okTab p.t = true) (ok : p.Ok) : ∀ (o : List Nat), (∀ i ∈ o, i < p.th.length) → (playP p.t p.th p.s o).1 < sizeT p.t := fun o h => by
  have gen : ∀ (o : List Nat) (z : Nat × List (Nat × Int)), (∀ i ∈ o, i < p.th.length) → z.1 < sizeT p.t → (o.foldl (stP p.t p.th) z).1 < sizeT p.t := fun o => by
    induction o with
    | nil => intro z _ h; exact h
    | cons i o ih =>
      intro z h hz
      rw [List.foldl_cons]
      refine ih _ (fun j hj => h j (List.mem_cons_of_mem _ hj)) ?_
      obtain ⟨x, c, _, _, _, _, h1, h2⟩ := row_step okt ok (h i List.mem_cons_self) hz
      unfold stP
      dsimp only
      rw [h1, Int.toNat_natCast]
      exact h2
  exact gen o _ h ok.s
theorem val_ans : ∀ {l : List (Nat × Int)} {i : Nat} {a : Int}, (l.map (·.1)).Nodup → (i, a) ∈ l → valV (ansK l) (Sum.inl (i : Int)) = some (.int a)
  | [], _, _, _, h => nomatch h
  | (j, b) :: l, i, a, nd, h => by
    rw [List.map_cons, List.nodup_cons] at nd
    unfold ansK valV
    rw [List.map_cons, List.find?_cons]
    by_cases e : j = i
    · subst e
      have : b = a := by
        rcases List.mem_cons.mp h with z | z
        · exact (Prod.mk.inj z).2.symm
        · exact absurd (List.mem_map.mpr ⟨_, z, rfl⟩) nd.1
      subst this
      simp
    · have hm : (i, a) ∈ l := by
        rcases List.mem_cons.mp h with z | z
        · exact absurd (Prod.mk.inj z).1.symm e
        · exact z
      have ne : decide ((Sum.inl (j : Int) : L2.Key) = Sum.inl (i : Int)) = false := decide_eq_false fun z => e (Int.ofNat.inj (Sum.inl.inj z))
      rw [ne]
      exact val_ans nd.2 hm
theorem val_no {l : List (Nat × Int)} {i : Nat} (h : i ∉ l.map (·.1)) : valV (ansK l) (Sum.inl (i : Int)) = none := by
  unfold valV ansK
  rw [List.find?_map]
  have : List.find? ((fun kv : L2.Key × V => decide (kv.1 = Sum.inl (i : Int))) ∘ fun z : Nat × Int => ((Sum.inl (z.1 : Int) : L2.Key), V.int z.2)) l = none := List.find?_eq_none.mpr fun z hz => by
    show ¬ (decide ((Sum.inl (z.1 : Int) : L2.Key) = Sum.inl (i : Int)) = true)
    rw [decide_eq_true_eq]
    intro e
    exact h (List.mem_map.mpr ⟨z, hz, Int.ofNat.inj (Sum.inl.inj e)⟩)
  rw [this]
  rfl
def ansAt (l : List (Nat × Int)) (y : Int) : Int := ((l.find? fun z => decide ((z.1 : Int) = y)).map (·.2)).getD 0
theorem ans_at : ∀ {l : List (Nat × Int)} {i : Nat} {a : Int}, (l.map (·.1)).Nodup → (i, a) ∈ l → ansAt l (i : Int) = a
  | [], _, _, _, h => nomatch h
  | (j, b) :: l, i, a, nd, h => by
    rw [List.map_cons, List.nodup_cons] at nd
    unfold ansAt
    rw [List.find?_cons]
    by_cases e : j = i
    · subst e
      have : b = a := by
        rcases List.mem_cons.mp h with z | z
        · exact (Prod.mk.inj z).2.symm
        · exact absurd (List.mem_map.mpr ⟨_, z, rfl⟩) nd.1
      subst this
      simp
    · have hm : (i, a) ∈ l := by
        rcases List.mem_cons.mp h with z | z
        · exact absurd (Prod.mk.inj z).1.symm e
        · exact z
      have ne : decide ((j : Int) = (i : Int)) = false := decide_eq_false fun z => e (Int.ofNat.inj z)
      rw [ne]
      exact ans_at nd.2 hm
theorem ans_pairs {f : Int → Int} : ∀ {kvs : List (L2.Key × V)} {ys : List Int}, Paired (fun kv z => kv.1 = Sum.inl z ∧ kv.2 = V.int (f z)) kvs ys → kvs = ys.map fun y => (Sum.inl y, V.int (f y))
  | _, _, .nil => rfl
  | _, _, .cons r t => by
    rw [List.map_cons, ← ans_pairs t]
    congr 1
    exact Prod.ext r.1 r.2
/-- the dict of the answers, threads ascending -/
def AnsD (l : List (Nat × Int)) (kvs : List (L2.Key × V)) : Prop := ∃ ys : List Int, ys.Perm (iN (l.map (·.1))) ∧ ys.Pairwise (· ≤ ·) ∧ kvs = ys.map fun y => (Sum.inl y, V.int (ansAt l y))
section
variable {P : Program} {w : World} {K : PySem.W.Frag} {mg : Str → Option Value} {base : Heap} {C CP : Addr}
abbrev s_played : Stmt := inClass (top 27) 8
theorem sc_played : FnScope ["self", "order", "state", "answers", "thread"] ["self", "order"] (defScope s_played) := ⟨rfl, rfl, rfl, by decide +kernel, rfl, by decide +kernel, by decide +kernel⟩
def sp_played (C CP : Addr) : Sp := fun vs H Q _ => ∃ (v : V) (p : Pl) (a : Addr) (o : List Nat), vs = [v, .ref a] ∧ PlanV C CP H v p ∧ Rd H a (.tup (natV o)) ∧ OrdOk p o ∧
  ∀ r d kvs H', Same H H' → H d = none → H' r = some (.tup [.int ((playP p.t p.th p.s o).1 : Int), .ref d]) → H' d = some (.dK kvs) → AnsD (playP p.t p.th p.s o).2 kvs → Q (.ref r) H'
theorem ok_played (B : Bt mg) (T : Kc K C) (TP : Kp K CP) (OM_is_order : OkM P w K mg base CP "is_order" 2 ["self", "value"] (sp_isord C CP)) (OM_after : OkM P w K mg base C "after" 3 ["self", "state", "name"] (sp_after C)) (D : DfM K CP "played" "Plan.played" s_played ["self", "order"]) : OkM P w K mg base CP "played" 4 ["self", "order"] (sp_played C CP) := by
  refine D.ok sc_played (fun vs H Q E h => ?_) (fun f cdv A outer s H vs Q E hr h => ?_)
  · obtain ⟨v, p, a, o, rfl, _⟩ := h
    rfl
  · obtain ⟨v, p, oa, o, rfl, hp, ho, oo, q⟩ := h
    have hu := hu_of hr
    refine ⟨_, pss_cons (ps_if (pt_not (pt_val (OM_is_order.call hr TP.cl (he := pv 0) (ha := pa_cons (pv 1) (pa_nil)))))
        (pss_one (ps_never))
        (pss_nil))
      (pss_cons (ps_set (i := 2) sc_played.nd rfl (.inl rfl) (pe_fld (pv 0) rfl))
      (pss_cons (ps_set (i := 3) sc_played.nd rfl (.inr rfl) (pe_dnewK))
      (pss_cons (ps_for PassesOwn.never rfl (pi_tup (pv 1)) (pg_name (i := 4) sc_played.nd rfl (.inl rfl))
        (pss_one (ps_asg (OM_after.call hr T.cl (he := pe_fld (pv 0) rfl) (ha := pa_cons (pv 2) (pa_cons (pe_ix (ixTK (K := K)) (pe_fld (pv 0) rfl) (pv 4) (fun _ _ => rfl)) (pa_nil)))) (pg_tup (by rfl) (pgs_cons (pg_name (i := 2) sc_played.nd rfl (.inl rfl)) (pgs_cons (pg_sub (pv 3) (pv 4) (set_dict hu)) (pgs_nil)))))))
      (pss_one (ps_ret (pe_tup (pa_cons (pv 2) (pa_cons (pe_dc (own := [("thread", 4)]) (g := gName 4) (tt := tYes) rfl sc_played.nd (pi_list (pe_callB (cr_sortTu (K := K)) (by rfl) B.sorted (by decide +kernel) (pa_cons (pv 1) (pa_nil)))) (blkOk_by (own := [("thread", 4)]) (N := ["self", "order", "state", "answers", "thread"]) (sc := defScope s_played) (by decide +kernel)) (fun _ _ _ _ _ => pg_name (i := 4) sc_played.nd rfl (.inl rfl)) (fun _ _ _ _ _ => pts_nil) (fun _ _ _ _ _ => pv 4) (fun _ _ _ _ _ => pe_dget hu (pv 3) (pv 4) (fun _ _ => rfl))) (pa_nil))))))))), ?_⟩
    obtain ⟨a, dx, k, tm, p1, p2, th, rfl, ha, hk, htm, h1, h2, hth, ok⟩ := id hp
    have okt := hk.ok.1
    have few : p.th.length ≤ 6 := by
      have := ok.few
      rw [List.length_append]
      exact this
    have len := oo.len
    refine ⟨_, rfl, a, dx, _, rfl, ha, pf_no _ _ _ _, _, rfl, .ref a, p, oa, o, rfl, hp, ho, oo, fun H1 e1 => ⟨_, rfl, ifF rfl ?_⟩⟩
    try dsimp only [tNext, tSeq]
    refine ⟨_, rfl, a, CP, dx, _, _, rfl, e1 _ _ ha, TP.cl, TP.nS, pf_S _ _ _ _, ?_⟩
    dsimp only [gName]
    try dsimp only [tSeq]
    refine fun pd hpd => ?_
    have e2 : Same H1 (upd H1 pd (.dK [])) := same_new hpd
    have a2 : upd H1 pd (.dK []) pd = some (.dK []) := upd_same
    have e12 := e1.trans e2
    show (fun H' => _) (upd H1 pd (.dK []))
    generalize upd H1 pd (.dK []) = H2 at e2 a2 e12
    dsimp only [gName]
    try dsimp only [tSeq]
    have ho2 := rd_keep e12 ho
    have pd0 : H pd = none := e1.free hpd
    refine ⟨_, rfl, oa, rfl, ⟨_, .inl ho2⟩, ?_⟩
    refine for_tup (K := K) (xs := natV o) (fun i σ' H' => ∃ o4 : Option V, σ' = [some (.ref a), some (.ref oa), some (.int ((playP p.t p.th p.s (o.take i)).1 : Int)), some (.ref pd), o4] ∧ Same H H' ∧ H' pd = some (.dK (ansK (playP p.t p.th p.s (o.take i)).2))) ⟨none, rfl, e12, a2⟩ (fun i σ' H' _ pv => ?_) (fun i x σ' H' hx pv => ?_) (fun σ' H' pv => ?_)
    · obtain ⟨_, _, e, _⟩ := pv
      exact .inl (rd_keep e ho)
    · obtain ⟨o4, rfl, eP, aP⟩ := pv
      obtain ⟨z, hz, rfl⟩ : ∃ z, o[i]? = some z ∧ V.int (z : Int) = x := by
        unfold natV at hx
        rw [List.getElem?_map] at hx
        exact Option.map_eq_some_iff.mp hx
      have hzl := oo.lt z (List.mem_of_getElem? hz)
      have lt := play_lt okt ok (o.take i) fun j hj => oo.lt j (List.mem_of_mem_take hj)
      have keys := play_keys p.t p.th p.s (o.take i)
      rw [take_one hz, play_snoc]
      generalize playP p.t p.th p.s (o.take i) = G at aP lt keys
      obtain ⟨nm, c, hnm, hx1, hx2, hx3, hx4, hx5⟩ := row_step okt ok hzl lt
      dsimp only [gName]
      try dsimp only [tSeq, tAsg]
      have hkP := hk.keep eP
      obtain ⟨ka, kdx, _, _, rfl, hka, _⟩ := id hkP
      refine ⟨_, rfl, a, CP, dx, _, _, rfl, eP _ _ ha, TP.cl, TP.nK, pf_K _ _ _ _, ka, kdx, _, rfl, hka, kf_no _ _, _, rfl, _, rfl, a, CP, dx, _, _, rfl, eP _ _ ha, TP.cl, TP.nH, pf_H _ _ _ _, _, rfl, th, strV p.th, _, _, rfl, rfl, SqT.of (eP _ _ hth), atI_nat (show (strV p.th)[z]? = some (.str nm) by unfold strV; rw [List.getElem?_map, hnm]; rfl), .ref ka, p.t, G.1, nm, _, _, rfl, hkP, hx2, hx3, fun u hu' => ?_⟩
      obtain ⟨pa, rfl, hpa⟩ := hu'
      refine ⟨pa, _, rfl, SqT.of hpa, rfl, _, _, rfl, ?_⟩
      dsimp only [gName]
      refine ⟨_, _, rfl, ?_⟩
      have nz : z ∉ G.2.map (·.1) := by
        rw [keys]
        exact nd_split oo.nd hz
      have gl : G.2.length ≤ 12 := by
        have e := congrArg List.length keys
        rw [List.length_map, List.length_take] at e
        omega
      have put := DPut.k (k := (Sum.inl (z : Int) : L2.Key)) (v := V.int (pickR (rowI p.t p.th z) G.1).2) aP (by unfold ansK; rw [List.length_map]; exact sz_lt (by omega))
      rw [putK_new _ (val_no nz)] at put
      refine ⟨_, rfl, _, rfl, pd, _, rfl, put, ?_⟩
      refine ⟨rfl, _, by rw [hx4]; unfold stP; rw [hx4, Int.toNat_natCast]; rfl, same_mut eP pd0, ?_⟩
      rw [upd_same]
      unfold stP ansK
      rw [List.map_append]
      rfl
    · obtain ⟨o4, rfl, eP, aP⟩ := pv
      rw [natV_len, List.take_length] at aP ⊢
      have keys := play_keys p.t p.th p.s o
      generalize playP p.t p.th p.s o = G at aP keys q
      try dsimp only [tRet, tTup, tCons, tNil]
      refine ⟨_, rfl, ?_⟩
      refine dc_bind (P := fun v H2 => ∃ (b : Addr) (ys : List Int), v = .ref b ∧ H2 b = some (.lst (ys.map V.int)) ∧ ys.Perm (iN o) ∧ ys.Pairwise (· ≤ ·)) (fun Q q => ?_) (fun v H2 e2 hv => ?_)
      · exact ⟨_, rfl, oa, iN o, rfl, .inl (by rw [← natV_iN]; exact rd_keep eP ho), by rw [iN, List.length_map]; omega, fun ys b pm up hb => q _ _ (same_new hb) ⟨b, ys, rfl, upd_same, pm, up⟩⟩
      · obtain ⟨b, ys, rfl, hb, pm, up⟩ := hv
        have ndo : (iN o).Nodup := by
          unfold iN
          exact List.pairwise_map.mpr (oo.nd.imp fun h e => h (by omega))
        have ndy : ys.Nodup := pm.symm.nodup ndo
        have e02 := eP.trans e2
        refine dc_runL (K := K) (xs := ys.map V.int) (ev_c ⟨b, rfl, SqL.of hb⟩) ys (List.length_map ..) (fun _ => true) Sum.inl (fun y v _ => v = V.int (ansAt G.2 y)) (by rw [pm.length_eq, iN, List.length_map]; omega)
          (by rw [List.nodup_iff_pairwise_ne, List.pairwise_map]; exact (List.nodup_iff_pairwise_ne.mp ndy).imp fun h z => h (Sum.inl.inj z)) (by intro _; rfl) (fun _ _ _ _ _ h => h)
          (fun i y x H3 hi hx e3 => ⟨evt_yes, fun _ H4 e4 => ?_, fun _ H4 e4 => ?_⟩) (fun d H3 kvs hd e3 hdk hP => ?_)
        · rw [List.getElem?_map, hi] at hx
          have ex : V.int y = x := Option.some.inj hx
          subst ex
          exact ev_is rfl rfl
        · rw [List.getElem?_map, hi] at hx
          have ex : V.int y = x := Option.some.inj hx
          subst ex
          obtain ⟨n, hn, rfl⟩ := List.mem_map.mp (pm.mem_iff.mp (List.mem_of_getElem? hi))
          obtain ⟨⟨n', v⟩, hm, en⟩ : ∃ z ∈ G.2, z.1 = n := List.mem_map.mp (by rw [keys]; exact hn)
          have en : n' = n := en
          subst en
          have ndk : (G.2.map (·.1)).Nodup := by rw [keys]; exact oo.nd
          intro Q q
          have hg := DGet.k (k := (Sum.inl (n' : Int) : L2.Key)) ((e2.trans (e3.trans e4)) _ _ aP)
          rw [val_ans ndk hm] at hg
          exact ⟨_, rfl, _, rfl, pd, _, rfl, hg, q _ _ (Same.refl _) (by rw [ans_at ndk hm])⟩
        · rw [filter_all] at hP
          have ek := ans_pairs hP
          refine ⟨by show 2 ≤ sizeLine; decide, fun r hr => ?_⟩
          have e4 := same_new (o := .tup [.int (G.1 : Int), .ref d]) hr
          exact q r d kvs _ (e02.trans (e3.trans e4)) (e02.free hd) upd_same (e4 _ _ hdk) ⟨ys, by rw [keys]; exact pm, up, ek⟩
end
end Tm

/-! _law_orders: all orders of so many threads. -/
namespace Tm
open PySem PySem.Spec PyProof.Rows L2 TmE
local macro_rules | `(tactic| walk_at "x") => `(tactic| dsimp only [tNext, tRet, tSeq, tCall, tCB, tC, tCons, tNil, tAsg, tDrop, sFld])
theorem op_notInK {X : Cx} {K : PySem.W.Frag} (hK : X.K = K := by rfl) : OpR X (compareOp .NotIn) (rIn K true) := by subst hK; exact op_notIn_seq
theorem op_catAK {X : Cx} {K : PySem.W.Frag} (hK : X.K = K := by rfl) : OpR X (binaryOp .Add) (rCatA K) := by subst hK; exact op_catA
def extN (n : Nat) (o : List Nat) : List (List Nat) := ((List.range n).filter fun i => !decide (i ∈ o)).map fun i => o ++ [i]
def levN (n : Nat) : Nat → List (List Nat)
  | 0 => [[]]
  | k + 1 => (levN n k).flatMap (extN n)
def ordsN (n k : Nat) : List (List Nat) := (List.range k).flatMap fun j => levN n (j + 1)
def OrdN (n : Nat) (o : List Nat) : Prop := o.Nodup ∧ ∀ i ∈ o, i < n
theorem ext_ok {n : Nat} {o : List Nat} (h : OrdN n o) : ∀ x ∈ extN n o, OrdN n x ∧ x ≠ [] := fun x hx => by
  obtain ⟨i, hi, rfl⟩ := List.mem_map.mp hx
  obtain ⟨h1, h2⟩ := List.mem_filter.mp hi
  have ni : i ∉ o := by simpa using h2
  refine ⟨⟨?_, fun j hj => ?_⟩, by simp⟩
  · rw [List.nodup_append]
    refine ⟨h.1, by simp, fun a ha b hb e => ?_⟩
    rw [List.mem_singleton.mp hb] at e
    exact ni (e ▸ ha)
  · rcases List.mem_append.mp hj with z | z
    · exact h.2 j z
    · rw [List.mem_singleton.mp z]
      exact List.mem_range.mp h1
theorem lev_ok (n : Nat) : ∀ k, ∀ x ∈ levN n k, OrdN n x ∧ (0 < k → x ≠ [])
  | 0, x, hx => by
    rw [List.mem_singleton.mp hx]
    exact ⟨⟨.nil, fun _ h => nomatch h⟩, fun z => absurd z (by omega)⟩
  | k + 1, x, hx => by
    obtain ⟨o, ho, hx⟩ := List.mem_flatMap.mp hx
    obtain ⟨h1, h2⟩ := ext_ok (lev_ok n k o ho).1 x hx
    exact ⟨h1, fun _ => h2⟩
theorem ords_ok {n k : Nat} : ∀ x ∈ ordsN n k, OrdN n x ∧ x ≠ [] := fun x hx => by
  obtain ⟨j, _, hx⟩ := List.mem_flatMap.mp hx
  obtain ⟨h1, h2⟩ := lev_ok n (j + 1) x hx
  exact ⟨h1, h2 (by omega)⟩
theorem ext_len (n : Nat) (o : List Nat) : (extN n o).length ≤ n := by
  unfold extN
  rw [List.length_map]
  have := List.length_filter_le (fun i => !decide (i ∈ o)) (List.range n)
  rwa [List.length_range] at this
theorem flat_len {α : Type} {f : α → List (List Nat)} {n : Nat} : ∀ (l : List α), (∀ x ∈ l, (f x).length ≤ n) → (l.flatMap f).length ≤ l.length * n
  | [], _ => by simp
  | x :: l, h => by
    rw [List.flatMap_cons, List.length_append, List.length_cons, Nat.add_mul, Nat.one_mul]
    have := flat_len l fun y hy => h y (List.mem_cons_of_mem _ hy)
    have := h x List.mem_cons_self
    omega
theorem lev_len (n : Nat) : ∀ k, (levN n k).length ≤ n ^ k
  | 0 => by simp [levN]
  | k + 1 => by
    have h1 := flat_len (levN n k) fun x _ => ext_len n x
    have h2 := Nat.mul_le_mul_right n (lev_len n k)
    rw [Nat.pow_succ]
    exact Nat.le_trans h1 h2
theorem pow_le6 {n k : Nat} (hn : n ≤ 6) (hk : k ≤ 6) : n ^ k ≤ 46656 := Nat.le_trans (Nat.pow_le_pow_left hn k) (Nat.le_trans (Nat.pow_le_pow_right (by decide) hk) (by decide))
theorem lev_few {n k : Nat} (hn : n ≤ 4) (hk : k ≤ 4) : (levN n k).length ≤ 256 := Nat.le_trans (lev_len n k) (Nat.le_trans (Nat.pow_le_pow_left hn k) (Nat.le_trans (Nat.pow_le_pow_right (by decide) hk) (by decide)))
theorem ords_few {n : Nat} (hn : n ≤ 4) : ∀ k, k ≤ 4 → (ordsN n k).length ≤ 256 * k
  | 0, _ => by simp [ordsN]
  | k + 1, h => by
    have h1 := ords_few hn k (by omega)
    have h2 := lev_few (n := n) (k := k + 1) hn h
    unfold ordsN at h1 ⊢
    rw [List.range_succ, List.flatMap_append, List.length_append]
    simp only [List.flatMap_cons, List.flatMap_nil, List.append_nil]
    omega
def OrdV (H : Hp) (v : V) (o : List Nat) : Prop := ∃ r, v = .ref r ∧ H r = some (.tup (natV o))
theorem OrdV.mono {H H' : Hp} {v : V} {o : List Nat} (e : TupS H H') (h : OrdV H v o) : OrdV H' v o := by
  obtain ⟨r, rfl, h⟩ := h
  exact ⟨r, rfl, e _ _ h⟩
abbrev OrdsV (H : Hp) (vs : List V) (os : List (List Nat)) : Prop := Paired (OrdV H) vs os
theorem OrdsV.mono {H H' : Hp} {vs : List V} {os : List (List Nat)} (e : TupS H H') (h : OrdsV H vs os) : OrdsV H' vs os := Paired.mapP h fun _ _ z => z.mono e
theorem paired_cat {α β : Type} {F : α → β → Prop} : ∀ {xs xs' : List α} {ys ys' : List β}, Paired F xs ys → Paired F xs' ys' → Paired F (xs ++ xs') (ys ++ ys')
  | _, _, _, _, .nil, h => h
  | _, _, _, _, .cons r t, h => .cons r (paired_cat t h)
section
variable {P : Program} {w : World} {K : PySem.W.Frag} {mg : Str → Option Value} {base : Heap}
abbrev s_lords : Stmt := top 46
theorem sc_law_orders : FnScope ["_law_size", "_law_turn", "_law_found", "_law_level", "_law_longer", "_law_order", "_law_one"] ["_law_size"] (defScope s_lords) := ⟨rfl, rfl, rfl, by decide +kernel, rfl, by decide +kernel, by decide +kernel⟩
def sp_lords : Sp := fun vs H Q _ => ∃ n : Nat, vs = [.int (n : Int)] ∧ n ≤ 4 ∧ ∀ a H' xs, Same H H' → H' a = some (.lst xs) → OrdsV H' xs (ordsN n n) → Q (.ref a) H'
theorem ok_lords (B : Bt mg) (D : Df K mg "_law_orders" s_lords ["_law_size"]) : Ok P w K mg base "_law_orders" 1 ["_law_size"] sp_lords := by
  refine D.ok sc_law_orders (fun vs H Q E h => ?_) (fun f cdv A outer s H vs Q E hr h => ?_)
  · obtain ⟨n, rfl, _⟩ := h
    rfl
  · obtain ⟨n, rfl, n4, q⟩ := h
    refine ⟨_, pss_cons (ps_par (i := 2) (j := 3) (by rfl) sc_law_orders.nd rfl rfl (by decide) rfl rfl (pa_cons (pe_lst (pa_nil)) (pa_cons (pe_lst (pa_cons (pe_tup (pa_nil)) (pa_nil))) (pa_nil))) (by rfl))
      (pss_cons (ps_for PassesOwn.never rfl (pi_range1 (by rfl) B.range (pa_cons (pv 0) (pa_nil))) (pg_name (i := 1) sc_law_orders.nd rfl (.inl rfl))
        (pss_cons (ps_set (i := 4) sc_law_orders.nd rfl (.inl rfl) (pe_lst (pa_nil)))
      (pss_cons (ps_for PassesOwn.never rfl (pi_list (pv 3)) (pg_name (i := 5) sc_law_orders.nd rfl (.inr rfl))
        (pss_one (ps_set (i := 4) sc_law_orders.nd rfl (.inl rfl) (pe_op op_cat (pv 4) (pe_lc (own := [("_law_one", 6)]) (g := gName 6) (tt := _) rfl sc_law_orders.nd (pi_range1 (by rfl) B.range (pa_cons (pv 0) (pa_nil))) (blkOk_by (own := [("_law_one", 6)]) (N := ["_law_size", "_law_turn", "_law_found", "_law_level", "_law_longer", "_law_order", "_law_one"]) (sc := defScope s_lords) (by decide +kernel)) (fun _ _ _ _ _ => pg_name (i := 6) sc_law_orders.nd rfl (.inl rfl)) (fun _ _ _ _ _ => pts_one (pt_cmpR (op_notInK (K := K)) (pv 6) (pv 5) rfl)) (fun _ _ _ _ _ => pe_op (op_catAK (K := K)) (pv 5) (pe_tup (pa_cons (pv 6) (pa_nil)))))))))
      (pss_one (ps_par (i := 2) (j := 3) (by rfl) sc_law_orders.nd rfl rfl (by decide) rfl rfl (pa_cons (pe_op op_cat (pv 2) (pv 4)) (pa_cons (pv 4) (pa_nil))) (by rfl))))))
      (pss_one (ps_ret (pv 2)))), ?_⟩
    dsimp only [tSeq, tPar, tLst, tTup, tCons, tNil]
    refine ⟨by show 0 ≤ sizeLine; decide, fun f0 hf0 => ⟨by show 0 ≤ sizeLine; decide, fun t0 ht0 => ⟨by show 1 ≤ sizeLine; decide, fun l0 hl0 => ?_⟩⟩⟩
    have e1 : Same H (upd H f0 (.lst [])) := same_new hf0
    have e2 : Same (upd H f0 (.lst [])) (upd (upd H f0 (.lst [])) t0 (.tup [])) := same_new ht0
    have e3 : Same (upd (upd H f0 (.lst [])) t0 (.tup [])) (upd (upd (upd H f0 (.lst [])) t0 (.tup [])) l0 (.lst [.ref t0])) := same_new hl0
    have e13 := e1.trans (e2.trans e3)
    have hf := (e2.trans e3) _ _ (upd_same (H := H) (a := f0) (o := .lst []))
    have ht := e3 _ _ (upd_same (H := upd H f0 (.lst [])) (a := t0) (o := .tup []))
    have hl : upd (upd (upd H f0 (.lst [])) t0 (.tup [])) l0 (.lst [.ref t0]) l0 = some (.lst [.ref t0]) := upd_same
    show (fun H' => _) (upd (upd (upd H f0 (.lst [])) t0 (.tup [])) l0 (.lst [.ref t0]))
    generalize upd (upd (upd H f0 (.lst [])) t0 (.tup [])) l0 (.lst [.ref t0]) = H3 at e13 hf ht hl
    refine ⟨_, _, rfl, _, rfl, (n : Int), rfl, by omega, by omega, ?_⟩
    refine for_range (lo := 0) (fun i σ' H' => ∃ (o1 o4 o5 o6 : Option V) (f l : Addr) (fs ls : List V), σ' = [some (.int (n : Int)), o1, some (.ref f), some (.ref l), o4, o5, o6] ∧ Same H H' ∧ H' f = some (.lst fs) ∧ OrdsV H' fs (ordsN n i) ∧ H' l = some (.lst ls) ∧ OrdsV H' ls (levN n i))
      ⟨none, none, none, none, f0, l0, [], [.ref t0], rfl, e13, hf, .nil, hl, .cons ⟨t0, rfl, ht⟩ .nil⟩ (fun i σ' H' hi pv => ?_) (fun σ' H' pv => ?_)
    · obtain ⟨o1, o4, o5, o6, f, l, fs, ls, rfl, eH, hfs, pf, hls, pl⟩ := pv
      rw [Int.toNat_natCast] at hi
      dsimp only [gName]
      try dsimp only [tSeq]
      refine ⟨by show 0 ≤ sizeLine; decide, fun g0 hg0 => ?_⟩
      have e4 : Same H' (upd H' g0 (.lst [])) := same_new hg0
      have hg : upd H' g0 (.lst []) g0 = some (.lst []) := upd_same
      generalize upd H' g0 (.lst []) = H4 at e4 hg
      have hls4 := e4 _ _ hls
      have nl := Paired.length pl
      have llen := lev_few (n := n) (k := i) n4 (by omega)
      have lord := lev_ok n i
      refine ⟨_, rfl, l, rfl, ⟨_, SqL.of hls4⟩, ?_⟩
      refine for_list (K := K) (xs := ls) (fun j σ2 H2 => ∃ (o5 o6 : Option V) (g : Addr) (gs : List V), σ2 = [some (.int (n : Int)), some (.int (0 + (i : Int))), some (.ref f), some (.ref l), some (.ref g), o5, o6] ∧ Same H4 H2 ∧ H2 g = some (.lst gs) ∧ OrdsV H2 gs (((levN n i).take j).flatMap (extN n)))
        ⟨_, _, g0, [], rfl, Same.refl _, hg, .nil⟩ (fun j σ2 H2 _ pv => ?_) (fun j x σ2 H2 hx pv => ?_) (fun σ2 H2 pv => ?_)
      · obtain ⟨_, _, _, _, _, e, _⟩ := pv
        exact SqL.of (e _ _ hls4)
      · obtain ⟨o5, o6, g, gs, rfl, e5, hgs, pg⟩ := pv
        obtain ⟨o, ho, hox⟩ := paired_ix2 pl hx
        have hox2 : OrdV H2 x o := hox.mono (tups_of (e4.trans e5))
        obtain ⟨r, rfl, hr⟩ := hox2
        have oo := (lord o (List.mem_of_getElem? ho)).1
        rw [take_one ho]
        dsimp only [gName]
        try dsimp only [tSeq, tOp]
        refine ⟨_, rfl, ?_⟩
        refine lc_runR (n := (n : Int)) (fun Q q => ⟨_, rfl, q _ _ (Same.refl _) rfl⟩) ⟨by omega, by omega⟩ (List.range n) (by simp) (fun k => !decide (k ∈ o)) (fun k v H => OrdV H v (o ++ [k])) (by rw [List.length_range]; omega) (by intro _; rfl) (fun _ _ _ _ e h => h.mono e)
          (fun k z x H3 hz hx3 e6 => ⟨fun Q q => ?_, fun _ H5 e7 Q q => ?_⟩) (fun p5 H5 ys hp5 e6 hys hP => ?_)
        · obtain ⟨ez, hk⟩ := range_at hz
          subst ez
          subst hx3
          refine ⟨_, rfl, _, rfl, r, _, rfl, .inr (SqT.of (e6 _ _ hr)), rfl, flat_nats o, _, rfl, ?_⟩
          rw [if_pos rfl, inV_nat]
          exact q _ (Same.refl _)
        · obtain ⟨ez, hk⟩ := range_at hz
          subst ez
          subst hx3
          have hr5 := (e6.trans e7) _ _ hr
          refine ⟨_, rfl, _, rfl, by show 1 ≤ sizeLine; decide, fun u hu => ?_⟩
          have e8 := same_new (o := .tup [.int (z : Int)]) hu
          have a8 : upd H5 u (.tup [.int (z : Int)]) u = some (.tup [.int (z : Int)]) := upd_same
          generalize upd H5 u (.tup [.int (z : Int)]) = H6 at e8 a8
          refine ⟨r, u, natV o, _, rfl, rfl, SqT.of (e8 _ _ hr5), SqT.of a8, ?_, fun ne => ?_, (fun _ z2 => nomatch z2), fun _ _ p hp => ?_⟩
          · have := List.Nodup.length_le_of_subset oo.1 (l₂ := List.range n) fun x hx => List.mem_range.mpr (oo.2 x hx)
            rw [List.length_range] at this
            rw [natV_len]
            exact sz_le (show o.length + 1 ≤ 100000 by omega)
          · have : o = [] := List.map_eq_nil_iff.mp ne
            subst this
            exact q _ _ e8 ⟨u, rfl, a8⟩
          · refine q _ _ (e8.trans (same_new hp)) ⟨p, rfl, ?_⟩
            rw [upd_same]
            unfold natV
            rw [List.map_append]
            rfl
        · have pe : OrdsV H5 ys (extN n o) := by
            unfold extN
            exact paired_mapR (F := OrdV H5) (fun k => o ++ [k]) hP
          have pg5 := pg.mono (tups_of e6)
          have lg := Paired.length pg
          have le := Paired.length pe
          have l1 := ext_len n o
          have l2 := flat_len ((levN n i).take j) fun x _ => ext_len n x
          have l3 : ((levN n i).take j).length ≤ 256 := by
            rw [List.length_take]
            omega
          have l4 := Nat.mul_le_mul l3 n4
          refine ⟨g, p5, gs, ys, rfl, rfl, e6 _ _ hgs, hys, sz_le (by omega), fun p6 hp6 => ?_⟩
          have e7 := same_new (o := .lst (gs ++ ys)) hp6
          refine ⟨_, _, p6, gs ++ ys, rfl, e5.trans (e6.trans e7), upd_same, ?_⟩
          rw [List.flatMap_append]
          simp only [List.flatMap_cons, List.flatMap_nil, List.append_nil]
          exact OrdsV.mono (tups_of e7) (paired_cat pg5 pe)
      · obtain ⟨o5, o6, g, gs, rfl, e5, hgs, pg⟩ := pv
        rw [nl, List.take_length] at pg
        have e45 := e4.trans e5
        have hfs5 := e45 _ _ hfs
        have pf5 := pf.mono (tups_of e45)
        have lf := Paired.length pf
        have lg := Paired.length pg
        have l1 := ords_few n4 i (by omega)
        have l2 : (levN n (i + 1)).length ≤ 256 := lev_few n4 (by omega)
        have lg2 : gs.length = (levN n (i + 1)).length := lg
        have m1 := Nat.mul_le_mul_left 256 (show i ≤ 4 by omega)
        try dsimp only [tSeq, tPar, tOp, tCons, tNil]
        refine ⟨_, rfl, _, rfl, f, g, fs, gs, rfl, rfl, hfs5, hgs, sz_le (by omega), fun p6 hp6 => ⟨_, rfl, ?_⟩⟩
        have e7 := same_new (o := .lst (fs ++ gs)) hp6
        refine ⟨_, _, rfl, _, _, _, _, p6, g, fs ++ gs, gs, rfl, eH.trans (e45.trans e7), upd_same, ?_, e7 _ _ hgs, pg.mono (tups_of e7)⟩
        unfold ordsN
        rw [List.range_succ, List.flatMap_append]
        simp only [List.flatMap_cons, List.flatMap_nil, List.append_nil]
        exact OrdsV.mono (tups_of e7) (paired_cat pf5 pg)
    · obtain ⟨o1, o4, o5, o6, f, l, fs, ls, rfl, eH, hfs, pf, hls, pl⟩ := pv
      rw [Int.toNat_natCast] at pf
      exact ⟨_, rfl, q f H' fs eH hfs pf⟩
end
end Tm

/-! The purse of drawn numbers. -/
namespace Tm
open PySem PySem.Spec PyProof.Rows L2 TmE
local macro_rules | `(tactic| walk_at "x") => `(tactic| dsimp only [tNext, tRet, tSeq, tCall, tCB, tC, tCons, tNil, tAsg, tDrop, sFld])
section
variable {P : Program} {w : World} {K : PySem.W.Frag} {mg : Str → Option Value} {base : Heap}
abbrev s_purse : Stmt := top 38
theorem sc_law_purse_of : FnScope ["_law_script", "_law_at", "_law_cell", "_law_great"] ["_law_script", "_law_at"] (defScope s_purse) := ⟨rfl, rfl, rfl, by decide +kernel, rfl, by decide +kernel, by decide +kernel⟩
def sp_vat (K : PySem.W.Frag) : Sp := fun vs H Q _ => ∃ (a : Addr) (xs : List Int) (i : Nat), vs = [.ref a, .int (i : Int)] ∧ SqL K H a (xs.map V.int) ∧ i ≤ 1000 ∧ ∀ l p q r, H l = none → Q (.ref l) (upd H l (.lst [.int p, .int q, .int r]))
theorem ok_purse (B : Bt mg) (D : Df K mg "_law_purse_of" s_purse ["_law_script", "_law_at"]) : Ok P w K mg base "_law_purse_of" 1 ["_law_script", "_law_at"] (sp_vat K) := by
  refine D.ok sc_law_purse_of (fun vs H Q E h => ?_) (fun f cdv A outer s H vs Q E hr h => ?_)
  · obtain ⟨a, xs, i, rfl, _⟩ := h
    rfl
  · obtain ⟨a, xs, i, rfl, hs, hi, q⟩ := h
    refine ⟨_, pss_cons (ps_set (i := 2) sc_law_purse_of.nd rfl (.inl rfl) (pe_ifExp (pt_cmpR op_lt (pv 1) (pe_callB (lenK (K := K)) (by rfl) B.len (by decide +kernel) (pa_cons (pv 0) (pa_nil))) (nomark _)) (pe_ix (ixLK (K := K)) (pv 0) (pv 1) (fun _ _ => rfl)) (pe_op op_add (pe_op op_mul (pe_int) (pv 1)) (pe_int))))
      (pss_cons (ps_set (i := 3) sc_law_purse_of.nd rfl (.inl rfl) (pe_op op_mod (pe_callTy call_int1 (by rfl) B.int (by decide +kernel) (pa_cons (pe_callB call_abs (by rfl) B.abs (by decide +kernel) (pa_cons (pv 2) (pa_nil))) (pa_nil))) (pe_op opP (pe_op opP (pe_int) (pe_int)) (pe_int))))
      (pss_one (ps_ret (pe_lst (pa_cons (pe_callB (call_max2 rfl) (by rfl) B.max (by decide +kernel) (pa_cons (pe_int) (pa_cons (pe_op op_sub (pv 3) (pe_op opP (pe_int) (pe_int))) (pa_nil)))) (pa_cons (pe_op op_add (pe_op op_add (pe_op op_mul (pe_callTy call_int1 (by rfl) B.int (by decide +kernel) (pa_cons (pe_op op_add (pe_op op_mul (pv 3) (pe_int)) (pe_callTy call_int1 (by rfl) B.int (by decide +kernel) (pa_cons (pe_cmpR op_lt (pv 2) (pe_int) (nomark _)) (pa_nil)))) (pa_nil))) (pe_int)) (pe_op op_mul (pe_int) (pv 1))) (pe_int)) (pa_cons (pe_int) (pa_nil)))))))), ?_⟩
    refine Ev.go (te := tIf _ _ _) (P := fun v H1 => ∃ c : Int, v = .int c ∧ H1 = H) (fun Q q => ?_) fun v H1 _ hv => ?_
    · refine ⟨_, rfl, _, rfl, a, _, rfl, .inl hs, _, _, rfl, rfl, _, rfl, ite2 (fun h1 => ?_) (fun h1 => ?_)⟩
      · have h2 : (i : Int) < ((xs.map V.int).length : Int) := of_decide_eq_true h1
        rw [List.length_map] at h2
        have hlt : i < xs.length := by omega
        refine ⟨_, rfl, _, rfl, a, _, _, .int xs[i], rfl, rfl, hs, atI_nat (by rw [List.getElem?_map, List.getElem?_eq_getElem hlt]; rfl), q _ H (Same.refl H) ⟨_, rfl, rfl⟩⟩
      · exact ⟨_, rfl, _, _, rfl, rfl, .inl ⟨by decide, by decide⟩, _, _, rfl, rfl, q _ H (Same.refl H) ⟨_, rfl, rfl⟩⟩
    · obtain ⟨c, rfl, rfl⟩ := hv
      have big : (0 : Int) < (10 ^ (61 : Int).toNat) ^ (10 : Int).toNat := Int.pow_pos (Int.pow_pos (by decide))
      refine ⟨_, rfl, c, rfl, .inl ⟨_, rfl, ?_⟩⟩
      refine ⟨_, _, rfl, rfl, by decide +kernel, _, _, rfl, rfl, by decide +kernel, _, _, rfl, rfl, big, ?_⟩
      generalize (if c < 0 then -c else c) % ((10 : Int) ^ (61 : Int).toNat) ^ (10 : Int).toNat = g
      refine ⟨_, rfl, _, _, rfl, rfl, by decide +kernel, _, _, rfl, rfl, _, _, rfl, ?_⟩
      refine ⟨_, rfl, _, _, rfl, rfl, .inr ⟨by decide, by decide⟩, _, rfl, _, _, rfl, rfl, .inr ⟨_, rfl, _, _, rfl, rfl, .inl ⟨_, rfl, _, _, rfl, rfl, .inr ⟨by decide, by decide⟩, ?_⟩⟩⟩
      exact ⟨_, rfl, _, _, rfl, rfl, .inl ⟨by decide, by decide⟩, _, _, rfl, rfl, _, _, rfl, rfl, by show 3 ≤ sizeLine; decide, fun l hl => q l _ _ _ hl⟩
abbrev s_coin : Stmt := top 39
theorem sc_law_coin : FnScope ["_law_purse", "_law_total", "_law_one", "_law_two", "_law_three", "_law_found"] ["_law_purse", "_law_total"] (defScope s_coin) := ⟨rfl, rfl, rfl, by decide +kernel, rfl, by decide +kernel, by decide +kernel⟩
def sp_draw : Sp := fun vs H Q _ => ∃ (l : Addr) (t : Int), vs = [.ref l, .int t] ∧ VatV H l ∧ 0 < t ∧ t < 1073741824 ∧ ∀ (d : Int) H', 0 ≤ d → d < t → KL l H H' → Q (.int d) H'
theorem ok_coin (B : Bt mg) (D : Df K mg "_law_coin" s_coin ["_law_purse", "_law_total"]) : Ok P w K mg base "_law_coin" 1 ["_law_purse", "_law_total"] sp_draw := by
  refine D.ok sc_law_coin (fun vs H Q E h => ?_) (fun f cdv A outer s H vs Q E hr h => ?_)
  · obtain ⟨l, t, rfl, _⟩ := h
    rfl
  · obtain ⟨l, t, rfl, ⟨a, b, c, hl⟩, t0, t1, q⟩ := h
    refine ⟨_, pss_cons (ps_if (pt_cmpR op_gt (pe_ix (ixLK (K := K)) (pv 0) (pe_int) (fun _ _ => rfl)) (pe_int) (nomark _))
        (pss_cons (ps_set (i := 5) sc_law_coin.nd rfl (.inl rfl) (pe_op op_mod (pe_callTy call_int1 (by rfl) B.int (by decide +kernel) (pa_cons (pe_ix (ixLK (K := K)) (pv 0) (pe_int) (fun _ _ => rfl)) (pa_nil))) (pv 1)))
      (pss_cons (ps_asg (pe_op op_fdiv (pe_ix (ixLK (K := K)) (pv 0) (pe_int) (fun _ _ => rfl)) (pv 1)) (pg_sub (pv 0) (pe_int) L2.set_list))
      (pss_one (ps_ret (pv 5)))))
        (pss_nil))
      (pss_cons (ps_asg (pe_op op_add (pe_ix (ixLK (K := K)) (pv 0) (pe_int) (fun _ _ => rfl)) (pe_int)) (pg_sub (pv 0) (pe_int) L2.set_list))
      (pss_cons (ps_set (i := 2) sc_law_coin.nd rfl (.inl rfl) (pe_op op_mod (pe_callTy call_int1 (by rfl) B.int (by decide +kernel) (pa_cons (pe_op op_add (pe_ix (ixLK (K := K)) (pv 0) (pe_int) (fun _ _ => rfl)) (pe_op op_mul (pe_ix (ixLK (K := K)) (pv 0) (pe_int) (fun _ _ => rfl)) (pe_int))) (pa_nil))) (pe_int)))
      (pss_cons (ps_set (i := 3) sc_law_coin.nd rfl (.inl rfl) (pe_op op_mod (pe_callTy call_int1 (by rfl) B.int (by decide +kernel) (pa_cons (pe_op op_add (pe_op op_mul (pv 2) (pv 2)) (pe_op op_mul (pe_ix (ixLK (K := K)) (pv 0) (pe_int) (fun _ _ => rfl)) (pe_int))) (pa_nil))) (pe_int)))
      (pss_cons (ps_set (i := 4) sc_law_coin.nd rfl (.inl rfl) (pe_op op_mod (pe_callTy call_int1 (by rfl) B.int (by decide +kernel) (pa_cons (pe_op op_add (pe_op op_mul (pv 3) (pv 3)) (pv 2)) (pa_nil))) (pe_int)))
      (pss_one (ps_ret (pe_op op_mod (pe_callTy call_int1 (by rfl) B.int (by decide +kernel) (pa_cons (pe_op op_fdiv (pv 4) (pe_int)) (pa_nil))) (pv 1)))))))), ?_⟩
    have sq : ∀ {x y z : Int} {H' : Hp}, H' l = some (.lst [.int x, .int y, .int z]) → SqL K H' l [.int x, .int y, .int z] := fun h => SqL.of h
    have md : ∀ (u m : Int), 0 < m → m < 4611686018427387904 → CMul (u % m) (u % m) := fun u m h0 h1 => by
      have e1 := Int.emod_nonneg u (show m ≠ 0 by omega)
      have e2 := Int.emod_lt_of_pos u h0
      have e3 : (2 : Int) ^ 64 = 18446744073709551616 := by decide
      refine .inl ?_
      rw [e3]
      exact ⟨by omega, by omega⟩
    refine ⟨_, rfl, l, _, _, _, rfl, rfl, sq hl, rfl, _, _, rfl, rfl, _, rfl, ite2 (fun _ => ?_) (fun _ => ?_)⟩
    · refine ⟨_, rfl, l, _, _, _, rfl, rfl, sq hl, rfl, .inl ⟨_, rfl, _, rfl, _, _, rfl, rfl, t0, ?_⟩⟩
      refine ⟨_, rfl, l, _, _, _, rfl, rfl, sq hl, rfl, _, rfl, _, _, rfl, rfl, ⟨t0, t1⟩, ?_⟩
      refine ⟨_, rfl, l, _, _, _, rfl, rfl, hl, rfl, ?_⟩
      exact ⟨_, rfl, q _ _ (Int.emod_nonneg _ (by omega)) (Int.emod_lt_of_pos _ t0) (KL.set _ _ _)⟩
    · refine ⟨_, rfl, l, _, _, _, rfl, rfl, sq hl, rfl, _, _, rfl, rfl, ?_⟩
      refine ⟨_, rfl, l, _, _, _, rfl, rfl, hl, rfl, ?_⟩
      have hl2 : upd H l (.lst [.int a, .int b, .int (c + 1)]) l = some (.lst [.int a, .int b, .int (c + 1)]) := upd_same
      have k2 : KL l H (upd H l (.lst [.int a, .int b, .int (c + 1)])) := KL.set _ _ _
      refine ⟨_, rfl, l, _, _, _, rfl, rfl, sq hl2, rfl, _, rfl, l, _, _, _, rfl, rfl, sq hl2, rfl, _, _, rfl, rfl, .inr ⟨by decide, by decide⟩, _, _, rfl, rfl, .inl ⟨_, rfl, _, _, rfl, rfl, by show (0 : Int) < _; decide, ?_⟩⟩
      refine ⟨_, rfl, _, rfl, _, _, rfl, rfl, md _ _ (by decide) (by decide), ?_⟩
      refine ⟨_, rfl, l, _, _, _, rfl, rfl, sq hl2, rfl, _, _, rfl, rfl, .inr ⟨by decide, by decide⟩, _, _, rfl, rfl, .inl ⟨_, rfl, _, _, rfl, rfl, by show (0 : Int) < _; decide, ?_⟩⟩
      refine ⟨_, rfl, _, rfl, _, _, rfl, rfl, md _ _ (by decide) (by decide), _, rfl, _, _, rfl, rfl, .inl ⟨_, rfl, _, _, rfl, rfl, by show (0 : Int) < _; decide, ?_⟩⟩
      exact ⟨_, rfl, _, _, rfl, rfl, ⟨by decide, by decide⟩, .inl ⟨_, rfl, _, rfl, _, _, rfl, rfl, t0, q _ _ (Int.emod_nonneg _ (by omega)) (Int.emod_lt_of_pos _ t0) k2⟩⟩
abbrev s_lpick : Stmt := top 40
theorem sc_law_pick : FnScope ["_law_purse", "_law_items"] ["_law_purse", "_law_items"] (defScope s_lpick) := ⟨rfl, rfl, rfl, by decide +kernel, rfl, by decide +kernel, by decide +kernel⟩
theorem ok_pick (B : Bt mg) (O_law_coin : Ok P w K mg base "_law_coin" 1 ["_law_purse", "_law_total"] sp_draw) (D : Df K mg "_law_pick" s_lpick ["_law_purse", "_law_items"]) : Ok P w K mg base "_law_pick" 2 ["_law_purse", "_law_items"] sp_pick := by
  refine D.ok sc_law_pick (fun vs H Q E h => ?_) (fun f cdv A outer s H vs Q E hr h => ?_)
  · obtain ⟨l, a, xs, rfl, _⟩ := h
    rfl
  · obtain ⟨l, a, xs, rfl, hv, ha, nal, h0, h1, q⟩ := h
    refine ⟨_, pss_one (ps_ret (pe_ix (ixLK (K := K)) (pv 1) (O_law_coin.call hr (ha := pa_cons (pv 0) (pa_cons (pe_callB (lenK (K := K)) (by rfl) B.len (by decide +kernel) (pa_cons (pv 1) (pa_nil))) (pa_nil)))) (fun _ _ => rfl))), ?_⟩
    refine ⟨_, rfl, _, rfl, _, rfl, a, xs, rfl, .inl (SqL.of ha), l, _, rfl, hv, by omega, by omega, fun d H' d0 d1 k => ?_⟩
    obtain ⟨j, rfl⟩ := Int.eq_ofNat_of_zero_le d0
    have hj : j < xs.length := by omega
    exact ⟨a, xs, _, xs[j], rfl, rfl, SqL.of (k.1 _ _ ha nal), atI_nat (List.getElem?_eq_getElem hj), q _ H' (List.getElem_mem hj) k⟩
abbrev s_someof : Stmt := top 41
theorem sc_law_some_of : FnScope ["_law_purse", "_law_items", "_law_size", "_law_turn", "_law_left", "_law_found"] ["_law_purse", "_law_items", "_law_size"] (defScope s_someof) := ⟨rfl, rfl, rfl, by decide +kernel, rfl, by decide +kernel, by decide +kernel⟩
def sp_someof : Sp := fun vs H Q _ => ∃ (l a : Addr) (c : Nat) (xs : List V), vs = [.ref l, .ref a, .int (c : Int)] ∧ VatV H l ∧ H a = some (.lst xs) ∧ a ≠ l ∧ c ≤ 1000 ∧ xs.length ≤ 1000 ∧
  ∀ p H' (ys zs : List V), H p = none → p ≠ l → KL l H H' → H' p = some (.lst ys) → xs.Perm (ys ++ zs) → ys.length = min c xs.length → Q (.ref p) H'
theorem ok_someof (B : Bt mg) (O_law_coin : Ok P w K mg base "_law_coin" 1 ["_law_purse", "_law_total"] sp_draw) (D : Df K mg "_law_some_of" s_someof ["_law_purse", "_law_items", "_law_size"]) : Ok P w K mg base "_law_some_of" 2 ["_law_purse", "_law_items", "_law_size"] sp_someof := by
  refine D.ok sc_law_some_of (fun vs H Q E h => ?_) (fun f cdv A outer s H vs Q E hr h => ?_)
  · obtain ⟨l, a, c, xs, rfl, _⟩ := h
    rfl
  · obtain ⟨l, a, c, xs, rfl, hv, ha, nal, hc, hx, q⟩ := h
    refine ⟨_, pss_cons (ps_par (i := 4) (j := 5) (by rfl) sc_law_some_of.nd rfl rfl (by decide) rfl rfl (pa_cons (pe_callTy call_list_of (by rfl) B.list (by decide +kernel) (pa_cons (pv 1) (pa_nil))) (pa_cons (pe_lst (pa_nil)) (pa_nil))) (by rfl))
      (pss_cons (ps_for PassesOwn.never rfl (pi_range1 (by rfl) B.range (pa_cons (pe_callB (call_min2 rfl) (by rfl) B.min (by decide +kernel) (pa_cons (pv 2) (pa_cons (pe_callB (lenK (K := K)) (by rfl) B.len (by decide +kernel) (pa_cons (pv 1) (pa_nil))) (pa_nil)))) (pa_nil))) (pg_name (i := 3) sc_law_some_of.nd rfl (.inl rfl))
        (pss_one (ps_expr (pe_bm PySem.F.plainAttrs_list PySem.F.slot_list_append PySem.F.type_list_append mt_append (pv 5) (pa_cons (pe_bm PySem.F.plainAttrs_list PySem.F.slot_list_pop PySem.F.type_list_pop mt_popAt (pv 4) (pa_cons (O_law_coin.call hr (ha := pa_cons (pv 0) (pa_cons (pe_callB (lenK (K := K)) (by rfl) B.len (by decide +kernel) (pa_cons (pv 4) (pa_nil))) (pa_nil)))) (pa_nil))) (pa_nil))))))
      (pss_one (ps_ret (pv 5)))), ?_⟩
    refine ⟨_, rfl, a, xs, rfl, .inl (SqL.of ha), fun pl hpl => ⟨by show 0 ≤ sizeLine; decide, fun pf hpf => ?_⟩⟩
    have e1 : Same H (upd H pl (.lst xs)) := same_new hpl
    have a1 : upd H pl (.lst xs) pl = some (.lst xs) := upd_same
    generalize upd H pl (.lst xs) = H1 at e1 a1 hpf
    have e2 : Same H1 (upd H1 pf (.lst [])) := same_new hpf
    have a2 : upd H1 pf (.lst []) pf = some (.lst []) := upd_same
    have npf : pl ≠ pf := fun z => by rw [z, hpf] at a1; cases a1
    generalize upd H1 pf (.lst []) = H2 at e2 a2
    have nll : ∀ {p : Addr} {H3 : Hp}, H3 p = none → VatV H3 l → p ≠ l := fun hp ⟨x, y, z, e⟩ zz => by
      rw [zz, e] at hp
      cases hp
    have n1 : pl ≠ l := nll hpl hv
    have hpf0 : H pf = none := e1.free hpf
    have n2 : pf ≠ l := nll hpf0 hv
    have e12 := e1.trans e2
    refine ⟨_, _, rfl, ?_⟩
    dsimp only [tSeq]
    refine ⟨_, rfl, _, rfl, a, xs, rfl, .inl (SqL.of (e12 _ _ ha)), _, _, rfl, ?_⟩
    obtain ⟨m, hm, hm2⟩ : ∃ m : Nat, (if (xs.length : Int) < (c : Int) then (xs.length : Int) else (c : Int)) = (m : Int) ∧ m = min c xs.length := by
      refine ⟨min c xs.length, ?_, rfl⟩
      split <;> omega
    refine ⟨_, rfl, ?_⟩
    rw [hm]
    refine ⟨by omega, by omega, ?_⟩
    refine for_range (lo := 0) (fun i σ' H' => ∃ (o3 : Option V) (left found : List V), σ' = [some (.ref l), some (.ref a), some (.int (c : Int)), o3, some (.ref pl), some (.ref pf)] ∧ H' pl = some (.lst left) ∧ H' pf = some (.lst found) ∧ KL l H H' ∧ xs.Perm (found ++ left) ∧ found.length = i)
      ⟨none, xs, [], rfl, e2 _ _ a1, a2, KL.of hv e12, by simp, rfl⟩ (fun i σ' H' hi pv => ?_) (fun σ' H' pv => ?_)
    · obtain ⟨o3, left, found, rfl, hl, hf, kk, pm, len⟩ := pv
      have ll : found.length + left.length = xs.length := by
        rw [pm.length_eq, List.length_append]
      dsimp only [gName]
      refine ⟨_, rfl, .inl ⟨rfl, _, SqL.of hf⟩, _, rfl, .inl ⟨rfl, _, SqL.of hl⟩, _, rfl, _, rfl, pl, left, rfl, .inl (SqL.of hl), l, _, rfl, kk.2, by omega, by omega, fun d H3 d0 d1 k3 => ?_⟩
      obtain ⟨j, rfl⟩ := Int.eq_ofNat_of_zero_le d0
      have hj : j < left.length := by omega
      have h3l := k3.1 _ _ hl n1
      have h3f := k3.1 _ _ hf n2
      refine ⟨pl, left, (j : Int), j, left[j], rfl, rfl, h3l, by omega, by omega, ?_, List.getElem?_eq_getElem hj, ?_⟩
      · unfold seqIndex?
        simp
        omega
      refine ⟨pf, found, left[j], rfl, rfl, by rw [upd_ne npf.symm]; exact h3f, sz_lt (by omega), ?_⟩
      refine ⟨_, left.eraseIdx j, found ++ [left[j]], rfl, by rw [upd_ne npf, upd_same], upd_same, ?_, ?_, by rw [List.length_append, len]; rfl⟩
      · have k4 := kk.trans k3
        refine ⟨fun b o hb hbl => ?_, ?_⟩
        · have nbl : b ≠ pl := fun z => by rw [z, hpl] at hb; cases hb
          have nbf : b ≠ pf := fun z => by rw [z, hpf0] at hb; cases hb
          rw [upd_ne nbf, upd_ne nbl]
          exact k4.1 b o hb hbl
        · obtain ⟨x, y, z, e⟩ := k4.2
          exact ⟨x, y, z, by rw [upd_ne n2.symm, upd_ne n1.symm]; exact e⟩
      · refine pm.trans ?_
        have p1 := erase_perm hj
        rw [List.append_assoc]
        exact List.Perm.append_left _ p1.symm
    · obtain ⟨o3, left, found, rfl, hl, hf, kk, pm, len⟩ := pv
      refine ⟨_, rfl, ?_⟩
      exact q pf H' found left hpf0 n2 kk hf pm (by omega)
end
end Tm

/-! _law_table_drawn. -/
namespace Tm
open PySem PySem.Spec PyProof.Rows L2 TmE
local macro_rules | `(tactic| walk_at "x") => `(tactic| dsimp only [tNext, tRet, tSeq, tCall, tCB, tC, tCons, tNil, tAsg, tDrop, sFld])
theorem TupD.kl {l : Addr} {H H' : Hp} {p : Addr} {ns : List Nat} (va : VatV H l) (k : KL l H H') (h : TupD H p ns) : TupD H' p ns := by
  obtain ⟨o, h1, h2⟩ := h
  refine ⟨o, h1, k.1 _ _ h2 fun z => ?_⟩
  obtain ⟨_, _, _, e⟩ := va
  rw [z, e] at h2
  cases h2
def eightN : List Str := ["add", "set", "swapa", "a", "zz", "operates", "join", "of"]
theorem eight_ok : eightN.Nodup ∧ (eightN.all okName) = true ∧ (eightN.all PyData.strOk) = true := by decide +kernel
theorem later_go {σ : L2.St} {H : Hp} {l : Addr} {n : Nat} {wy j : Int} {Q : VK} {E : XK} (h0 : σ[0]? = some (some (.ref l))) (h1 : σ[1]? = some (some (.int (n : Int)))) (h6 : σ[6]? = some (some (.int wy))) (h8 : σ[8]? = some (some (.int j))) (hv : VatV H l) (n1 : 1 ≤ n ∧ n ≤ 12) (hj : 0 ≤ j ∧ j < n) (q : ∀ y H', 0 ≤ y → y < (n : Int) → KL l H H' → Q (.int y) H') :
    tIf (tOr (tTest (tOp (rI0 fun i j => V.bl (decide (j < i))) (tVar 6) (tC (V.int 0)))) (tTest (tOp rEq (tVar 8) (tC (V.int 0))))) (tCall sp_draw [] E (tCons (tVar 0) (tCons (tVar 1) tNil))) (tVar 8) σ H Q := by
  have draw : tCall sp_draw [] E (tCons (tVar 0) (tCons (tVar 1) tNil)) σ H Q := ⟨_, h0, _, h1, l, (n : Int), rfl, hv, by omega, by omega, fun d H' d0 d1 k => q d H' d0 d1 k⟩
  refine ⟨_, h6, _, _, rfl, rfl, _, rfl, ite2 (fun _ => draw) (fun _ => ?_)⟩
  refine ⟨_, h8, rfl, _, rfl, ite2 (fun _ => draw) (fun _ => ?_)⟩
  exact ⟨_, h8, q j H hj.1 hj.2 (KL.of hv (Same.refl _))⟩
section
variable {P : Program} {w : World} {K : PySem.W.Frag} {mg : Str → Option Value} {base : Heap}
abbrev s_tdrawn : Stmt := top 42
theorem sc_law_table_drawn : FnScope ["_law_purse", "_law_size", "_law_few", "_law_words", "_law_word", "_law_found", "_law_way", "_law_row", "_law_state", "_law_answer", "_law_later"] ["_law_purse", "_law_size", "_law_few"] (defScope s_tdrawn) := ⟨rfl, rfl, rfl, by decide +kernel, rfl, by decide +kernel, by decide +kernel⟩
def sp_tdrawn : Sp := fun vs H Q _ => ∃ (l : Addr) (n c : Nat), vs = [.ref l, .int (n : Int), .int (c : Int)] ∧ VatV H l ∧ 1 ≤ n ∧ n ≤ 12 ∧ 1 ≤ c ∧ c ≤ 6 ∧
  ∀ v H' t, KL l H H' → DictV H' v t → (∀ d, v = .ref d → H d = none) → sizeT t = n → t.length ≤ c → (∀ x ∈ namesT t, x ∈ eightN) → Q v H'
theorem ok_tdrawn (B : Bt mg) (O_law_coin : Ok P w K mg base "_law_coin" 1 ["_law_purse", "_law_total"] sp_draw) (O_law_some_of : Ok P w K mg base "_law_some_of" 2 ["_law_purse", "_law_items", "_law_size"] sp_someof) (O_law_pick : Ok P w K mg base "_law_pick" 2 ["_law_purse", "_law_items"] sp_pick)
    (D : Df K mg "_law_table_drawn" s_tdrawn ["_law_purse", "_law_size", "_law_few"]) : Ok P w K mg base "_law_table_drawn" 3 ["_law_purse", "_law_size", "_law_few"] sp_tdrawn := by
  refine D.ok sc_law_table_drawn (fun vs H Q E h => ?_) (fun f cdv A outer s H vs Q E hr h => ?_)
  · obtain ⟨l, n, c, rfl, _⟩ := h
    rfl
  · obtain ⟨l, n, c, rfl, hv, n1, n12, c1, c6, q⟩ := h
    have hu := hu_of hr
    refine ⟨_, pss_cons (ps_set (i := 3) sc_law_table_drawn.nd rfl (.inl rfl) (O_law_some_of.call hr (ha := pa_cons (pv 0) (pa_cons (pe_lst (pa_cons (pe_str) (pa_cons (pe_str) (pa_cons (pe_str) (pa_cons (pe_str) (pa_cons (pe_str) (pa_cons (pe_str) (pa_cons (pe_str) (pa_cons (pe_str) (pa_nil)))))))))) (pa_cons (pe_op op_add (pe_int) (O_law_coin.call hr (ha := pa_cons (pv 0) (pa_cons (pv 2) (pa_nil))))) (pa_nil))))))
      (pss_cons (ps_par (i := 5) (j := 6) (by rfl) sc_law_table_drawn.nd rfl rfl (by decide) rfl rfl (pa_cons (pe_dnewK) (pa_cons (O_law_coin.call hr (ha := pa_cons (pv 0) (pa_cons (pe_int) (pa_nil)))) (pa_nil))) (by rfl))
      (pss_cons (ps_for PassesOwn.never rfl (pi_list (pv 3)) (pg_name (i := 4) sc_law_table_drawn.nd rfl (.inl rfl))
        (pss_cons (ps_set (i := 7) sc_law_table_drawn.nd rfl (.inl rfl) (pe_lst (pa_nil)))
      (pss_cons (ps_for PassesOwn.never rfl (pi_range1 (by rfl) B.range (pa_cons (pv 1) (pa_nil))) (pg_name (i := 8) sc_law_table_drawn.nd rfl (.inl rfl))
        (pss_cons (ps_set (i := 9) sc_law_table_drawn.nd rfl (.inl rfl) (O_law_pick.call hr (ha := pa_cons (pv 0) (pa_cons (pe_lst (pa_cons (pe_int) (pa_cons (pv 8) (pa_cons (O_law_coin.call hr (ha := pa_cons (pv 0) (pa_cons (pe_int) (pa_nil)))) (pa_cons (pe_int) (pa_nil)))))) (pa_nil)))))
      (pss_cons (ps_set (i := 10) sc_law_table_drawn.nd rfl (.inl rfl) (pe_ifExp (PW.pt (pw_or (pt_cmpR op_gt (pv 6) (pe_int) (nomark _)) (pw_or1 (pt_cmpR op_eq (pv 8) (pe_int) (nomark _))))) (O_law_coin.call hr (ha := pa_cons (pv 0) (pa_cons (pv 1) (pa_nil)))) (pv 8)))
      (pss_one (ps_expr (pe_bm PySem.F.plainAttrs_list PySem.F.slot_list_append PySem.F.type_list_append mt_append (pv 7) (pa_cons (pe_tup (pa_cons (pv 10) (pa_cons (pv 9) (pa_nil)))) (pa_nil))))))))
      (pss_one (ps_dput hu (pv 5) (pv 4) (pe_callTy (tupleK (K := K)) (by rfl) B.tuple (by decide +kernel) (pa_cons (pv 7) (pa_nil))) rfl)))))
      (pss_one (ps_ret (pv 5))))), ?_⟩
    refine ⟨_, rfl, by show 8 ≤ sizeLine; decide, fun pn hpn => ?_⟩
    have e1 : Same H (upd H pn (.lst (eightN.map V.str))) := same_new hpn
    have a1 : upd H pn (.lst (eightN.map V.str)) pn = some (.lst (eightN.map V.str)) := upd_same
    have npl : pn ≠ l := vat_ne hv hpn
    have hv1 := hv.keep e1
    refine ⟨_, rfl, _, rfl, l, (c : Int), rfl, hv1, by omega, by omega, fun d H2 d0 d1 k2 => ?_⟩
    obtain ⟨m0, rfl⟩ := Int.eq_ofNat_of_zero_le d0
    have kk2 : KL l H H2 := KL.trans (KL.of hv e1) k2
    refine ⟨_, _, rfl, rfl, l, pn, m0 + 1, eightN.map V.str, ?_, k2.2, k2.1 _ _ a1 npl, npl, by omega, by rw [List.length_map]; decide, fun p H4 ys zs hp npl' k4 hp4 pm len => ?_⟩
    · show [V.ref l, V.ref pn, V.int (1 + (m0 : Int))] = _
      rw [show (1 : Int) + (m0 : Int) = ((m0 + 1 : Nat) : Int) by omega]
    obtain ⟨ws, rfl, ndw, mw⟩ := strs_of pm eight_ok.1
    have lw : ws.length ≤ c ∧ 1 ≤ ws.length := by
      rw [List.length_map, List.length_map] at len
      have : eightN.length = 8 := rfl
      omega
    have kk4 := kk2.trans k4
    have p0 : H p = none := kl_none kk2 hp
    dsimp only [gName]
    try dsimp only [tSeq, tPar, tCons, tNil]
    refine fun pd hpd => ?_
    have ndl : pd ≠ l := vat_ne kk4.2 hpd
    have pd0 : H pd = none := kl_none kk4 hpd
    have npp : p ≠ pd := fun z => by
      rw [z, hpd] at hp4
      cases hp4
    have e5 : Same H4 (upd H4 pd (.dK [])) := same_new hpd
    have a5 : upd H4 pd (.dK []) pd = some (.dK []) := upd_same
    show (fun H' => _) (upd H4 pd (.dK []))
    generalize upd H4 pd (.dK []) = H5 at e5 a5
    have kk5 := kk4.trans (KL.of kk4.2 e5)
    refine ⟨_, rfl, l, 4, rfl, kk5.2, by omega, by omega, fun wy H6 w0 w1 k6 => ⟨_, _, rfl, ?_⟩⟩
    have kk6 := kk5.trans k6
    have hp6 := k6.1 _ _ (e5 _ _ hp4) npl'
    have hd6 := k6.1 _ _ a5 ndl
    refine ⟨_, rfl, p, rfl, ⟨_, SqL.of hp6⟩, ?_⟩
    refine for_list (K := K) (xs := ws.map V.str) (fun i σ' H' => ∃ (o4 o7 o8 o9 o10 : Option V) (kvs : List (L2.Key × V)) (t : Tab), σ' = [some (.ref l), some (.int (n : Int)), some (.int (c : Int)), some (.ref p), o4, some (.ref pd), some (.int wy), o7, o8, o9, o10] ∧ KL l H H' ∧
        H' p = some (.lst (ws.map V.str)) ∧ H' pd = some (.dK kvs) ∧ TabV H' kvs t ∧ namesT t = ws.take i ∧ (∀ e ∈ t, okRow n e.2 = true) ∧ (namesT t).Nodup)
      ⟨none, none, none, none, none, [], [], rfl, kk6, hp6, hd6, .nil, rfl, (fun _ h => nomatch h), List.Pairwise.nil⟩ (fun i σ' H' _ ⟨_, _, _, _, _, _, _, _, _, e, _⟩ => SqL.of e) (fun i x σ' H' hx pv => ?_) (fun σ' H' pv => ?_)
    · obtain ⟨o4, o7, o8, o9, o10, kvs, t, rfl, kk, hp', hd', ht, hnm, hrows, ndt⟩ := pv
      obtain ⟨nm, hn', rfl⟩ : ∃ nm, ws[i]? = some nm ∧ V.str nm = x := by
        rw [List.getElem?_map] at hx
        exact Option.map_eq_some_iff.mp hx
      have hi : i < ws.length := (List.getElem?_eq_some_iff.mp hn').1
      have ltl : t.length = i := by
        have := congrArg List.length hnm
        unfold namesT at this
        rw [List.length_map, List.length_take] at this
        omega
      dsimp only [gName]
      try dsimp only [tSeq]
      refine ⟨by show 0 ≤ sizeLine; decide, fun D hD => ?_⟩
      have nDl : D ≠ l := vat_ne kk.2 hD
      have nDp : D ≠ p := fun z => by rw [z, hp'] at hD; cases hD
      have nDd : D ≠ pd := fun z => by rw [z, hd'] at hD; cases hD
      have eD : Same H' (upd H' D (.lst [])) := same_new hD
      have aD : upd H' D (.lst []) D = some (.lst []) := upd_same
      have kD : KL l H' (upd H' D (.lst [])) := KL.of kk.2 eD
      generalize upd H' D (.lst []) = H7 at eD aD kD
      refine ⟨_, rfl, (n : Int), rfl, by omega, by omega, ?_⟩
      refine for_range (lo := 0) (fun j σ2 H2 => ∃ (o8 o9 o10 : Option V) (vs : List V) (r : Row), σ2 = [some (.ref l), some (.int (n : Int)), some (.int (c : Int)), some (.ref p), some (.str nm), some (.ref pd), some (.int wy), some (.ref D), o8, o9, o10] ∧ KL l H' H2 ∧ H2 D = some (.lst vs) ∧ Paired (PairV H2) vs r ∧ r.length = j ∧ r.all (okPair n) = true)
        ⟨_, _, _, [], [], rfl, kD, aD, .nil, rfl, rfl⟩ (fun j σ2 H2 hj pw => ?_) (fun σ2 H2 pw => ?_)
      · obtain ⟨o8, o9, o10, vs, r, rfl, k2, q1, q2, q3, q4⟩ := pw
        rw [Int.toNat_natCast] at hj
        dsimp only [gName]
        try dsimp only [tSeq]
        refine ⟨_, rfl, _, rfl, _, rfl, l, 3, rfl, k2.2, by omega, by omega, fun d8 H8 u0 u1 k8 => ⟨by show 4 ≤ sizeLine; decide, fun pc hpc => ?_⟩⟩
        have e9 := same_new (o := .lst [.int 0, .int (0 + (j : Int)), .int d8, .int 99]) hpc
        have ncl : pc ≠ l := vat_ne k8.2 hpc
        refine ⟨l, pc, [.int 0, .int (0 + (j : Int)), .int d8, .int 99], rfl, k8.2.keep e9, upd_same, ncl, by show 0 < 4; decide, by show 4 ≤ 1000; decide, fun v H10 hvm k10 => ?_⟩
        obtain ⟨an, rfl, an0, an99⟩ : ∃ an : Int, v = .int an ∧ 0 ≤ an ∧ an ≤ 99 := by
          simp only [List.mem_cons, List.not_mem_nil, or_false] at hvm
          rcases hvm with rfl | rfl | rfl | rfl
          · exact ⟨_, rfl, by omega, by omega⟩
          · exact ⟨_, rfl, by omega, by omega⟩
          · exact ⟨_, rfl, by omega, by omega⟩
          · exact ⟨_, rfl, by omega, by omega⟩
        have k210 : KL l H2 H10 := k8.trans (KL.trans (KL.of k8.2 e9) k10)
        dsimp only [gName]
        try dsimp only [tSeq]
        dsimp only [tAsg]
        refine later_go rfl rfl rfl rfl k210.2 ⟨n1, n12⟩ ⟨by omega, by omega⟩ fun y H11 y0 y1 k11 => ?_
        dsimp only [gName]
        have k12 : KL l H2 H11 := k210.trans k11
        have hD11 := k12.1 _ _ q1 nDl
        have lv := Paired.length q2
        try dsimp only [tDrop]
        refine ⟨_, rfl, .inl ⟨rfl, _, SqL.of hD11⟩, _, rfl, _, rfl, by show 2 ≤ sizeLine; decide, fun pt hpt => ?_⟩
        have e12 := same_new (o := .tup [.int y, .int an]) hpt
        have hpair : PairV (upd H11 pt (.tup [.int y, .int an])) (.ref pt) (y, an) := ⟨pt, rfl, upd_same⟩
        have hv12 : VatV (upd H11 pt (.tup [.int y, .int an])) l := k12.2.keep e12
        generalize upd H11 pt (.tup [.int y, .int an]) = H12 at e12 hpair hv12
        have hD12 := e12 _ _ hD11
        have tu : TupS H12 (upd H12 D (.lst (vs ++ [.ref pt]))) := tups_upd hD12 (fun xs z => by cases z)
        have t26 : TupS H2 H12 := (KL.tups k2.2 k12).trans (tups_of e12)
        refine ⟨D, vs, .ref pt, rfl, rfl, hD12, sz_lt (by omega), ?_⟩
        refine ⟨_, _, _, vs ++ [.ref pt], r ++ [(y, an)], rfl, ⟨fun b o hb hbl => ?_, hv12.keepU nDl⟩, upd_same, paired_app (Paired.mapP q2 fun _ _ h => h.mono (t26.trans tu)) (hpair.mono tu), by rw [List.length_append, q3]; rfl, ?_⟩
        · have nbD : b ≠ D := fun z => by rw [z, hD] at hb; cases hb
          rw [upd_ne nbD]
          exact e12 _ _ (k12.1 _ _ (k2.1 b o hb hbl) hbl)
        · rw [List.all_append, q4]
          show (true && (okPair n (y, an) && true)) = true
          unfold okPair
          simp only [Bool.true_and, Bool.and_true, Bool.and_eq_true, decide_eq_true_eq]
          omega
      · obtain ⟨o8, o9, o10, vs, r, rfl, k2, q1, q2, q3, q4⟩ := pw
        rw [Int.toNat_natCast] at q3
        try dsimp only [tCB, tCons, tNil]
        refine ⟨_, rfl, D, vs, rfl, .inl ⟨SqL.of q1, fun pr hpr => ?_⟩⟩
        have e8 : Same H2 (upd H2 pr (.tup vs)) := same_new hpr
        have hrow : RowV (upd H2 pr (.tup vs)) (.ref pr) r := ⟨pr, vs, rfl, upd_same, Paired.mapP q2 fun _ _ h => h.mono (tups_of e8)⟩
        have k8 : KL l H' (upd H2 pr (.tup vs)) := k2.trans (KL.of k2.2 e8)
        generalize upd H2 pr (.tup vs) = H8 at hrow k8
        have hd8 := k8.1 _ _ hd' ndl
        have ht8 : TabV H8 kvs t := ht.mono (KL.tups kk.2 k8)
        have nx : nm ∉ namesT t := by
          rw [hnm]
          exact nd_split ndw hn'
        obtain ⟨kvs', g1, g2, g3⟩ := tab_add hd8 ht8 hrow ndt nx (by omega)
        refine ⟨_, rfl, _, rfl, pd, _, rfl, g1, ?_⟩
        have kk8 := kk.trans k8
        refine ⟨_, _, _, _, _, kvs', t ++ [(nm, r)], rfl, ⟨fun b o hb hbl => ?_, kk8.2.keepU ndl⟩, ?_, upd_same, g2, ?_, fun e he => ?_, g3⟩
        · have nbd : b ≠ pd := fun z => by rw [z, pd0] at hb; cases hb
          rw [upd_ne nbd]
          exact kk8.1 b o hb hbl
        · rw [upd_ne npp]
          exact k8.1 _ _ hp' npl'
        · rw [take_one hn', ← hnm]
          unfold namesT
          rw [List.map_append]
          rfl
        · rcases List.mem_append.mp he with z | z
          · exact hrows e z
          · rw [List.mem_singleton.mp z]
            unfold okRow
            rw [q3, q4]
            simp
    · obtain ⟨o4, o7, o8, o9, o10, kvs, t, rfl, kk, hp', hd', ht, hnm, hrows, ndt⟩ := pv
      rw [List.length_map, List.take_length] at hnm
      have ltl : t.length = ws.length := by
        have := congrArg List.length hnm
        unfold namesT at this
        rwa [List.length_map] at this
      have hsz : sizeT t = n := by
        cases t with
        | nil =>
          simp at ltl
          omega
        | cons e t =>
          have := hrows e List.mem_cons_self
          unfold okRow at this
          simp only [Bool.and_eq_true, decide_eq_true_eq] at this
          exact this.1
      have okT : okTab t = true := by
        unfold okTab
        rw [hsz]
        simp only [Bool.and_eq_true, decide_eq_true_eq, List.all_eq_true]
        refine ⟨⟨⟨⟨by omega, by omega⟩, n1⟩, by omega⟩, fun e he => ⟨?_, hrows e he⟩⟩
        have : e.1 ∈ ws := by
          rw [← hnm]
          exact List.mem_map.mpr ⟨e, he, rfl⟩
        exact List.all_eq_true.mp eight_ok.2.1 _ (mw _ this)
      refine ⟨_, rfl, q _ _ t kk ⟨pd, kvs, rfl, hd', ht, ndt, okT⟩ (fun d e => ?_) hsz (by omega) fun x hx => ?_⟩
      · cases e
        exact pd0
      · rw [hnm] at hx
        exact mw x hx
end
end Tm

/-! _law_plan_drawn, _law_plan_of. -/
namespace Tm
open PySem PySem.Spec PyProof.Rows L2 TmE
local macro_rules | `(tactic| walk_at "x") => `(tactic| dsimp only [tNext, tRet, tSeq, tCall, tCB, tC, tCons, tNil, tAsg, tDrop, sFld])
theorem cut_drop {xs : List V} {k : Nat} (h : k ≤ xs.length) : cutV xs (some (k : Int)) none = xs.drop k := by
  unfold cutV
  rw [HT.sIx_nat, HT.sIx_none, Nat.min_eq_left h]
  exact List.take_of_length_le (by rw [List.length_drop]; omega)
theorem cut_take {xs : List V} {k : Nat} (h : k ≤ xs.length) : cutV xs none (some (k : Int)) = xs.take k := by
  unfold cutV
  rw [HT.sIx_nat, HT.sIx_none, Nat.min_eq_left h]
  simp
section
variable {P : Program} {w : World} {K : PySem.W.Frag} {mg : Str → Option Value} {base : Heap} {C CP : Addr}
abbrev s_pdrawn : Stmt := top 43
theorem sc_law_plan_drawn : FnScope ["_law_purse", "_law_size", "_law_few", "_law_threads", "_law_table", "_law_both", "_law_firsts", "_law_told", "_law_states", "_law_names", "_law_turn"] ["_law_purse", "_law_size", "_law_few", "_law_threads"] (defScope s_pdrawn) := ⟨rfl, rfl, rfl, by decide +kernel, rfl, by decide +kernel, by decide +kernel⟩
def sp_pdrawn : Sp := fun vs H Q _ => ∃ (l : Addr) (n c m : Nat), vs = [.ref l, .int (n : Int), .int (c : Int), .int (m : Int)] ∧ VatV H l ∧ 1 ≤ n ∧ n ≤ 12 ∧ 1 ≤ c ∧ c ≤ 6 ∧ 2 ≤ m ∧ m ≤ 6 ∧
  ∀ a d v1 v2 p H', KL l H H' → H' a = some (.lst [.ref d, .int (p.s : Int), v1, v2]) → H a = none → H d = none → d ≠ l → DictV H' (.ref d) p.t → TeamV H' v1 p.f → TeamV H' v2 p.g → Pl.Ok p → p.th.length ≤ m → p.t.length ≤ c → (∀ x ∈ namesT p.t, x ∈ eightN) → Q (.ref a) H'
theorem ok_pdrawn (B : Bt mg) (O_law_coin : Ok P w K mg base "_law_coin" 1 ["_law_purse", "_law_total"] sp_draw) (O_law_pick : Ok P w K mg base "_law_pick" 2 ["_law_purse", "_law_items"] sp_pick) (O_law_table_drawn : Ok P w K mg base "_law_table_drawn" 3 ["_law_purse", "_law_size", "_law_few"] sp_tdrawn)
    (D : Df K mg "_law_plan_drawn" s_pdrawn ["_law_purse", "_law_size", "_law_few", "_law_threads"]) : Ok P w K mg base "_law_plan_drawn" 4 ["_law_purse", "_law_size", "_law_few", "_law_threads"] sp_pdrawn := by
  refine D.ok sc_law_plan_drawn (fun vs H Q E h => ?_) (fun f cdv A outer s H vs Q E hr h => ?_)
  · obtain ⟨l, n, c, m, rfl, _⟩ := h
    rfl
  · obtain ⟨l, n, c, m, rfl, hv, n1, n12, c1, c6, m2, m6, q⟩ := h
    have hu := hu_of hr
    refine ⟨_, pss_cons (ps_set (i := 4) sc_law_plan_drawn.nd rfl (.inl rfl) (O_law_table_drawn.call hr (ha := pa_cons (pv 0) (pa_cons (pe_op op_add (pe_int) (O_law_coin.call hr (ha := pa_cons (pv 0) (pa_cons (pv 1) (pa_nil))))) (pa_cons (pv 2) (pa_nil))))))
      (pss_cons (ps_asg (pe_tup (pa_cons (pe_callB (lenK (K := K)) (by rfl) B.len (by decide +kernel) (pa_cons (pe_dget hu (pv 4) (pe_ix (ixLK (K := K)) (pe_callB (call_sortedD rfl) (by rfl) B.sorted (by decide +kernel) (pa_cons (pv 4) (pa_nil))) (pe_int) (fun _ _ => rfl)) (fun _ _ => rfl)) (pa_nil))) (pa_cons (pe_callB (call_sortedD rfl) (by rfl) B.sorted (by decide +kernel) (pa_cons (pv 4) (pa_nil))) (pa_nil)))) (pg_tup (by rfl) (pgs_cons (pg_name (i := 8) sc_law_plan_drawn.nd rfl (.inl rfl)) (pgs_cons (pg_name (i := 9) sc_law_plan_drawn.nd rfl (.inr rfl)) (pgs_nil)))))
      (pss_cons (ps_set (i := 5) sc_law_plan_drawn.nd rfl (.inl rfl) (pe_op op_add (pe_int) (O_law_coin.call hr (ha := pa_cons (pv 0) (pa_cons (pe_op op_sub (pv 3) (pe_int)) (pa_nil))))))
      (pss_cons (ps_set (i := 6) sc_law_plan_drawn.nd rfl (.inl rfl) (pe_op op_add (pe_int) (O_law_coin.call hr (ha := pa_cons (pv 0) (pa_cons (pe_op op_sub (pv 5) (pe_int)) (pa_nil))))))
      (pss_cons (ps_set (i := 7) sc_law_plan_drawn.nd rfl (.inl rfl) (pe_callTy (tupleK (K := K)) (by rfl) B.tuple (by decide +kernel) (pa_cons (pe_lc (own := [("_law_turn", 10)]) (g := gName 10) (tt := tYes) rfl sc_law_plan_drawn.nd (pi_range1 (by rfl) B.range (pa_cons (pv 5) (pa_nil))) (blkOk_by (own := [("_law_turn", 10)]) (N := ["_law_purse", "_law_size", "_law_few", "_law_threads", "_law_table", "_law_both", "_law_firsts", "_law_told", "_law_states", "_law_names", "_law_turn"]) (sc := defScope s_pdrawn) (by decide +kernel)) (fun _ _ _ _ _ => pg_name (i := 10) sc_law_plan_drawn.nd rfl (.inl rfl)) (fun _ _ _ _ _ => pts_nil) (fun _ _ _ _ _ => O_law_pick.call hr (ha := pa_cons (pv 0) (pa_cons (pv 9) (pa_nil))))) (pa_nil))))
      (pss_one (ps_ret (pe_lst (pa_cons (pv 4) (pa_cons (O_law_pick.call hr (ha := pa_cons (pv 0) (pa_cons (pe_lst (pa_cons (pe_int) (pa_cons (O_law_coin.call hr (ha := pa_cons (pv 0) (pa_cons (pv 8) (pa_nil)))) (pa_nil)))) (pa_nil)))) (pa_cons (pe_slice sl_tup (pv 7) (po_none) (po_some (pv 6))) (pa_cons (pe_slice sl_tup (pv 7) (po_some (pv 6)) (po_none)) (pa_nil)))))))))))), ?_⟩
    refine ⟨_, rfl, _, rfl, _, rfl, l, (n : Int), rfl, hv, by omega, by omega, fun d1 H1 d10 d1n k1 => ?_⟩
    obtain ⟨n0, rfl⟩ := Int.eq_ofNat_of_zero_le d10
    refine ⟨_, _, rfl, rfl, _, rfl, l, n0 + 1, c, ?_, k1.2, by omega, by omega, c1, c6, fun v H2 t k2 hd new sz lt nm => ?_⟩
    · show [V.ref l, V.int (1 + (n0 : Int)), V.int (c : Int)] = _
      rw [show (1 : Int) + (n0 : Int) = ((n0 + 1 : Nat) : Int) by omega]
    obtain ⟨okt, ndt⟩ := hd.ok
    have ft := ok_facts okt
    have kk2 := k1.trans k2
    obtain ⟨d, kvs, rfl, hda, ht, _, _⟩ := id hd
    have ndl : d ≠ l := vat_ne k1.2 (new _ rfl)
    dsimp only [gName]
    try dsimp only [tSeq, tAsg, tTup, tCons, tNil]
    refine ⟨_, rfl, _, rfl, d, kvs, namesT t, rfl, .inl hda, tabV_keys ht, by rw [namesT, List.length_map]; omega, fun ys p3 py sy hp3 => ?_⟩
    have e3 := same_new (o := .lst (ys.map V.str)) hp3
    have a3 : upd H2 p3 (.lst (ys.map V.str)) p3 = some (.lst (ys.map V.str)) := upd_same
    generalize upd H2 p3 (.lst (ys.map V.str)) = H3 at e3 a3
    have lys : ys.length = t.length := by rw [py.length_eq, namesT, List.length_map]
    have hy0 : 0 < ys.length := by omega
    have hm0 : ys[0] ∈ namesT t := py.mem_iff.mp (List.getElem_mem hy0)
    obtain ⟨rv, hrv, hrow⟩ := tab_look (ht.mono (tups_of e3)) ndt (row_in hm0)
    obtain ⟨b, rs, rfl, hb, hrs⟩ := id hrow
    have hg := DGet.k (k := (Sum.inr ys[0] : L2.Key)) (e3 _ _ hda)
    rw [hrv] at hg
    refine ⟨p3, ys.map V.str, 0, .str ys[0], rfl, rfl, SqL.of a3, atI_nat (j := 0) (by rw [List.getElem?_map, List.getElem?_eq_getElem hy0]; rfl), d, _, rfl, hg, b, rs, rfl, .inr (SqT.of hb), ?_⟩
    have e23 := e3
    refine ⟨_, rfl, d, kvs, namesT t, rfl, .inl (e3 _ _ hda), tabV_keys ht, by rw [namesT, List.length_map]; omega, fun ns p4 pn _ hp4 => ⟨by show 2 ≤ sizeLine; decide, fun p5 hp5 => ?_⟩⟩
    have e4 := same_new (o := .lst (ns.map V.str)) hp4
    have a4 : upd H3 p4 (.lst (ns.map V.str)) p4 = some (.lst (ns.map V.str)) := upd_same
    generalize upd H3 p4 (.lst (ns.map V.str)) = H4 at e4 a4 hp5
    have lrs : rs.length = sizeT t := by rw [Paired.length hrs]; exact (fine_of okt (row_in hm0)).len
    rw [lrs]
    have e5 := same_new (o := .tup [.int ((sizeT t : Nat) : Int), .ref p4]) hp5
    have a5 : upd H4 p5 (.tup [.int ((sizeT t : Nat) : Int), .ref p4]) p5 = some (.tup [.int ((sizeT t : Nat) : Int), .ref p4]) := upd_same
    show (fun H' => _) (upd H4 p5 (.tup [.int ((sizeT t : Nat) : Int), .ref p4]))
    generalize upd H4 p5 (.tup [.int ((sizeT t : Nat) : Int), .ref p4]) = H5 at e5 a5
    refine ⟨p5, _, rfl, SqT.of a5, rfl, _, _, rfl, ?_⟩
    dsimp only [gName]
    refine ⟨_, _, rfl, ?_⟩
    dsimp only [gName]
    refine ⟨rfl, ?_⟩
    have e25 := e3.trans (e4.trans e5)
    have kk5 : KL l H H5 := kk2.trans (KL.of k2.2 e25)
    have hd5 := hd.keep e25
    have a45 := e5 _ _ a4
    have n4l : p4 ≠ l := vat_ne (k2.2.keep e3) hp4
    have lns : ns.length = t.length := by rw [pn.length_eq, namesT, List.length_map]
    try dsimp only [tSeq]
    refine ⟨_, rfl, _, rfl, _, _, rfl, rfl, l, _, rfl, kk5.2, by omega, by omega, fun b0 H6 b00 b01 k6 => ⟨_, _, rfl, rfl, ?_⟩⟩
    obtain ⟨bo, hbo, bo2, bom⟩ : ∃ bo : Nat, (2 : Int) + b0 = (bo : Int) ∧ 2 ≤ bo ∧ bo ≤ m := ⟨(2 + b0).toNat, by omega, by omega, by omega⟩
    dsimp only [gName]
    rw [hbo]
    try dsimp only [tSeq]
    refine ⟨_, rfl, _, rfl, _, _, rfl, rfl, l, _, rfl, k6.2, by omega, by omega, fun f0 H7 f00 f01 k7 => ⟨_, _, rfl, rfl, ?_⟩⟩
    obtain ⟨fi, hfi, fi1, fib⟩ : ∃ fi : Nat, (1 : Int) + f0 = (fi : Int) ∧ 1 ≤ fi ∧ fi < bo := ⟨(1 + f0).toNat, by omega, by omega, by omega⟩
    dsimp only [gName]
    rw [hfi]
    try dsimp only [tSeq, tCB, tCons, tNil]
    have k57 := k6.trans k7
    have hd7 := hd5.kl kk5.2 k57 ndl
    have a47 := k57.1 _ _ a45 n4l
    have kk7 := kk5.trans k57
    refine ⟨_, rfl, (bo : Int), rfl, by omega, by omega, fun D hD => ?_⟩
    have nDl : D ≠ l := vat_ne kk7.2 hD
    have nD4 : D ≠ p4 := fun z => by rw [z, a47] at hD; cases hD
    refine lc_range (lo := 0) (Pv := fun j H2 => KL l H7 H2 ∧ ∃ xs : List Str, H2 D = some (.lst (strV xs)) ∧ xs.length = j ∧ ∀ x ∈ xs, x ∈ namesT t) ⟨⟨fun b o e _ => same_new hD b o e, kk7.2.keep (same_new hD)⟩, [], upd_same, rfl, fun _ h => nomatch h⟩ (fun j H8 hj pw => ?_) (fun H8 pw => ?_)
    · obtain ⟨k8, xs, q1, q2, q3⟩ := pw
      rw [Int.toNat_natCast] at hj
      refine ⟨rfl, ?_⟩
      dsimp only [tYes]
      rw [if_pos rfl]
      have a48 := k8.1 _ _ a47 n4l
      refine ⟨_, rfl, _, rfl, l, p4, ns.map V.str, rfl, k8.2, a48, n4l, by rw [List.length_map]; omega, by rw [List.length_map]; omega, fun v H9 hv9 k9 => ?_⟩
      obtain ⟨x, hx, rfl⟩ := List.mem_map.mp hv9
      have k89 := k8.trans k9
      refine ⟨strV xs, k9.1 _ _ q1 nDl, sz_lt (by unfold strV; rw [List.length_map]; omega), ⟨fun b o hb hbl => ?_, k89.2.keepU nDl⟩, xs ++ [x], ?_, by rw [List.length_append, q2]; rfl, fun y hy => ?_⟩
      · have nbD : b ≠ D := fun z => by rw [z, hD] at hb; cases hb
        rw [upd_ne nbD]
        exact k89.1 b o hb hbl
      · rw [upd_same]
        unfold strV
        rw [List.map_append]
        rfl
      · rcases List.mem_append.mp hy with z | z
        · exact q3 y z
        · rw [List.mem_singleton.mp z]
          exact pn.mem_iff.mp hx
    · obtain ⟨k8, xs, q1, q2, q3⟩ := pw
      rw [Int.toNat_natCast] at q2
      refine ⟨D, strV xs, rfl, .inl ⟨SqL.of q1, fun p9 hp9 => ?_⟩⟩
      have e9 := same_new (o := .tup (strV xs)) hp9
      have a9 : upd H8 p9 (.tup (strV xs)) p9 = some (.tup (strV xs)) := upd_same
      generalize upd H8 p9 (.tup (strV xs)) = H9 at e9 a9
      have k79 : KL l H7 H9 := k8.trans (KL.of k8.2 e9)
      have kk9 := kk7.trans k79
      have hd9 := hd7.kl kk7.2 k79 ndl
      dsimp only [gName]
      try dsimp only [tRet, tLst, tCons, tNil]
      refine ⟨_, rfl, _, rfl, _, rfl, _, rfl, l, _, rfl, kk9.2, by omega, by omega, fun s0 H10 s00 s01 k10 => ⟨by show 2 ≤ sizeLine; decide, fun pc hpc => ?_⟩⟩
      have e10 := same_new (o := .lst [.int 0, .int s0]) hpc
      have ncl : pc ≠ l := vat_ne k10.2 hpc
      refine ⟨l, pc, [.int 0, .int s0], rfl, k10.2.keep e10, upd_same, ncl, by show 0 < 2; decide, by show 2 ≤ 1000; decide, fun v H11 hvm k11 => ?_⟩
      obtain ⟨st, rfl, stl⟩ : ∃ st : Nat, v = .int (st : Int) ∧ st < sizeT t := by
        simp only [List.mem_cons, List.not_mem_nil, or_false] at hvm
        rcases hvm with rfl | rfl
        · exact ⟨0, rfl, by omega⟩
        · exact ⟨s0.toNat, by rw [Int.toNat_of_nonneg s00], by omega⟩
      have k911 : KL l H9 H11 := k10.trans (KL.trans (KL.of k10.2 e10) k11)
      have n9l : p9 ≠ l := vat_ne k8.2 hp9
      have a11 := k911.1 _ _ a9 n9l
      have hd11 := hd9.kl kk9.2 k911 ndl
      have kk11 := kk9.trans k911
      have lx : (strV xs).length = bo := by unfold strV; rw [List.length_map, q2]
      refine ⟨_, rfl, _, rfl, _, rfl, p9, strV xs, rfl, SqT.of a11, fun z => ?_, fun pa hpa => ?_⟩
      · have := z.2
        rw [HT.sIx_nat, lx] at this
        omega
      rw [cut_take (by omega)]
      have e12 := same_new (o := .tup ((strV xs).take fi)) hpa
      have a12 : upd H11 pa (.tup ((strV xs).take fi)) pa = some (.tup ((strV xs).take fi)) := upd_same
      generalize upd H11 pa (.tup ((strV xs).take fi)) = H12 at e12 a12
      refine ⟨_, rfl, _, rfl, _, rfl, p9, strV xs, rfl, SqT.of (e12 _ _ a11), fun z => ?_, fun pb hpb => ?_⟩
      · have := z.1
        rw [HT.sIx_nat, lx] at this
        omega
      rw [cut_drop (by omega)]
      have e13 := same_new (o := .tup ((strV xs).drop fi)) hpb
      have a13 : upd H12 pb (.tup ((strV xs).drop fi)) pb = some (.tup ((strV xs).drop fi)) := upd_same
      generalize upd H12 pb (.tup ((strV xs).drop fi)) = H13 at e13 a13
      refine ⟨by show 4 ≤ sizeLine; decide, fun pr hpr => ?_⟩
      have e14 := same_new (o := .lst [.ref d, .int (st : Int), .ref pa, .ref pb]) hpr
      have e1114 := e12.trans (e13.trans e14)
      have kk14 := kk11.trans (KL.of kk11.2 e1114)
      refine q pr d (.ref pa) (.ref pb) ⟨t, st, xs.take fi, xs.drop fi⟩ _ kk14 upd_same (kl_none (kk11.trans (KL.of kk11.2 (e12.trans e13))) hpr) (kl_none k1 (new _ rfl)) ndl (hd11.keep e1114) ⟨pa, rfl, .inl ?_⟩ ⟨pb, rfl, .inl ?_⟩ ⟨stl, fun z => ?_, fun z => ?_, ?_, fun y hy => ?_⟩ ?_ lt nm
      · rw [(e13.trans e14) _ _ a12]
        unfold strV
        rw [List.map_take]
      · rw [e14 _ _ a13]
        unfold strV
        rw [List.map_drop]
      · have := congrArg List.length (show xs.take fi = [] from z)
        rw [List.length_take, List.length_nil] at this
        omega
      · have := congrArg List.length (show xs.drop fi = [] from z)
        rw [List.length_drop, List.length_nil] at this
        omega
      · show (xs.take fi).length + (xs.drop fi).length ≤ 6
        rw [List.length_take, List.length_drop]
        omega
      · have hy : y ∈ xs.take fi ++ xs.drop fi := hy
        rw [List.take_append_drop] at hy
        exact q3 y hy
      · show (xs.take fi ++ xs.drop fi).length ≤ m
        rw [List.take_append_drop]
        omega
end
end Tm

/-! _law_plan_of; what goes along: renamed, mapped, turned, beside, cut. -/
namespace Tm
open PySem PySem.Spec PyProof.Rows L2 TmE
section
variable {K : PySem.W.Frag} {C CP : Addr} {σ : L2.St} {H : Hp} {tk ts t1 t2 : TE} {E : XK}
theorem ev_planK {R : Tab → Prop} {s : Nat} {f g : List Str} (hk : Ev tk σ H fun v H1 => ∃ t, KindV C H1 v t ∧ R t) (hs : ∀ H1, Same H H1 → Ev ts σ H1 fun v _ => v = .int (s : Int)) (h1 : ∀ H1, Same H H1 → Ev t1 σ H1 fun v H2 => TeamV H2 v f) (h2 : ∀ H1, Same H H1 → Ev t2 σ H1 fun v H2 => TeamV H2 v g) (ok : ∀ t, R t → Pl.Ok ⟨t, s, f, g⟩) :
    Ev (tMake CP (sp_pinit C CP) [] E (tCons tk (tCons ts (tCons t1 (tCons t2 tNil))))) σ H fun v H1 => ∃ t, R t ∧ PlanV C CP H1 v ⟨t, s, f, g⟩ := fun Q q =>
  hk _ fun v H1 e1 k1 => hs H1 e1 _ fun v2 H2 e2 k2 => by
    subst k2
    obtain ⟨t, k1, r⟩ := k1
    exact h1 H2 (e1.trans e2) _ fun v3 H3 e3 k3 => h2 H3 (e1.trans (e2.trans e3)) _ fun v4 H4 e4 k4 => mk_plan (Q := Q) (p := ⟨t, s, f, g⟩) (k1.keep (e2.trans (e3.trans e4))) (k3.keep e4) k4 (ok t r) fun v H' e' pv => q v H' (e1.trans (e2.trans (e3.trans (e4.trans e')))) ⟨t, r, pv⟩
end
section
variable {P : Program} {w : World} {K : PySem.W.Frag} {mg : Str → Option Value} {base : Heap} {C CP : Addr}
abbrev s_planof : Stmt := top 44
theorem sc_law_plan_of : FnScope ["_law_parts"] ["_law_parts"] (defScope s_planof) := ⟨rfl, rfl, rfl, by decide +kernel, rfl, by decide +kernel, by decide +kernel⟩
def sp_planof (C CP : Addr) : Sp := fun vs H Q _ => ∃ (a d : Addr) (v1 v2 : V) (p : Pl), vs = [.ref a] ∧ H a = some (.lst [.ref d, .int (p.s : Int), v1, v2]) ∧ DictV H (.ref d) p.t ∧ TeamV H v1 p.f ∧ TeamV H v2 p.g ∧ p.Ok ∧
  ∀ u t1 H', Same H H' → t1.Perm p.t → PlanV C CP H' u ⟨t1, p.s, p.f, p.g⟩ → Q u H'
theorem ok_planof (OC_Kind : OkC P w K mg base "Kind" C 5 ["self", "operations"] (sp_init C)) (OC_Plan : OkC P w K mg base "Plan" CP 4 ["self", "kind", "start", "first", "second"] (sp_pinit C CP)) (D : Df K mg "_law_plan_of" s_planof ["_law_parts"]) : Ok P w K mg base "_law_plan_of" 7 ["_law_parts"] (sp_planof C CP) := by
  refine D.ok sc_law_plan_of (fun vs H Q E h => ?_) (fun f cdv A outer s H vs Q E hr h => ?_)
  · obtain ⟨a, d, v1, v2, p, rfl, _⟩ := h
    rfl
  · obtain ⟨a, d, v1, v2, p, rfl, ha, hd, h1, h2, ok, q⟩ := h
    refine ⟨_, pss_one (ps_ret (OC_Plan.make hr (ha := pa_cons (OC_Kind.make hr (ha := pa_cons (pe_ix (ixLK (K := K)) (pv 0) (pe_int) (fun _ _ => rfl)) (pa_nil))) (pa_cons (pe_ix (ixLK (K := K)) (pv 0) (pe_int) (fun _ _ => rfl)) (pa_cons (pe_ix (ixLK (K := K)) (pv 0) (pe_int) (fun _ _ => rfl)) (pa_cons (pe_ix (ixLK (K := K)) (pv 0) (pe_int) (fun _ _ => rfl)) (pa_nil))))))), ?_⟩
    dsimp only [tRet]
    have okt := hd.ok.1
    have ix : ∀ {H1 : Hp} {j : Nat} {v : V} {R : V → Hp → Prop}, Same H H1 → ([V.ref d, .int (p.s : Int), v1, v2])[j]? = some v → R v H1 → Ev (tOp (rIxL K) (tVar 0) (tC (.int (j : Int)))) (L2.start ["_law_parts"] [V.ref a]) H1 R := fun {H1 j v R} e hj r Q q => ⟨_, rfl, a, _, _, _, rfl, rfl, SqL.of (e _ _ ha), atI_nat hj, q _ _ (Same.refl _) r⟩
    refine ev_planK (C := C) (CP := CP) (R := fun t1 => t1.Perm p.t) (s := p.s) (f := p.f) (g := p.g) (ev_mk (t := p.t) (ix (j := 0) (Same.refl _) rfl hd)) (fun H1 e1 => ix (j := 1) e1 rfl rfl) (fun H1 e1 => ix (j := 2) e1 rfl (h1.keep e1)) (fun H1 e1 => ix (j := 3) e1 rfl (h2.keep e1)) (fun t1 pm => ?_) _ fun u H1 e1 r1 => ?_
    · exact ⟨by show _ < sizeT t1; rw [size_perm okt pm]; exact ok.s, ok.f, ok.g, ok.few, fun x hx => (pm.map (fun e : Str × Row => e.1)).mem_iff.mpr (ok.all x hx)⟩
    · obtain ⟨t1, pm, pv⟩ := r1
      exact q u t1 H1 e1 pm pv
end
end Tm

set_option maxHeartbeats 2000000
/-! sorted(a list of data alike), any length. -/
namespace TmZ
open PySem PySem.Spec PyProof.Rows L2
theorem vals_of_each : ∀ {out : List Value} {bs : List (V × PyData)}, PySem.W.EachIs (fun u (b : V × PyData) => RelV b.1 u) out bs → Vals (bs.map (·.1)) out
  | _, _, .nil => .nil
  | _, _, .cons r t => .cons r (vals_of_each t)
theorem each_of_vals : ∀ {out : List Value} {bs : List (V × PyData)}, Vals (bs.map (·.1)) out → PySem.W.EachIs (fun u (b : V × PyData) => RelV b.1 u) out bs
  | [], [], _ => .nil
  | u :: us, b :: bs, h => by
    cases h with
    | cons r t => exact .cons r (each_of_vals t)
/-- sorted(xs), xs a list of data that are alike: a new list, the items in the order of the data -/
def rSortDt (K : PySem.W.Frag) : List V → Hp → VK → Prop := fun vs H Q => ∃ (a : Addr) (bs : List (V × PyData)), vs = [V.ref a] ∧ SqL K H a (bs.map (·.1)) ∧ (∀ b ∈ bs, Dp K H b.1 b.2) ∧ PySem.W.AllAlike (bs.map (·.2)) ∧ PySem.W.Sortable (bs.map (·.2)) ∧ (∀ b ∈ bs, b.2.depth ≤ 32) ∧
  ∀ p, H p = none → Q (.ref p) (upd H p (.lst ((bs.mergeSort (PySem.W.dataLe false (·.2))).map (·.1))))
theorem cr_sortDt {X : Cx} {K : PySem.W.Frag} (hu : X.A.units + 64 < cLine) (hK : X.K = K := by rfl) : CallR X (.builtin "sorted") (rSortDt K) := by
  subst hK
  intro pins s σ H vs us Q I r h
  obtain ⟨a, bs, rfl, hs, hd, hal, hso, hdp, q⟩ := h
  obtain ⟨its, rv, hl, hz⟩ := I.list hs
  rw [Vals.ref1 r]
  have ea := each_of_vals rv
  have len : its.length = bs.length := ea.length
  have er : PySem.W.EachIs (fun v (b : V × PyData) => ∃ as, Reads s.heap v b.2 as) its bs := by
    have : ∀ {its : List Value} {cs : List (V × PyData)}, PySem.W.EachIs (fun u (b : V × PyData) => RelV b.1 u) its cs → (∀ b ∈ cs, Dp X.K H b.1 b.2) → PySem.W.EachIs (fun v (b : V × PyData) => ∃ as, Reads s.heap v b.2 as) its cs := by
      intro its cs h
      induction h with
      | nil => exact fun _ => .nil
      | @cons u b us bs r t ih => exact fun g => .cons (Dp.reads I _ _ _ (g b List.mem_cons_self) r) (ih fun c hc => g c (List.mem_cons_of_mem _ hc))
    exact this ea hd
  have few : bs.length ≤ sizeLine := by rw [List.length_map] at hz; exact hz
  refine PySem.W.sorted_data (R := fun u (b : V × PyData) => RelV b.1 u) (enc := fun b => b.2) hl.isList ea er hal hso few (fun b hb => ?_) fun out h1 h2 => ?_
  · have := hdp b hb
    omega
  · obtain ⟨ep, he'⟩ := PyProof.Rows.sortedAll_at s.heap its out.toArray
    have hl2 : ((bs.mergeSort (PySem.W.dataLe false (·.2))).map (·.1)).length ≤ sizeLine := by rw [List.length_map, List.length_mergeSort]; exact few
    exact ⟨.ref _, upd H (s.heap.objs.size + 1) (.lst ((bs.mergeSort (PySem.W.dataLe false (·.2))).map (·.1))), I.laid (t' := s.toks) (fun _ _ => PyProof.Rows.sortedAll_old) (Nat.le_succ _) ⟨hl2, out, ep, vals_of_each h2, he'⟩, rfl, q _ (I.hok.fresh (Nat.le_succ _))⟩
end TmZ

/-! tuple * 0, tuple * 1. -/
namespace TmZ
open PySem PySem.Spec PyProof.Rows L2 PySem.SeqAt
open AutoSeq1 (wpAny_loadPart')
theorem tup_once1 (a : Addr) (us : Array Value) (k : Nat) (dd : Option Addr) (sl : Array (Option Value)) (t : Tok) (c : (us.isEmpty || (1 : Int) == 1) = true) :
    Meets (Builtin.«tuple.__mul__» ⟨[.ref a, .int 1 t], []⟩) fun _ R s => s.heap.get? a = some { cls := .type "tuple", dict := dd, data := .seq us k, slots := sl } ∧ R (.ok (.ret (.ref a))) s :=
  .of_wp fun P w A R s h => by
    obtain ⟨hp, gs, dr, tk, os⟩ := s
    obtain ⟨at_, q⟩ := h
    have e1 := AutoSeq1.idx_int
    wp_walk using AutoSeq1.wpAny_loadPart' at_
    exact ⟨_, rfl, q⟩
theorem tup_none (a : Addr) (us : Array Value) (k : Nat) (dd : Option Addr) (sl : Array (Option Value)) (t : Tok) (c : (us.isEmpty || (0 : Int) == 1) = false) :
    Meets (Builtin.«tuple.__mul__» ⟨[.ref a, .int 0 t], []⟩) fun _ R s => s.heap.get? a = some { cls := .type "tuple", dict := dd, data := .seq us k, slots := sl } ∧ R (.ok (.ret (Value.ref s.heap.objs.size))) { s with heap := s.heap.push { cls := Value.type "tuple", data := Data.seq #[] }, toks := s.toks } :=
  .of_wp fun P w A R s h => by
    obtain ⟨hp, gs, dr, tk, os⟩ := s
    obtain ⟨at_, q⟩ := h
    have e1 := AutoSeq1.idx_int
    wp_walk using AutoSeq1.wpAny_loadPart' at_
    repeat (first
      | (refine wpAny_ite_false (decide_eq_false (by rw [c]; exact Bool.false_ne_true)) ?_; wp_walk using AutoSeq1.wpAny_loadPart' at_)
      | (refine wpAny_ite_true (decide_eq_true (by rfl)) ?_; wp_walk using AutoSeq1.wpAny_loadPart' at_))
    exact ⟨_, rfl, q⟩
/-- (x,) * 0, (x,) * 1 -/
def rRep01 (K : PySem.W.Frag) : R2 := fun x y H Q => ∃ l k xs, x = .ref l ∧ y = .int k ∧ SqT K H l xs ∧ xs ≠ [] ∧ ((k = 1 ∧ Q (.ref l) H) ∨ (k = 0 ∧ ∀ p, H p = none → Q (.ref p) (upd H p (.tup []))))
theorem op_rep01 {X : Cx} {K : PySem.W.Frag} (hK : X.K = K := by rfl) : OpR X (binaryOp .Mult) (rRep01 K) := by
  subst hK
  intro pins s σ H x y v u Q I rx ry h
  obtain ⟨l, k, xs, rfl, rfl, sq, ne, cs⟩ := h
  cases rx
  obtain ⟨t, rfl⟩ := ry
  obtain ⟨its, r, ⟨⟨oc, dd, od, sl⟩, at_, c, n, d⟩, _⟩ := I.tuple sq
  dsimp only at c d
  cases c
  cases d
  rcases cs with ⟨rfl, q⟩ | ⟨rfl, q⟩
  · refine wpAny_binaryOp_repeat_ref (T := "tuple") (U := "int") (by decide) ⟨_, at_, rfl⟩ (fun z => typeIs_int z 1 t) noFill_tuple_mul F.fills_int_mul F.slot_int_rmul repeat_tuple F.slot_int_index.lookup
      (call_meets F.slot_int_rmul (typeIs_int s 1 t) F.entry_int_rmul (F.args_int_rmul_2 _ _) (int_rmul_tuple 1 t l its.toArray n dd sl) ⟨at_, rfl, ⟨_, at_, rfl⟩, call_meets F.slot_tuple_mul ⟨_, at_, rfl⟩ F.entry_tuple_mul (F.args_tuple_mul_2 _ _) (tup_once1 l its.toArray n dd sl t (Bool.or_true _)) ⟨at_, ?_⟩⟩)
    exact ⟨.ref l, H, I, rfl, q⟩
  · have hn : its ≠ [] := fun e => ne (by
      have hle : its.length = xs.length := r.length.symm
      rw [e] at hle
      exact List.eq_nil_of_length_eq_zero hle.symm)
    have hi : (its.toArray.isEmpty || (0 : Int) == 1) = false := by
      cases its with
      | nil => exact absurd rfl hn
      | cons a b => rfl
    refine wpAny_binaryOp_repeat_ref (T := "tuple") (U := "int") (by decide) ⟨_, at_, rfl⟩ (fun z => typeIs_int z 0 t) noFill_tuple_mul F.fills_int_mul F.slot_int_rmul repeat_tuple F.slot_int_index.lookup
      (call_meets F.slot_int_rmul (typeIs_int s 0 t) F.entry_int_rmul (F.args_int_rmul_2 _ _) (int_rmul_tuple 0 t l its.toArray n dd sl) ⟨at_, rfl, ⟨_, at_, rfl⟩, call_meets F.slot_tuple_mul ⟨_, at_, rfl⟩ F.entry_tuple_mul (F.args_tuple_mul_2 _ _) (tup_none l its.toArray n dd sl t hi) ⟨at_, ?_⟩⟩)
    exact ⟨.ref s.heap.objs.size, _, I.laid (o := .tup []) (t' := s.toks) (fun b o e => Heap.get?_push_of_some _ e) (Nat.le_refl _) ⟨by show 0 ≤ sizeLine; decide, [], .nil, IsTup.new _ _⟩, rfl, q _ (I.hok.fresh (Nat.le_refl _))⟩
end TmZ

set_option maxHeartbeats 4000000
/-! texts sorted; the two teams of a normal plan. -/
namespace Tm
open PySem PySem.Spec PyProof.Rows L2 TmZ TmE
theorem ok_strs {ns : List Str} (h : ∀ x ∈ ns, okName x = true) : ns.all PyData.strOk = true := by
  rw [List.all_eq_true]
  intro x hx
  have hk := h x hx
  unfold okName at hk
  simp only [Bool.and_eq_true] at hk
  unfold PyData.strOk
  rw [← Array.all_toList, List.all_eq_true]
  intro c hc
  have := List.all_eq_true.mp hk.2 c hc
  simp only [Bool.and_eq_true, decide_eq_true_eq] at this ⊢
  omega
/-! ### texts sorted -/
def insS (x : Str) : List Str → List Str
  | [] => [x]
  | y :: r => if ltCps x.cps.toList y.cps.toList = true then x :: y :: r else y :: insS x r
def srtS : List Str → List Str
  | [] => []
  | x :: r => insS x (srtS r)
theorem ins_perm (x : Str) : ∀ l : List Str, (insS x l).Perm (x :: l)
  | [] => .refl _
  | y :: r => by
    unfold insS
    by_cases h : ltCps x.cps.toList y.cps.toList = true
    · rw [if_pos h]
    · rw [if_neg h]
      exact ((ins_perm x r).cons y).trans (List.Perm.swap x y r)
theorem srt_perm : ∀ l : List Str, (srtS l).Perm l
  | [] => .refl _
  | x :: r => (ins_perm x (srtS r)).trans ((srt_perm r).cons x)
theorem ltc_asym {a b : List Nat} (h : ltCps a b = true) : ltCps b a = false := by
  rw [ltCps_eq, decide_eq_true_eq] at h
  rw [ltc_no]
  exact List.le_of_lt h
theorem ins_rising {p x : Str} : ∀ {l : List Str}, risingS p l = true → ltCps x.cps.toList p.cps.toList = false → risingS p (insS x l) = true
  | [], _, hx => by
    show (!ltCps x.cps.toList p.cps.toList && true) = true
    rw [hx]
    rfl
  | y :: r, h, hx => by
    have h2 : (!ltCps y.cps.toList p.cps.toList && risingS y r) = true := h
    simp only [Bool.and_eq_true, Bool.not_eq_true'] at h2
    unfold insS
    by_cases c : ltCps x.cps.toList y.cps.toList = true
    · rw [if_pos c]
      show (!ltCps x.cps.toList p.cps.toList && (!ltCps y.cps.toList x.cps.toList && risingS y r)) = true
      rw [hx, ltc_asym c, h2.2]
      rfl
    · rw [if_neg c]
      show (!ltCps y.cps.toList p.cps.toList && risingS y (insS x r)) = true
      rw [h2.1, ins_rising h2.2 (by simpa using c)]
      rfl
theorem ins_sorted {x : Str} : ∀ {l : List Str}, sortedS l = true → sortedS (insS x l) = true
  | [], _ => rfl
  | y :: r, h => by
    have h2 : risingS y r = true := h
    unfold insS
    by_cases c : ltCps x.cps.toList y.cps.toList = true
    · rw [if_pos c]
      show (!ltCps y.cps.toList x.cps.toList && risingS y r) = true
      rw [ltc_asym c, h2]
      rfl
    · rw [if_neg c]
      exact ins_rising h2 (by simpa using c)
theorem srt_sorted : ∀ l : List Str, sortedS (srtS l) = true
  | [] => rfl
  | _ :: r => ins_sorted (srt_sorted r)
theorem srt_is {ys l : List Str} (p : ys.Perm l) (s : sortedS ys = true) : ys = srtS l := sorted_one (p.trans (srt_perm l).symm) s (srt_sorted l)
theorem srt_congr {l m : List Str} (p : l.Perm m) : srtS l = srtS m := srt_is ((srt_perm l).trans p) (srt_sorted l)
theorem srt_srt (l : List Str) : srtS (srtS l) = srtS l := (srt_is (.refl _) (srt_sorted l)).symm
theorem srt_len (l : List Str) : (srtS l).length = l.length := (srt_perm l).length_eq
/-! ### the order of two teams -/
def encT (l : List Str) : PyData := .tuple [.int (l.length : Int), teamD l]
def ltT (a b : List Str) : Bool := PySem.W.dataLt (encT a) (encT b)
theorem toks_inj : ∀ {a b : List Str}, PySem.W.keyToksAll (a.map .str) = PySem.W.keyToksAll (b.map .str) → a = b
  | [], [], _ => rfl
  | [], b :: bs, h => by
    simp only [List.map_nil, List.map_cons, PySem.W.keyToksAll] at h
    injection h with h1 h2
    cases h1
  | a :: as, [], h => by
    simp only [List.map_nil, List.map_cons, PySem.W.keyToksAll] at h
    injection h with h1 h2
    cases h1
  | a :: as, b :: bs, h => by
    simp only [List.map_cons, PySem.W.keyToksAll, PySem.W.keyToks, List.cons_append, List.nil_append] at h
    injection h with h1 h2
    injection h2 with h3 h4
    have e : a = b := PySem.W.str_of_cps (Sum.inr.inj h3)
    rw [e, toks_inj h4]
theorem ltT_eq {a b : List Str} (h1 : ltT a b = false) (h2 : ltT b a = false) : a = b := by
  have h := lex_total _ _ h1 h2
  simp only [encT, teamD, PySem.W.keyToks, PySem.W.keyToksAll, List.cons_append, List.nil_append] at h
  injection h with _ h
  injection h with _ h
  injection h with _ h
  exact toks_inj (List.append_cancel_right h)
theorem ltT_asym {a b : List Str} (h : ltT a b = true) : ltT b a = false := by
  cases e : ltT b a with
  | false => rfl
  | true =>
    have := lex_trans _ _ _ h e
    rw [lex_irrefl] at this
    cases this
/-! ### the normal teams -/
def nrmF (f g : List Str) : List Str := if ltT (srtS g) (srtS f) = true then srtS g else srtS f
def nrmG (f g : List Str) : List Str := if ltT (srtS g) (srtS f) = true then srtS f else srtS g
theorem nrm_idem (f g : List Str) : nrmF (nrmF f g) (nrmG f g) = nrmF f g ∧ nrmG (nrmF f g) (nrmG f g) = nrmG f g := by
  by_cases h : ltT (srtS g) (srtS f) = true
  · have a : nrmF f g = srtS g := if_pos h
    have b : nrmG f g = srtS f := if_pos h
    have c := ltT_asym h
    rw [a, b]
    unfold nrmF nrmG
    rw [srt_srt, srt_srt, c]
    exact ⟨if_neg (by decide), if_neg (by decide)⟩
  · have a : nrmF f g = srtS f := if_neg h
    have b : nrmG f g = srtS g := if_neg h
    rw [a, b]
    unfold nrmF nrmG
    rw [srt_srt, srt_srt]
    exact ⟨if_neg h, if_neg h⟩
theorem nrm_comm (f g : List Str) : nrmF g f = nrmF f g ∧ nrmG g f = nrmG f g := by
  by_cases h : ltT (srtS g) (srtS f) = true
  · have c := ltT_asym h
    unfold nrmF nrmG
    rw [if_pos h, if_pos h, c]
    exact ⟨if_neg (by decide), if_neg (by decide)⟩
  · by_cases k : ltT (srtS f) (srtS g) = true
    · unfold nrmF nrmG
      rw [if_neg h, if_neg h, if_pos k, if_pos k]
      exact ⟨rfl, rfl⟩
    · have e := ltT_eq (by simpa using h) (by simpa using k)
      unfold nrmF nrmG
      rw [if_neg h, if_neg h, if_neg k, if_neg k, e]
      exact ⟨rfl, rfl⟩
theorem nrm_perm (f g : List Str) : (nrmF f g ++ nrmG f g).Perm (f ++ g) := by
  by_cases h : ltT (srtS g) (srtS f) = true
  · unfold nrmF nrmG
    rw [if_pos h, if_pos h]
    exact List.perm_append_comm.trans ((srt_perm f).append (srt_perm g))
  · unfold nrmF nrmG
    rw [if_neg h, if_neg h]
    exact (srt_perm f).append (srt_perm g)
def Pl.nrm (p : Pl) : Pl := ⟨p.t, p.s, nrmF p.f p.g, nrmG p.f p.g⟩
theorem nrm_len (f g : List Str) : (nrmF f g ≠ [] ∧ nrmG f g ≠ []) ↔ (f ≠ [] ∧ g ≠ []) := by
  have z : ∀ l : List Str, srtS l ≠ [] ↔ l ≠ [] := fun l => by
    rw [← List.length_pos_iff, ← List.length_pos_iff, srt_len]
  unfold nrmF nrmG
  by_cases h : ltT (srtS g) (srtS f) = true
  · rw [if_pos h, if_pos h, z, z]
    exact and_comm
  · rw [if_neg h, if_neg h, z, z]
theorem Pl.Ok.nrm {p : Pl} (ok : p.Ok) : p.nrm.Ok := by
  have l := (nrm_len p.f p.g).mpr ⟨ok.f, ok.g⟩
  have pm := nrm_perm p.f p.g
  refine ⟨ok.s, l.1, l.2, ?_, fun x hx => ok.all x (pm.mem_iff.mp hx)⟩
  have := pm.length_eq
  rw [List.length_append, List.length_append] at this
  show (nrmF p.f p.g).length + (nrmG p.f p.g).length ≤ 6
  rw [this]
  exact ok.few
theorem Pl.Ok.swap {p : Pl} (ok : p.Ok) : Pl.Ok ⟨p.t, p.s, p.g, p.f⟩ :=
  ⟨ok.s, ok.g, ok.f, by show p.g.length + p.f.length ≤ 6; rw [Nat.add_comm]; exact ok.few, fun x hx => ok.all x (List.perm_append_comm.mem_iff.mp hx)⟩
/-! ### data of teams -/
theorem eqv_strsD : ∀ a b : List Str, PyData.eqvAll (a.map .str) (b.map .str) = decide (a = b)
  | [], [] => by simp [PyData.eqvAll]
  | [], b :: bs => by simp [PyData.eqvAll]
  | a :: as, [] => by simp [PyData.eqvAll]
  | a :: as, b :: bs => by
    rw [List.map_cons, List.map_cons, PyData.eqvAll, eqv_strsD as bs, Bool.eq_iff_iff]
    simp [PyData.eqv]
theorem eqv_team (a b : List Str) : PyData.eqv (teamD a) (teamD b) = decide (a = b) := by
  unfold teamD
  rw [PyData.eqv, eqv_strsD]
theorem eqv_pair (a b c d : List Str) : PyData.eqv (.tuple [teamD a, teamD b]) (.tuple [teamD c, teamD d]) = decide (a = c ∧ b = d) := by
  rw [PyData.eqv, PyData.eqvAll, PyData.eqvAll, PyData.eqvAll, eqv_team, eqv_team, Bool.eq_iff_iff]
  simp
theorem eqv_pairL (a b c d : List Str) : PyData.eqv (.list [teamD a, teamD b]) (.list [teamD c, teamD d]) = decide (a = c ∧ b = d) := by
  rw [PyData.eqv, PyData.eqvAll, PyData.eqvAll, PyData.eqvAll, eqv_team, eqv_team, Bool.eq_iff_iff]
  simp
end Tm

/-! an object with its own == compared with one of another class, or with a list. -/
namespace Tm
open PySem PySem.Spec PyProof.Rows L2
/-- what stands at b, and its class -/
inductive OtherV (H : Hp) (b : Addr) : Value → Prop where
  | lst {xs : List V} (h : H b = some (.lst xs)) : OtherV H b (.type "list")
  | ins {D dy : Addr} {gs : List (Str × V)} (h : H b = some (.ins D dy gs)) : OtherV H b (.ref D)
def rEqX (K : PySem.W.Frag) (C : Addr) (sp : Sp) : R2 := fun x y H Q => ∃ a b dx fs tb, x = .ref a ∧ y = .ref b ∧ H a = some (.ins C dx fs) ∧ OtherV H b tb ∧ PySem.W.notFirst K C tb = true ∧ sp [.ref a, .ref b] H (fun v H' => ∃ c : Bool, v = .bl c ∧ Q (.bl c) H') E0
section
variable {X : Cx} {k : Nat} {C : Addr} {ps : List Str} {sp : Sp}
theorem op_eqX (O : OkS X.prog X.w X.K X.mg X.base C "__eq__" k ps sp) (hr : Room k X.A) : OpR X (compareOp .Eq) (rEqX X.K C sp) := by
  intro pins s σ H x y v u Q I rx ry h
  obtain ⟨a, b, dx, fs, tb, rfl, rfl, ha, hb2, hn, hq⟩ := h
  obtain ⟨f, fd, M, F, hb⟩ := O.ex
  cases rx
  cases ry
  obtain ⟨mA, O2, _⟩ := ins_get I.hok ha
  obtain ⟨od, J, _⟩ := O2.look
  obtain ⟨m, hF⟩ := I.fr
  have lk : PySem.W.Looks (model X.prog X.w) s.heap (typeOf (.ref b)) tb := by
    cases hb2 with
    | lst h =>
      obtain ⟨_, its, n, rv, e1⟩ := (show ObjOk X.prog X.w H s.heap b _ from I.hok b _ h)
      exact fun A Q E s' k q => wpAny_typeOf_ref (k _ _ e1) q
    | ins h =>
      obtain ⟨mB, O3, _⟩ := ins_get I.hok h
      obtain ⟨od', J', _⟩ := O3.look
      exact J'.type
  refine PySem.W.cmp_ofEq (PySem.W.cmp_K (op := .Eq) (tb := tb) (by have := hr.un; omega) hF I.ok.mod.kin J lk hn M.fnd M.isf (wpAny_mono (run_in2 F hr I.env0 hb I hq) (fun r s' z => ?_) fun _ _ z => z))
  obtain ⟨v, H', I', rv, c, ev, q⟩ := z
  subst ev
  have er : r = Value.bool c := rv
  subst er
  exact ⟨.bl c, H', I', rfl, q⟩
end
end Tm

/-! Plan.__eq__ decided; normal, is_normal; the parts of a plan compared. -/
namespace Tm
open PySem PySem.Spec PyProof.Rows L2 TmZ TmE TmD
local macro_rules | `(tactic| walk_at "x") => `(tactic| dsimp only [tNext, tRet, tSeq, tCall, tCB, tC, tCons, tNil, tAsg, tDrop, sFld])
theorem OkM.call0 {X : Cx} {m : Str} {k j : Nat} {C : Addr} {ps : List Str} {sp : Sp} {o : Expr} {ta : TE} {apos pos : Pos} {pl : Sem Bool} (O : OkM X.prog X.w X.K X.mg X.base C m k ps sp) (hr : Room j X.A) (c : Cls X.K C) (hk : k ≤ j := by decide) (he : PE X o ta)
    (ht : eval (.Call (.Attribute o m apos) [] [] pos) X.env = (do
      let v ← eval o X.env
      standAt apos.atName
      let (g, one) ← holding [v] (getMethod v m pl)
      callWith pos g one (backTo pos (starEach [] X.env)) (backToKw pos (keywordEach [] X.env))) := by rfl) :
    PE X (.Call (.Attribute o m apos) [] [] pos) (tMeth C m sp [] E0 ta tNil) := by
  obtain ⟨f, fd, h1, h2, h3⟩ := O.ex
  exact pe_meth0 he c h1 h2 (hr.mono hk) h3 .nil pass0 ht
theorem depth_strs : ∀ l : List Str, PyData.depthAll (l.map .str) = 0
  | [] => rfl
  | x :: r => by
    show max (PyData.depth (.str x)) (PyData.depthAll (r.map .str)) = 0
    rw [depth_strs r]
    rfl
theorem lay_team {l : List Str} (h : l.all PyData.strOk = true) : PyData.canLay0 (teamD l) = true := by
  have n := (nice_team h).shaped (by decide)
  unfold SeqAt.shaped at n
  simp only [Bool.and_eq_true] at n
  exact n.1
theorem depth_team (l : List Str) : PyData.depth (teamD l) = 1 := by
  show PyData.depthAll (l.map .str) + 1 = 1
  rw [depth_strs]
theorem shaped_pair {f g : List Str} (hf : f.all PyData.strOk = true) (hg : g.all PyData.strOk = true) : SeqAt.shaped (.tuple [teamD f, teamD g]) = true := by
  have h1 : PyData.canLay0 (.tuple [teamD f, teamD g]) = true := by
    show (PyData.canLay0 (teamD f) && (PyData.canLay0 (teamD g) && true)) = true
    rw [lay_team hf, lay_team hg]
    rfl
  have h2 : PyData.depth (.tuple [teamD f, teamD g]) ≤ 64 := by
    show max (PyData.depth (teamD f)) (max (PyData.depth (teamD g)) 0) + 1 ≤ 64
    rw [depth_team, depth_team]
    decide
  unfold SeqAt.shaped
  rw [h1, decide_eq_true h2]
  rfl
theorem shaped_pairL {f g : List Str} (hf : f.all PyData.strOk = true) (hg : g.all PyData.strOk = true) : SeqAt.shaped (.list [teamD f, teamD g]) = true := by
  have h1 : PyData.canLay0 (.list [teamD f, teamD g]) = true := by
    show (PyData.canLay0 (teamD f) && (PyData.canLay0 (teamD g) && true)) = true
    rw [lay_team hf, lay_team hg]
    rfl
  have h2 : PyData.depth (.list [teamD f, teamD g]) ≤ 64 := by
    show max (PyData.depth (teamD f)) (max (PyData.depth (teamD g)) 0) + 1 ≤ 64
    rw [depth_team, depth_team]
    decide
  unfold SeqAt.shaped
  rw [h1, decide_eq_true h2]
  rfl
theorem okTab_so {t : Tab} (h : okTab t = true) : (namesT t).all PyData.strOk = true := ok_strs fun x hx => by
  obtain ⟨e, he, rfl⟩ := List.mem_map.mp hx
  exact (ok_facts h).2.2.2.2 e he
theorem PlanV.so {C CP : Addr} {H : Hp} {v : V} {p : Pl} (h : PlanV C CP H v p) : p.f.all PyData.strOk = true ∧ p.g.all PyData.strOk = true := by
  obtain ⟨_, _, _, _, _, _, _, _, _, hk, _, _, _, _, ok⟩ := h
  obtain ⟨_, _, _, _, _, _, _, _, okt, _⟩ := hk
  exact p.soF (okTab_so okt) ok
/-! ### the parts of a plan: a list of its own -/
def PartsV (H : Hp) (v : V) (p : Pl) : Prop := ∃ (a d : Addr) (x y : V), v = .ref a ∧ H a = some (.lst [.ref d, .int (p.s : Int), x, y]) ∧ DictV H (.ref d) p.t ∧ TeamV H x p.f ∧ TeamV H y p.g ∧ p.Ok
theorem PartsV.so {H : Hp} {v : V} {p : Pl} (h : PartsV H v p) : p.f.all PyData.strOk = true ∧ p.g.all PyData.strOk = true := by
  obtain ⟨_, _, _, _, _, _, hd, _, _, ok⟩ := h
  exact p.soF (okTab_so hd.ok.1) ok
def Pl.eqv (p q : Pl) : Bool := sameT p.t q.t && (decide (p.s = q.s) && decide (p.f = q.f ∧ p.g = q.g))
theorem tab_det {H : Hp} : ∀ {kvs : List (Key × V)} {t u : Tab}, TabV H kvs t → TabV H kvs u → t = u
  | [], _, _, h, k => by
    cases h
    cases k
    rfl
  | e :: r, _, _, h, k => by
    cases h with
    | cons h1 h2 =>
      cases k with
      | cons k1 k2 =>
        rw [tab_det h2 k2]
        obtain ⟨n1, r1⟩ := h1
        obtain ⟨n2, r2⟩ := k1
        rw [n1] at n2
        exact congrArg (· :: _) (Prod.ext (Sum.inr.inj n2) (row_det r1 r2))
theorem hitsP {P : Program} {w : World} {A : Around} {s : Shared} {kb ka : List (Key × Value)} {b : Bool} (h : PySem.W.KeqHits A s kb ka b) : PySem.W.KeqHitsP P w A s kb ka b := by
  induction h with
  | nil => exact .nil
  | miss h => exact .miss h
  | hit h e _ ih => exact .hit h e.eqP ih
section
variable {X : Cx} {pins : List (Addr × Obj)} {σ : L2.St} {H : Hp} {s : Shared}
theorem dict_eqAt (I : Inv X pins σ H s) {A : Around} (hu : A.units + 66 < cLine) {a b : Addr} {t u : Tab} (hx : DictV H (.ref a) t) (hy : DictV H (.ref b) u) : SeqAt.EqP X.prog X.w A s (.ref a) (.ref b) (sameT t u) := by
  obtain ⟨_, ka, e1, ea, ht, _, _⟩ := hx
  obtain ⟨_, kb, e2, eb, hu', nd, _⟩ := hy
  cases e1
  cases e2
  by_cases g : a = b
  · subst g
    rw [ea] at eb
    cases eb
    rw [tab_det ht hu', same_self]
    exact (SeqAt.EqAt.same _).eqP
  · refine SeqAt.eqP_refs g fun E Q hq => ?_
    obtain ⟨_, ya, va, ra, da⟩ := (show ObjOk X.prog X.w H s.heap a (.dK ka) from I.hok a _ ea)
    obtain ⟨_, yb, vb, rb, db⟩ := (show ObjOk X.prog X.w H s.heap b (.dK kb) from I.hok b _ eb)
    have hl : va.length = t.length := by rw [← ra.length]; exact Paired.length ht
    have hl2 : vb.length = u.length := by rw [← rb.length]; exact Paired.length hu'
    refine PySem.W.rcP_dicts (knd := mixKind X.prog X.w) ya yb da db (by omega) (fun _ => hitsP (tab_hits I (A := A.in1) (by show A.units + 1 + 64 < _; omega) rb hu' nd ra ht)) E Q ?_
    have e : (va.length == vb.length && t.all fun e => decide (e ∈ u)) = sameT t u := by
      unfold sameT
      rw [hl, hl2, Bool.eq_iff_iff]
      simp
    rw [e]
    exact hq
theorem team_eqAt (I : Inv X pins σ H s) {A : Around} (hu : A.units + 64 < cLine) {x y : V} {f g : List Str} {v u : Value} (sf : f.all PyData.strOk = true) (sg : g.all PyData.strOk = true) (hx : TeamV H x f) (hy : TeamV H y g) (rx : RelV x v) (ry : RelV y u) : SeqAt.EqP X.prog X.w A s v u (decide (f = g)) := by
  obtain ⟨as, r1⟩ := Dp.reads I (teamD f) x v hx.dp rx
  obtain ⟨bs, r2⟩ := Dp.reads I (teamD g) y u hy.dp ry
  rw [← eqv_team]
  exact (SeqAt.eqAt_reads _ _ _ _ _ _ _ _ r1 r2 (lay_team sf) (lay_team sg) (by rw [depth_team, depth_team]; omega)).eqP
/-- two lists of parts compared -/
def rPartsEq : R2 := fun x y H Q => ∃ p q, PartsV H x p ∧ PartsV H y q ∧ Q (.bl (p.eqv q)) H
theorem op_eqParts (hu : X.A.units + 70 < cLine) : OpR X (compareOp .Eq) rPartsEq := by
  intro pins s σ H x y v u Q I rx ry h
  obtain ⟨p, q, hp, hq, qq⟩ := h
  have so1 := hp.so
  have so2 := hq.so
  obtain ⟨a, d1, x1, y1, rfl, ha, hd1, hf1, hg1, _⟩ := hp
  obtain ⟨b, d2, x2, y2, rfl, hb, hd2, hf2, hg2, _⟩ := hq
  cases rx
  cases ry
  obtain ⟨us, r1, p1, _⟩ := I.list (SqL.of ha)
  obtain ⟨ws, r2, p2, _⟩ := I.list (SqL.of hb)
  obtain ⟨a1, a2, a3, a4, rfl, b1, b2, b3, b4⟩ : ∃ a1 a2 a3 a4, us = [a1, a2, a3, a4] ∧ RelV (.ref d1) a1 ∧ RelV (.int (p.s : Int)) a2 ∧ RelV x1 a3 ∧ RelV y1 a4 := by
    cases r1 with
    | cons h1 r1 => cases r1 with
      | cons h2 r1 => cases r1 with
        | cons h3 r1 => cases r1 with
          | cons h4 r1 =>
            cases r1
            exact ⟨_, _, _, _, rfl, h1, h2, h3, h4⟩
  obtain ⟨c1, c2, c3, c4, rfl, e1, e2, e3, e4⟩ : ∃ a1 a2 a3 a4, ws = [a1, a2, a3, a4] ∧ RelV (.ref d2) a1 ∧ RelV (.int (q.s : Int)) a2 ∧ RelV x2 a3 ∧ RelV y2 a4 := by
    cases r2 with
    | cons h1 r1 => cases r1 with
      | cons h2 r1 => cases r1 with
        | cons h3 r1 => cases r1 with
          | cons h4 r1 =>
            cases r1
            exact ⟨_, _, _, _, rfl, h1, h2, h3, h4⟩
  have u1 : X.A.in1.units + 66 < cLine := by
    show X.A.units + 1 + 66 < _
    omega
  refine SeqAt.rcP_lists (e := fun j => match j with | 0 => sameT p.t q.t | 1 => decide (p.s = q.s) | 2 => decide (p.f = q.f) | _ => decide (p.g = q.g)) p1.isList p2.isList rfl (by omega) (fun j h1 h2 => ?_) _ _ ?_
  · match j, h1, h2 with
    | 0, _, _ =>
      cases (show a1 = Value.ref d1 from b1)
      cases (show c1 = Value.ref d2 from e1)
      exact dict_eqAt I u1 hd1 hd2
    | 1, _, _ =>
      obtain ⟨t1, rfl⟩ := (show ∃ t, a2 = Value.int (p.s : Int) t from b2)
      obtain ⟨t2, rfl⟩ := (show ∃ t, c2 = Value.int (q.s : Int) t from e2)
      show SeqAt.EqP X.prog X.w X.A.in1 s (.int (p.s : Int) t1) (.int (q.s : Int) t2) (decide (p.s = q.s))
      have e : decide (p.s = q.s) = ((p.s : Int) == (q.s : Int)) := by
        by_cases c : p.s = q.s
        · rw [c, decide_eq_true rfl]
          exact (beq_self_eq_true _).symm
        · rw [decide_eq_false c]
          exact (beq_eq_false_iff_ne.mpr fun z => c (Int.ofNat.inj z)).symm
      rw [e]
      exact (SeqAt.EqAt.int_int _ _ _ _).eqP
    | 2, _, _ => exact team_eqAt I (by omega) so1.1 so2.1 hf1 hf2 b3 e3
    | 3, _, _ => exact team_eqAt I (by omega) so1.2 so2.2 hg1 hg2 b4 e4
    | j + 4, h1, _ => exact absurd h1 (by show ¬ j + 4 < 4; omega)
  · refine ⟨.bl (p.eqv q), H, I, ?_, qq⟩
    show RelV (.bl (p.eqv q)) (.bool (sameT p.t q.t && (decide (p.s = q.s) && (decide (p.f = q.f) && (decide (p.g = q.g) && true)))))
    have e : (sameT p.t q.t && (decide (p.s = q.s) && (decide (p.f = q.f) && (decide (p.g = q.g) && true)))) = p.eqv q := by
      unfold Pl.eqv
      rw [Bool.and_true]
      congr 2
      rw [Bool.eq_iff_iff]
      simp
    rw [e]
    exact rfl
end
section
variable {P : Program} {w : World} {K : PySem.W.Frag} {mg : Str → Option Value} {base : Heap} {C CP : Addr}
/-- no plan -/
def NoPlan (K : PySem.W.Frag) (CP : Addr) (H : Hp) (u : V) : Prop := ∃ t, TyX K H u t ∧ PySem.W.kitOne K t (.ref CP) = some false
def sp_peqX (K : PySem.W.Frag) (C CP : Addr) : Sp := fun vs H Q _ => ∃ (v u : V) (p : Pl), vs = [v, u] ∧ PlanV C CP H v p ∧ ((∃ r, PlanV C CP H u r ∧ Q (.bl (p.eqv r)) H) ∨ (NoPlan K CP H u ∧ Q (.bl false) H))
theorem ok_peqX (B : Bt mg) (TP : Kp K CP) (TE : KcE K CP) (gP : mg "Plan" = some (.ref CP)) (OS_eq : OkS P w K mg base C "__eq__" 1 ["self", "other"] (sp_keq C)) (D : DfS K CP "__eq__" "Plan.__eq__" s_peq ["self", "other"]) : OkS P w K mg base CP "__eq__" 2 ["self", "other"] (sp_peqX K C CP) := by
  refine D.ok sc_peq (fun vs H Q E h => ?_) (fun f cdv A outer s H vs Q E hr h => ?_)
  · obtain ⟨v, u, p, rfl, _⟩ := h
    rfl
  · obtain ⟨v, u, p, rfl, hvp, hur⟩ := h
    have hu64 : (A.deeper (envOfC "Plan.__eq__" (defScope s_peq) s.heap.objs.size f cdv)).units + 64 < cLine := by
      have := hr.un
      omega
    refine ⟨_, pss_cons (ps_if (pt_not (pt_val (pe_callB (isiK (K := K)) (by rfl) B.isinstance (by decide +kernel) (pa_cons (pv 1) (pa_cons (pe_glob (v := .ref CP) (by rfl) gP rfl) (pa_nil))))))
        (pss_one (ps_ret (pe_bl)))
        (pss_nil))
      (pss_one (ps_ret (pe_and (pe_cmpR (op_eqO OS_eq (hr.mono (by decide))) (pe_fld (pv 0) rfl) (pe_fld (pv 1) rfl) (nomark _)) (pe_and (pe_cmpR op_eq (pe_fld (pv 0) rfl) (pe_fld (pv 1) rfl) (nomark _)) (pe_one (pe_cmpR (op_eqD hu64) (pe_fld (pv 0) rfl) (pe_fld (pv 1) rfl) (nomark _))))))), ?_⟩
    rcases hur with ⟨r, hur, q⟩ | ⟨⟨t, ht, hk0⟩, q⟩
    rotate_left
    · refine ⟨_, rfl, _, .ref CP, _, _, false, rfl, .own CP, ht, hk0, _, rfl, ?_⟩
      refine ifT rfl ?_
      exact q
    have so1 := hvp.so
    have so2 := hur.so
    obtain ⟨a, dx, k, tm, p1, p2, th, rfl, ha, hk, htm, h1, h2, hth, ok⟩ := hvp
    obtain ⟨b, dy, k', tm', p1', p2', th', rfl, hb, hk', htm', h1', h2', hth', _⟩ := hur
    refine ⟨_, rfl, _, .ref CP, _, _, true, rfl, .own CP, .base (.ins hb TP.cl TE.cla TE.cg TE.ct TE.mr), TE.is_, _, rfl, ?_⟩
    refine ifF rfl ?_
    try dsimp only [tNext]
    obtain ⟨ka, kdx, _, _, rfl, hka, _⟩ := id hk
    obtain ⟨kb, kdy, _, _, rfl, hkb, _⟩ := id hk'
    refine ⟨_, rfl, a, CP, dx, _, _, rfl, ha, TP.cl, TP.nK, pf_K _ _ _ _, _, rfl, b, CP, dy, _, _, rfl, hb, TP.cl, TP.nK, pf_K _ _ _ _, ?_⟩
    refine ⟨ka, kb, kdx, kdy, _, _, rfl, rfl, hka, hkb, _, _, _, _, rfl, hk, hk', _, rfl, _, rfl, ?_⟩
    unfold Pl.eqv at q
    cases c1 : sameT p.t r.t with
    | false =>
      rw [c1] at q
      exact ifF rfl q
    | true =>
      rw [c1, Bool.true_and] at q
      refine ifT rfl ?_
      refine ⟨_, rfl, a, CP, dx, _, _, rfl, ha, TP.cl, TP.nS, pf_S _ _ _ _, _, rfl, b, CP, dy, _, _, rfl, hb, TP.cl, TP.nS, pf_S _ _ _ _, rfl, _, rfl, ?_⟩
      by_cases c2 : p.s = r.s
      · rw [decide_eq_true c2, Bool.true_and] at q
        refine ifT (decide_eq_true (by rw [c2])) ?_
        refine ⟨_, rfl, a, CP, dx, _, _, rfl, ha, TP.cl, TP.nM, pf_M _ _ _ _, _, rfl, b, CP, dy, _, _, rfl, hb, TP.cl, TP.nM, pf_M _ _ _ _, ?_⟩
        refine ⟨.tuple [teamD p.f, teamD p.g], .tuple [teamD r.f, teamD r.g], .tup (SqT.of htm) (.cons h1.dp (.cons h2.dp .nil)), .tup (SqT.of htm') (.cons h1'.dp (.cons h2'.dp .nil)), shaped_pair so1.1 so1.2, shaped_pair so2.1 so2.2, ?_⟩
        rw [eqv_pair]
        exact q
      · rw [decide_eq_false c2, Bool.false_and] at q
        refine ifF (decide_eq_false fun z => c2 (Int.ofNat.inj (V.int.inj z))) ?_
        exact q
end
end Tm

/-! len(set(a tuple of whole numbers that may meet)); Plan.is_order of any value. -/
namespace Tm
open PySem PySem.Spec PyProof.Rows L2 TmE
local macro_rules | `(tactic| walk_at "x") => `(tactic| dsimp only [tNext, tRet, tSeq, tCall, tCB, tC, tCons, tNil, tAsg, tDrop, sFld])
theorem perm_of_sub : ∀ {a b : List Int}, a.Nodup → (∀ x ∈ a, x ∈ b) → b.length ≤ a.length → b.Perm a
  | [], b, _, _, h => by
    rw [List.eq_nil_of_length_eq_zero (Nat.le_zero.mp h)]
  | x :: a, b, nd, sub, h => by
    obtain ⟨n1, n2⟩ := List.nodup_cons.mp nd
    have hx := sub x List.mem_cons_self
    have p := List.perm_cons_erase hx
    have pl := p.length_eq
    rw [List.length_cons] at pl h
    have ih := perm_of_sub (a := a) (b := b.erase x) n2 (fun y hy => (List.mem_erase_of_ne (fun e => n1 (by rw [← e]; exact hy))).mpr (sub y (List.mem_cons_of_mem _ hy))) (by omega)
    exact p.trans (ih.cons x)
def tLenSetD (K : PySem.W.Frag) (ta : TE) : TE := fun σ H Q => ta σ H fun x H1 => ∃ (l : Addr) (ns : List Int), x = .ref l ∧ SqT K H1 l (ns.map V.int) ∧ ns.length ≤ 4000 ∧ ∀ n : Nat, (n = ns.length ↔ ns.Nodup) → Q (.int (n : Int)) H1
theorem pe_lenSetD {X : Cx} {K : PySem.W.Frag} {a : Expr} {ta : TE} {p p2 q pos : Pos} (hg : Gl X "len") (hm : X.mg "len" = none) (hg2 : Gl X "set") (hm2 : X.mg "set" = none) (ha : PE X a ta) (hK : X.K = K := by rfl) (hc : X.calm = true := by rfl)
    (na : starEach [a] X.env = (false, eval a X.env) :: starEach [] X.env := by rfl) : PE X (.Call (.Name "len" p) [.Call (.Name "set" p2) [a] [] q] [] pos) (tLenSetD K ta) := by
  subst hK
  refine ⟨fun pins s σ H Q I h => ?_⟩
  refine Call_ (ld_blt I hg hm boot_len ?_)
  refine PyProof.Rows.callWith_builtin1 (PyProof.Rows.args_cons ?_ rfl) rfl rfl
  refine Call_ (ld_blt I hg2 hm2 boot_set ?_)
  refine PyProof.Rows.callWith_type1 (PyProof.Rows.args_cons (thn (ha.run pins s σ H _ I h) fun v s1 ⟨x, H1, I1, r1, q1⟩ => PyProof.Rows.args_nil ?_) na) na rfl
  obtain ⟨l, ns, rfl, hq, hl, q1⟩ := q1
  cases r1
  obtain ⟨its, r, pl, hz⟩ := I1.tuple hq
  refine call_set_tupI (items := its.toArray) ns (I1.ok.hd hc) pl (by simpa using RZ.intsAre_vals r) (by unfold scanBound; omega) fun h' tk c hS hk hp => ?_
  refine PyProof.Rows.args_nil ?_
  obtain ⟨o, es, ep, t, ho, hex, hd, _, nd, mem, _, hf, hn, _⟩ := hS
  have I2 : Inv X pins σ H1 { s1 with heap := h', toks := tk } := I1.kept fun b o e => hp b o e
  have sub1 : ∀ x ∈ es.toList.map keyOf, x ∈ ns := fun x hx => of_decide_eq_true ((mem x).mpr hx)
  have sub2 : ∀ x ∈ ns, x ∈ es.toList.map keyOf := fun x hx => (mem x).mp (decide_eq_true hx)
  have l1 := List.Nodup.length_le_of_subset nd sub1
  have l3 : (es.toList.map keyOf).length = es.size := by rw [List.length_map, Array.length_toList]
  have iff : es.size = ns.length ↔ ns.Nodup := by
    refine ⟨fun e => ?_, fun h => ?_⟩
    · exact (perm_of_sub nd sub1 (by rw [l3]; omega)).symm.nodup nd
    · have l2 := List.Nodup.length_le_of_subset h sub2
      omega
  exact call_len_set ho hex hd hf (by omega) ⟨.int es.size, H1, I2.tok _, ⟨_, rfl⟩, q1 _ iff⟩
/-- what is_number_in tells of a value -/
def NumV (K : PySem.W.Frag) (H : Hp) (v : V) (lo hi : Int) (b : Bool) : Prop := (∃ n : Int, v = .int n ∧ b = (decide (lo ≤ n) && decide (n ≤ hi))) ∨
  (b = false ∧ ∃ t, TyX K H v t ∧ (PySem.W.kitOne K t (.type "int") = some false ∨ (PySem.W.kitOne K t (.type "int") = some true ∧ PySem.W.kitOne K t (.type "bool") = some true)))
def sp_numV (K : PySem.W.Frag) : Sp := fun vs H Q _ => ∃ (v : V) (lo hi : Int) (b : Bool), vs = [v, .int lo, .int hi] ∧ NumV K H v lo hi b ∧ Q (.bl b) H
section
variable {P : Program} {w : World} {K : PySem.W.Frag} {mg : Str → Option Value} {base : Heap}
theorem ok_numV (B : Bt mg) (D : Df K mg "is_number_in" s_num ["value", "least", "most"]) : Ok P w K mg base "is_number_in" 1 ["value", "least", "most"] (sp_numV K) := by
  refine D.ok sc_num (fun vs H Q E h => ?_) (fun f cdv A outer s H vs Q E hr h => ?_)
  · obtain ⟨v, lo, hi, b, rfl, _⟩ := h
    rfl
  · obtain ⟨v, lo, hi, b, rfl, nv, q⟩ := h
    refine ⟨_, pss_one (ps_ret (pe_and (pe_callB call_isi (by rfl) B.isinstance (by decide +kernel) (pa_cons (pv 0) (pa_cons (pe_ty (n := "int") (by rfl) B.int (by decide +kernel)) (pa_nil)))) (pe_and (pe_not (pe_callB call_isi (by rfl) B.isinstance (by decide +kernel) (pa_cons (pv 0) (pa_cons (pe_ty (n := "bool") (by rfl) B.bool (by decide +kernel)) (pa_nil))))) (pe_one (pe_chain op_le op_le (pv 1) (pv 0) (pv 2)))))), ?_⟩
    rcases nv with ⟨n, rfl, rfl⟩ | ⟨rfl, t, ty, h | ⟨h, h2⟩⟩
    · refine ⟨_, rfl, .int n, .ty "int", _, _, true, rfl, .ty "int", .base (.int n), kit_ty (by decide +kernel), ?_⟩
      refine ⟨_, rfl, ?_⟩; refine iteT ?_
      refine ⟨_, rfl, .int n, .ty "bool", _, _, false, rfl, .ty "bool", .base (.int n), kit_ty (by decide +kernel), ?_⟩
      refine ⟨_, rfl, true, rfl, ?_⟩; refine iteT ?_
      refine ⟨_, rfl, _, rfl, _, _, rfl, rfl, _, rfl, ite2 (fun h1 => ?_) (fun h1 => ?_)⟩
      · refine ⟨_, rfl, _, _, rfl, rfl, ?_⟩
        rw [show decide (lo ≤ n) = true from h1, Bool.true_and] at q
        exact q
      · have e : decide (lo ≤ n) = false := by simpa using h1
        rw [e, Bool.false_and] at q
        exact q
    · refine ⟨_, rfl, v, .ty "int", _, _, false, rfl, .ty "int", ty, h, ?_⟩
      exact ⟨_, rfl, iteF q⟩
    · refine ⟨_, rfl, v, .ty "int", _, _, true, rfl, .ty "int", ty, h, ?_⟩
      refine ⟨_, rfl, ?_⟩; refine iteT ?_
      refine ⟨_, rfl, v, .ty "bool", _, _, true, rfl, .ty "bool", ty, h2, ?_⟩
      exact ⟨_, rfl, false, rfl, iteF q⟩
end
theorem rd_ty {K : PySem.W.Frag} {H : Hp} {p : Addr} {xs : List V} (h : Rd H p (.tup xs)) : TyX K H (.ref p) (.type "tuple") := h.elim (fun h => .base (.tup h)) (fun ⟨_, h⟩ => .fTuple h)

def NotTup (K : PySem.W.Frag) (H : Hp) (u : V) : Prop := ∃ t, TyX K H u t ∧ PySem.W.kitOne K t (.type "tuple") = some false
/-- a value, and whether it is an order of m threads -/
def OrdW (K : PySem.W.Frag) (H : Hp) (u : V) (m : Nat) (b : Bool) : Prop := (NotTup K H u ∧ b = false) ∨ ∃ (a : Addr) (xs : List V) (bs : List Bool), u = .ref a ∧ Rd H a (.tup xs) ∧ xs.length ≤ 100 ∧ Paired (fun v c => ∀ H', Same H H' → NumV K H' v 0 ((m : Int) - 1) c) xs bs ∧
  ((b = false ∧ (xs = [] ∨ bs.all id = false)) ∨ (xs ≠ [] ∧ ∃ ns : List Int, xs = ns.map V.int ∧ bs.all id = true ∧ b = decide ns.Nodup))
section
variable {P : Program} {w : World} {K : PySem.W.Frag} {mg : Str → Option Value} {base : Heap} {C CP : Addr}
def sp_isordX (K : PySem.W.Frag) (C CP : Addr) : Sp := fun vs H Q _ => ∃ (v u : V) (p : Pl) (b : Bool), vs = [v, u] ∧ PlanV C CP H v p ∧ OrdW K H u p.th.length b ∧ ∀ H', Same H H' → Q (.bl b) H'
theorem ok_isordX (B : Bt mg) (Bs : mg "set" = none) (TP : Kp K CP) (O_is_number_in : Ok P w K mg base "is_number_in" 1 ["value", "least", "most"] (sp_numV K)) (D : DfM K CP "is_order" "Plan.is_order" s_isord ["self", "value"]) : OkM P w K mg base CP "is_order" 2 ["self", "value"] (sp_isordX K C CP) := by
  refine D.ok sc_is_order (fun vs H Q E h => ?_) (fun f cdv A outer s H vs Q E hr h => ?_)
  · obtain ⟨v, u, p, b, rfl, _⟩ := h
    rfl
  · obtain ⟨v, u, p, b, rfl, hp, hw, q⟩ := h
    refine ⟨_, pss_cons (ps_if (PW.pt (pw_or (pt_not (pt_val (pe_callB (isiK (K := K)) (by rfl) B.isinstance (by decide +kernel) (pa_cons (pv 1) (pa_cons (pe_ty (n := "tuple") (by rfl) B.tuple (by decide +kernel)) (pa_nil)))))) (pw_or1 (pt_cmpR op_eq (pe_callB (lenK (K := K)) (by rfl) B.len (by decide +kernel) (pa_cons (pv 1) (pa_nil))) (pe_int) (nomark _)))))
        (pss_one (ps_ret (pe_bl)))
        (pss_nil))
      (pss_cons (ps_if (pt_not (pt_val (pe_callB (allK (K := K)) (by rfl) B.all (by decide +kernel) (pa_cons (pe_lc (own := [("thread", 2)]) (g := gName 2) (tt := tYes) rfl sc_is_order.nd (piT (K := K) (pv 1)) (blkOk_by (own := [("thread", 2)]) (N := ["self", "value", "thread"]) (sc := defScope s_isord) (by decide +kernel)) (fun _ _ _ _ _ => pg_name (i := 2) sc_is_order.nd rfl (.inl rfl)) (fun _ _ _ _ _ => pts_nil) (fun _ _ _ _ _ => O_is_number_in.call hr (ha := pa_cons (pv 2) (pa_cons (pe_int) (pa_cons (pe_op op_sub (pe_callB (lenK (K := K)) (by rfl) B.len (by decide +kernel) (pa_cons (pe_fldK (K := K) (pv 0) rfl) (pa_nil))) (pe_int)) (pa_nil)))))) (pa_nil)))))
        (pss_one (ps_ret (pe_bl)))
        (pss_nil))
      (pss_one (ps_ret (pe_cmpR op_eq (pe_lenSetD (K := K) (by rfl) B.len (by rfl) Bs (pv 1)) (pe_callB (lenK (K := K)) (by rfl) B.len (by decide +kernel) (pa_cons (pv 1) (pa_nil))) (nomark _))))), ?_⟩
    obtain ⟨a, dx, k, tm, p1, p2, th, rfl, ha, hk, htm, h1, h2, hth, ok⟩ := id hp
    rcases hw with ⟨⟨t, ty, kt⟩, rfl⟩ | ⟨oa, xs, bs, rfl, ho, few, hP, cs⟩
    · refine ⟨_, rfl, u, .ty "tuple", _, _, false, rfl, .ty "tuple", ty, kt, _, rfl, ?_⟩
      refine ifT rfl ?_
      exact q _ (Same.refl _)
    refine ⟨_, rfl, .ref oa, .ty "tuple", _, _, true, rfl, .ty "tuple", rd_ty ho, kit_ty (by decide +kernel), _, rfl, ?_⟩
    refine ifF rfl ?_
    refine ⟨_, rfl, oa, _, rfl, .inr (.inl ho), rfl, _, rfl, ?_⟩
    have lxb : xs.length = bs.length := Paired.length hP
    by_cases e0 : xs = []
    · refine ifT (by rw [e0]; rfl) ?_
      rcases cs with ⟨rfl, _⟩ | ⟨ne, _⟩
      · exact q _ (Same.refl _)
      · exact absurd e0 ne
    refine ifF (decide_eq_false fun z => e0 (List.eq_nil_of_length_eq_zero (by have := V.int.inj z; omega))) ?_
    try dsimp only [tNext]
    try dsimp only [tSeq, tIfS, tNot, tB, tCB, tCons, tNil]
    refine lc_runT (K := K) (xs := xs) (ev_is rfl ⟨oa, rfl, .inl ho⟩) bs lxb (fun _ => true) (fun z v _ => v = V.bl z) (by omega) (by intro _; rfl) (fun _ _ _ _ _ h => h)
      (fun i z v H1 hi y e => ⟨evt_yes, fun _ H3 e3 Q q => ?_⟩) (fun p3 H1 ys hp3 e hl' hP' => ?_)
    · have e13 := e.trans e3
      obtain ⟨z', hz', hn⟩ := paired_ix2 hP y
      rw [hi] at hz'
      cases hz'
      have hn3 := hn H3 e13
      rw [show ((p.th.length : Nat) : Int) = ((strV p.th).length : Int) by rw [show (strV p.th).length = p.th.length from List.length_map _]] at hn3
      exact ⟨_, rfl, _, rfl, a, CP, dx, _, _, rfl, e13 _ _ ha, TP.cl, TP.nH, pf_H _ _ _ _, th, _, rfl, .inr (SqT.of (e13 _ _ hth)), _, _, rfl, rfl, _, _, _, _, rfl, hn3, q _ _ (Same.refl _) rfl⟩
    · rw [filter_all] at hP'
      have ey : ys = bs.map V.bl := paired_fun hP'
      rw [ey] at hl'
      have ho1 := rd_keep e ho
      refine ⟨p3, _, rfl, SqL.of hl', _, rfl, ?_⟩
      rcases cs with ⟨rfl, h0 | h0⟩ | ⟨ne, ns, rfl, h0, rfl⟩
      · exact absurd h0 e0
      · refine ifT (by rw [h0]; rfl) ?_
        exact q _ e
      · refine ifF (by rw [h0]; rfl) ?_
        try dsimp only [tNext, tRet, tOp]
        refine ⟨_, rfl, oa, ns, rfl, .inl ho1, by rw [List.length_map] at few; omega, fun n hn => ⟨_, rfl, oa, _, rfl, .inr (.inl ho1), rfl, ?_⟩⟩
        have : decide (V.int (n : Int) = V.int (((ns.map V.int).length : Nat) : Int)) = decide ns.Nodup := by
          rw [List.length_map, decide_eq_decide]
          exact ⟨fun h => hn.mp (Int.ofNat.inj (V.int.inj h)), fun h => by rw [hn.mpr h]⟩
        rw [this]
        exact q _ e
end
end Tm

/-! Plan.__str__. -/
namespace Tm
open PySem PySem.Spec PyProof.Rows L2 TmE
local macro_rules | `(tactic| walk_at "x") => `(tactic| dsimp only [tNext, tRet, tSeq, tCall, tCB, tC, tCons, tNil, tAsg, tDrop, sFld])
theorem okp_names {p : Pl} (okt : okTab p.t = true) (ok : p.Ok) {l : List Str} (h : ∀ x ∈ l, x ∈ p.f ++ p.g) : ∀ x ∈ l, x.length ≤ 8 := fun x hx => by
  obtain ⟨e, he, rfl⟩ := List.mem_map.mp (ok.all x (h x hx))
  have := (ok_facts okt).2.2.2.2 e he
  unfold okName at this
  simp only [Bool.and_eq_true, decide_eq_true_eq] at this
  exact this.1.2
theorem join_le {l : List Str} (h : ∀ x ∈ l, x.length ≤ 8) (few : l.length ≤ 6) : (Txt.join " " l).length ≤ 60 := by
  have h1 := StrLaws.join_length_le " " l
  have h2 : ((" " : Str)).length = 1 := by decide +kernel
  have h3 := sum_le8 l h
  rw [h2] at h1
  rw [show Txt.join " " l = Str.join " " l from TL.join_eq _ _]
  omega
def strP (p : Pl) : Str := ((((Str.empty ++ ("plan for " : Str)) ++ (toString (p.th.length : Int) : Str)) ++ (" threads: " : Str) ++ Txt.join " " p.f) ++ (" | " : Str)) ++ Txt.join " " p.g
section
variable {P : Program} {w : World} {K : PySem.W.Frag} {mg : Str → Option Value} {base : Heap} {C CP : Addr}
abbrev s_pstr : Stmt := inClass (top 27) 20
theorem sc_pstr : FnScope ["self", "first", "second"] ["self"] (defScope s_pstr) := ⟨rfl, rfl, rfl, by decide +kernel, rfl, by decide +kernel, by decide +kernel⟩
def sp_pstr (C CP : Addr) : Sp := fun vs H Q _ => ∃ (v : V) (p : Pl), vs = [v] ∧ PlanV C CP H v p ∧ Q (.str (strP p)) H
theorem ok_pstr (B : Bt mg) (TP : Kp K CP) (D : DfS K CP "__str__" "Plan.__str__" s_pstr ["self"]) : OkS P w K mg base CP "__str__" 1 ["self"] (sp_pstr C CP) := by
  refine D.ok sc_pstr (fun vs H Q E h => ?_) (fun f cdv A outer s H vs Q E hr h => ?_)
  · obtain ⟨v, p, rfl, _⟩ := h
    rfl
  · obtain ⟨v, p, rfl, hp, q⟩ := h
    have okt := hp.so
    refine ⟨_, pss_cons (ps_set (i := 1) sc_pstr.nd rfl (.inl rfl) (pe_join (pe_str) (pe_ix (ixTK (K := K)) (pe_fld (pv 0) rfl) (pe_int) (fun _ _ => rfl))))
      (pss_cons (ps_set (i := 2) sc_pstr.nd rfl (.inl rfl) (pe_join (pe_str) (pe_ix (ixTK (K := K)) (pe_fld (pv 0) rfl) (pe_int) (fun _ _ => rfl))))
      (pss_one (ps_ret (pe_joined (.cons pe_str (.cons (pe_fmt (pe_callB (lenK (K := K)) (by rfl) B.len (by decide +kernel) (pa_cons (pe_fld (pv 0) rfl) (pa_nil)))) (.cons pe_str (.cons (pe_fmt (pv 1)) (.cons pe_str (.cons (pe_fmt (pv 2)) .nil)))))))))), ?_⟩
    obtain ⟨a, dx, k, tm, p1, p2, th, rfl, ha, hk, htm, h1, h2, hth, ok⟩ := id hp
    obtain ⟨r1, rfl, hr1⟩ := id h1
    obtain ⟨r2, rfl, hr2⟩ := id h2
    have oktab := hk.ok.1
    have few : p.f.length + p.g.length ≤ 6 := ok.few
    have nf := okp_names oktab ok (l := p.f) fun x hx => List.mem_append_left _ hx
    have ng := okp_names oktab ok (l := p.g) fun x hx => List.mem_append_right _ hx
    have jf := join_le nf (by omega)
    have jg := join_le ng (by omega)
    have sf := sum_le8 p.f nf
    have sg := sum_le8 p.g ng
    have h1s : ((" " : Str)).length = 1 := by decide +kernel
    refine ⟨⟨_, rfl⟩, _, rfl, a, CP, dx, _, _, rfl, ha, TP.cl, TP.nM, pf_M _ _ _ _, tm, _, _, _, rfl, rfl, SqT.of htm, atI_nat (j := 0) rfl, " ", r1, p.f, rfl, rfl, .inr (.inl hr1), by rw [h1s]; omega, ?_⟩
    dsimp only [gName]
    try dsimp only [tSeq, tAsg]
    refine ⟨⟨_, rfl⟩, _, rfl, a, CP, dx, _, _, rfl, ha, TP.cl, TP.nM, pf_M _ _ _ _, tm, _, _, _, rfl, rfl, SqT.of htm, atI_nat (j := 1) rfl, " ", r2, p.g, rfl, rfl, .inr (.inl hr2), by rw [h1s]; omega, ?_⟩
    dsimp only [gName]
    try dsimp only [tRet]
    have lt : (strV p.th).length = p.th.length := List.length_map _
    have lth : p.th.length = p.f.length + p.g.length := List.length_append
    have l1 : ("plan for " : Str).length = 9 := by decide +kernel
    have l2 : (" threads: " : Str).length = 10 := by decide +kernel
    have l3 : (" | " : Str).length = 3 := by decide +kernel
    have l0 : (Str.empty).length = 0 := rfl
    have hd12 := dig12 p.th.length (by omega)
    have hl : ((p.th.length : Nat) : Int).natAbs.log2 < 1920 := by
      have h3 : ((p.th.length : Nat) : Int).natAbs.log2 ≤ ((p.th.length : Nat) : Int).natAbs := Nat.log2_le_self _
      omega
    refine ⟨"plan for ", rfl, by rw [Str.length_append]; exact sz_le (by omega), _, rfl, a, CP, dx, _, _, rfl, ha, TP.cl, TP.nH, pf_H _ _ _ _, th, _, rfl, .inr (SqT.of hth), ?_⟩
    rw [lt]
    have h7 : (Str.ofString (toString ((p.th.length : Nat) : Int))).length ≤ 2 := hd12
    have h8 : (toString ((p.th.length : Nat) : Int) : Str).length ≤ 2 := h7
    refine .inr ⟨_, rfl, hl, _, rfl, ?_, " threads: ", rfl, ?_, _, rfl, .inl ⟨Txt.join " " p.f, rfl, sz_le (Nat.le_trans jf (by decide)), _, rfl, ?_, " | ", rfl, ?_, _, rfl, .inl ⟨Txt.join " " p.g, rfl, sz_le (Nat.le_trans jg (by decide)), _, rfl, ?_, q⟩⟩⟩
    all_goals
      refine sz_le ?_
      simp only [Str.length_append]
      omega
end
end Tm

/-! _law_play. -/
namespace Tm
open PySem PySem.Spec PyProof.Rows L2 TmE
local macro_rules | `(tactic| walk_at "x") => `(tactic| dsimp only [tNext, tRet, tSeq, tCall, tCB, tC, tCons, tNil, tAsg, tDrop, sFld])
section
variable {P : Program} {w : World} {K : PySem.W.Frag} {mg : Str → Option Value} {base : Heap} {C CP : Addr}
abbrev s_lplay : Stmt := top 45
theorem sc_law_play : FnScope ["_law_parts", "_law_order", "_law_one", "_law_state", "_law_answers"] ["_law_parts", "_law_order"] (defScope s_lplay) := ⟨rfl, rfl, rfl, by decide +kernel, rfl, by decide +kernel, by decide +kernel⟩
def sp_lplay : Sp := fun vs H Q _ => ∃ (u : V) (p : Pl) (oa : Addr) (o : List Nat), vs = [u, .ref oa] ∧ PartsV H u p ∧ Rd H oa (.tup (natV o)) ∧ OrdOk p o ∧
  ∀ b d H', Same H H' → H' b = some (.lst [.int ((playP p.t p.th p.s o).1 : Int), .ref d]) → H' d = some (.dK (ansK (playP p.t p.th p.s o).2)) → Q (.ref b) H'
theorem ok_lplay (B : Bt mg) (D : Df K mg "_law_play" s_lplay ["_law_parts", "_law_order"]) : Ok P w K mg base "_law_play" 1 ["_law_parts", "_law_order"] sp_lplay := by
  refine D.ok sc_law_play (fun vs H Q E h => ?_) (fun f cdv A outer s H vs Q E hr h => ?_)
  · obtain ⟨u, p, oa, o, rfl, _⟩ := h
    rfl
  · obtain ⟨u, p, oa, o, rfl, hu', ho, oo, q⟩ := h
    have hu := hu_of hr
    refine ⟨_, pss_cons (ps_par (i := 3) (j := 4) (by rfl) sc_law_play.nd rfl rfl (by decide) rfl rfl (pa_cons (pe_ix (ixLK (K := K)) (pv 0) (pe_int) (fun _ _ => rfl)) (pa_cons (pe_dnewK) (pa_nil))) (by rfl))
      (pss_cons (ps_for PassesOwn.never rfl (pi_tup (pv 1)) (pg_name (i := 2) sc_law_play.nd rfl (.inl rfl))
        (pss_one (ps_asg (pe_ix (ixTK (K := K)) (pe_dget hu (pe_ix (ixLK (K := K)) (pv 0) (pe_int) (fun _ _ => rfl)) (pe_ix (ixTK (K := K)) (pe_op (op_catAK (K := K)) (pe_ix (ixLK (K := K)) (pv 0) (pe_int) (fun _ _ => rfl)) (pe_ix (ixLK (K := K)) (pv 0) (pe_int) (fun _ _ => rfl))) (pv 2) (fun _ _ => rfl)) (fun _ _ => rfl)) (pv 3) (fun _ _ => rfl)) (pg_tup (by rfl) (pgs_cons (pg_name (i := 3) sc_law_play.nd rfl (.inl rfl)) (pgs_cons (pg_sub (pv 4) (pv 2) (set_dict hu)) (pgs_nil)))))))
      (pss_one (ps_ret (pe_lst (pa_cons (pv 3) (pa_cons (pv 4) (pa_nil))))))), ?_⟩
    obtain ⟨a, d, x, y, rfl, ha, hd, hx, hy, ok⟩ := id hu'
    obtain ⟨okt, ndt⟩ := hd.ok
    obtain ⟨_, kvs, ee, hdd, ht, _, _⟩ := id hd
    cases ee
    have few : p.f.length + p.g.length ≤ 6 := ok.few
    have lth : p.th.length = p.f.length + p.g.length := List.length_append
    have len := oo.len
    obtain ⟨rx, rfl, hrx⟩ := id hx
    obtain ⟨ry, rfl, hry⟩ := id hy
    dsimp only [tSeq]
    refine ⟨_, rfl, a, _, 1, _, rfl, rfl, SqL.of ha, atI_nat (j := 1) rfl, fun pd hpd => ?_⟩
    have e2 : Same H (upd H pd (.dK [])) := same_new hpd
    have a2 : upd H pd (.dK []) pd = some (.dK []) := upd_same
    refine ⟨_, _, rfl, ?_⟩
    try dsimp only [tSeq]
    generalize upd H pd (.dK []) = H2 at e2 a2
    have ho2 := rd_keep e2 ho
    refine ⟨_, rfl, oa, rfl, ⟨_, .inl ho2⟩, ?_⟩
    refine for_tup (K := K) (xs := natV o) (fun i σ' H' => ∃ o2 : Option V, σ' = [some (.ref a), some (.ref oa), o2, some (.int ((playP p.t p.th p.s (o.take i)).1 : Int)), some (.ref pd)] ∧ Same H H' ∧ H' pd = some (.dK (ansK (playP p.t p.th p.s (o.take i)).2))) ⟨none, rfl, e2, a2⟩ (fun i σ' H' _ pv => ?_) (fun i x σ' H' hx pv => ?_) (fun σ' H' pv => ?_)
    · obtain ⟨_, _, e, _⟩ := pv
      exact .inl (rd_keep e ho)
    · obtain ⟨o4, rfl, eP, aP⟩ := pv
      obtain ⟨z, hz, rfl⟩ : ∃ z, o[i]? = some z ∧ V.int (z : Int) = x := by
        unfold natV at hx
        rw [List.getElem?_map] at hx
        exact Option.map_eq_some_iff.mp hx
      have hzl := oo.lt z (List.mem_of_getElem? hz)
      have lt := play_lt okt ok (o.take i) fun j hj => oo.lt j (List.mem_of_mem_take hj)
      have keys := play_keys p.t p.th p.s (o.take i)
      rw [take_one hz, play_snoc]
      generalize playP p.t p.th p.s (o.take i) = G at aP lt keys
      obtain ⟨nm, c, hnm, hx1, hx2, hx3, hx4, hx5⟩ := row_step okt ok hzl lt
      dsimp only [gName]
      try dsimp only [tSeq, tAsg]
      have haP := eP _ _ ha
      refine ⟨_, rfl, a, _, 0, _, rfl, rfl, SqL.of haP, atI_nat (j := 0) rfl, _, rfl, a, _, 2, _, rfl, rfl, SqL.of haP, atI_nat (j := 2) rfl, _, rfl, a, _, 3, _, rfl, rfl, SqL.of haP, atI_nat (j := 3) rfl, rx, ry, strV p.f, strV p.g, rfl, rfl, .inl (rd_keep eP hrx), .inl (rd_keep eP hry), by unfold strV; rw [List.length_map, List.length_map, sizeLine_eq]; omega, fun z => absurd (List.map_eq_nil_iff.mp z) ok.f, fun _ z => absurd (List.map_eq_nil_iff.mp z) ok.g, fun _ _ pn hpn => ?_⟩
      have e3 := same_new (o := .tup (strV p.f ++ strV p.g)) hpn
      have apn : upd H' pn (.tup (strV p.f ++ strV p.g)) pn = some (.tup (strV p.th)) := by
        rw [upd_same]
        show _ = some (HO.tup (strV (p.f ++ p.g)))
        unfold strV
        rw [List.map_append]
      have eP3 := eP.trans e3
      have aP3 := e3 _ _ aP
      generalize upd H' pn (.tup (strV p.f ++ strV p.g)) = H3 at e3 apn eP3 aP3
      obtain ⟨rv, hrv, hrow⟩ := tab_look (ht.mono (tups_of eP3)) ndt hx2
      obtain ⟨b, rs, rfl, hb, hrs⟩ := id hrow
      have hg := DGet.k (k := (Sum.inr nm : L2.Key)) (eP3 _ _ hdd)
      rw [hrv] at hg
      obtain ⟨vj, hvj, hpj⟩ : ∃ v, rs[G.1]? = some v ∧ PairV H3 v (pickR (rowI p.t p.th z) G.1) := by
        have hl : G.1 < rs.length := by
          rw [Paired.length hrs]
          exact (List.getElem?_eq_some_iff.mp hx3).1
        refine ⟨rs[G.1], List.getElem?_eq_getElem hl, ?_⟩
        obtain ⟨z', hz1, hz2⟩ := paired_ix2 hrs (List.getElem?_eq_getElem hl)
        rw [hx3] at hz1
        cases hz1
        exact hz2
      obtain ⟨cq, rfl, hcq⟩ := hpj
      refine ⟨_, rfl, pn, _, _, _, rfl, rfl, SqT.of apn, atI_nat (show (strV p.th)[z]? = some (.str nm) by unfold strV; rw [List.getElem?_map, hnm]; rfl), d, _, rfl, hg, _, rfl, b, rs, _, _, rfl, rfl, SqT.of hb, atI_nat hvj, ?_⟩
      refine ⟨cq, _, rfl, SqT.of hcq, rfl, _, _, rfl, ?_⟩
      dsimp only [gName]
      refine ⟨_, _, rfl, ?_⟩
      have nz : z ∉ G.2.map (·.1) := by
        rw [keys]
        exact nd_split oo.nd hz
      have gl : G.2.length ≤ 12 := by
        have e := congrArg List.length keys
        rw [List.length_map, List.length_take] at e
        omega
      have put := DPut.k (k := (Sum.inl (z : Int) : L2.Key)) (v := V.int (pickR (rowI p.t p.th z) G.1).2) aP3 (by unfold ansK; rw [List.length_map]; exact sz_lt (by omega))
      rw [putK_new _ (val_no nz)] at put
      refine ⟨_, rfl, _, rfl, pd, _, rfl, put, ?_⟩
      have pd0 : H pd = none := hpd
      refine ⟨rfl, _, by rw [hx4]; unfold stP; rw [hx4, Int.toNat_natCast]; rfl, same_mut eP3 pd0, ?_⟩
      rw [upd_same]
      unfold stP ansK
      rw [List.map_append]
      rfl
    · obtain ⟨o4, rfl, eP, aP⟩ := pv
      rw [natV_len, List.take_length] at aP ⊢
      try dsimp only [tRet]
      refine ⟨_, rfl, _, rfl, by show 2 ≤ sizeLine; decide, fun b hb => ?_⟩
      have e3 := same_new (o := .lst [V.int ((playP p.t p.th p.s o).1 : Int), .ref pd]) hb
      exact q b pd _ (eP.trans e3) upd_same (e3 _ _ aP)
end
end Tm

set_option maxHeartbeats 2000000
/-! repr of data, also of (a number, a dict of numbers) and of {}; how long the texts are. -/
namespace TmQ
open PySem PySem.Spec PyProof.Rows L2
/-! ### lengths -/
theorem piled_few {m : Nat} : ∀ {ts : List Str}, (∀ t ∈ ts, t.length ≤ m) → piled ts ≤ ts.length * (m + 2)
  | [], _ => by show 0 ≤ _; exact Nat.zero_le _
  | t :: ts, h => by
    rw [piled_cons, List.length_cons, Nat.add_mul, Nat.one_mul]
    have h1 := h t List.mem_cons_self
    have h2 := piled_few (m := m) (ts := ts) fun u hu => h u (List.mem_cons_of_mem _ hu)
    omega
theorem join_few (ts : List Str) : (Str.join ", " ts).length ≤ piled ts := by
  by_cases h : ts = []
  · subst h
    exact Nat.le_refl _
  · have := join_length_add ts h
    omega
theorem tup_few {m : Nat} {ts : List Str} (h : ∀ t ∈ ts, t.length ≤ m) : (tupleText ts).length ≤ ts.length * (m + 2) + 3 := by
  unfold tupleText
  rw [strLen_append, strLen_append]
  have e1 : ((("(" : String) : Str)).length = 1 := rfl
  have e3 : (((if ts.length == 1 then ",)" else ")" : String) : Str)).length ≤ 2 := by split <;> decide
  have h1 := join_few ts
  have h2 := piled_few h
  omega
theorem from_few {m : Nat} : ∀ {ts : List Str} (k : Nat) (acc : Str), (∀ t ∈ ts, t.length ≤ m) → (textFrom k acc ts).length ≤ acc.length + ts.length * (m + 2)
  | [], k, acc, _ => by show acc.length ≤ _; omega
  | t :: ts, k, acc, h => by
    have h1 := h t List.mem_cons_self
    have h2 := from_few (m := m) (ts := ts) (k + 1) (acc ++ (if k > 0 then ", " else "" : String) ++ t) fun u hu => h u (List.mem_cons_of_mem _ hu)
    have e : (acc ++ (if k > 0 then ", " else "" : String) ++ t).length ≤ acc.length + 2 + t.length := by
      rw [strLen_append, strLen_append]
      have : (((if k > 0 then ", " else "" : String)) : Str).length ≤ 2 := by split <;> decide
      omega
    show (textFrom (k + 1) (acc ++ (if k > 0 then ", " else "" : String) ++ t) ts).length ≤ _
    rw [List.length_cons, Nat.add_mul, Nat.one_mul]
    omega
theorem lst_few {m : Nat} {ts : List Str} (h : ∀ t ∈ ts, t.length ≤ m) : (listText ts).length ≤ ts.length * (m + 2) + 2 := by
  unfold listText
  rw [strLen_append]
  have h1 := from_few (m := m) 0 ("[" : Str) h
  have e1 : ((("[" : String) : Str)).length = 1 := rfl
  have e2 : ((("]" : String) : Str)).length = 1 := rfl
  omega
theorem dict_few {m : Nat} {ts : List Str} (h : ∀ t ∈ ts, t.length ≤ m) : (dictText ts).length ≤ ts.length * (m + 2) + 2 := by
  unfold dictText
  rw [strLen_append, strLen_append]
  have e1 : ((("{" : String) : Str)).length = 1 := rfl
  have e3 : ((("}" : String) : Str)).length = 1 := rfl
  have h1 := join_few ts
  have h2 := piled_few h
  omega
theorem shown_all : ∀ ds : List PyData, PyData.shownAll ds = ds.map PyData.shown
  | [] => rfl
  | d :: ds => by
    rw [PyData.shownAll, shown_all ds]
    rfl
theorem tupD_few {m : Nat} {ds : List PyData} (h : ∀ d ∈ ds, d.shown.length ≤ m) : (PyData.tuple ds).shown.length ≤ ds.length * (m + 2) + 3 := by
  rw [PyData.shown, shown_all]
  have := tup_few (m := m) (ts := ds.map PyData.shown) fun t ht => by
    obtain ⟨d, hd, rfl⟩ := List.mem_map.mp ht
    exact h d hd
  rwa [List.length_map] at this
theorem lstD_few {m : Nat} {ds : List PyData} (h : ∀ d ∈ ds, d.shown.length ≤ m) : (PyData.list ds).shown.length ≤ ds.length * (m + 2) + 2 := by
  rw [PyData.shown, shown_all]
  have := lst_few (m := m) (ts := ds.map PyData.shown) fun t ht => by
    obtain ⟨d, hd, rfl⟩ := List.mem_map.mp ht
    exact h d hd
  rwa [List.length_map] at this
/-! ### a dict of numbers -/
def numsK (l : List (Int × Int)) : List (L2.Key × V) := l.map fun z => (Sum.inl z.1, V.int z.2)
def numsD (l : List (Int × Int)) : PyData := .dict (l.map fun z => (.int z.1, .int z.2))
theorem kv_few {m : Nat} : ∀ {l : List (Int × Int)}, (∀ z ∈ l, (toString z.1 : Str).length ≤ m ∧ (toString z.2 : Str).length ≤ m) → ∀ t ∈ PyData.shownKv (l.map fun z => (.int z.1, .int z.2)), t.length ≤ m + 2 + m
  | [], _, t, ht => by cases ht
  | z :: l, h, t, ht => by
    rw [List.map_cons, PyData.shownKv] at ht
    rcases List.mem_cons.mp ht with rfl | ht
    · rw [strLen_append, strLen_append]
      have h1 := h z List.mem_cons_self
      have e : (((": " : String)) : Str).length = 2 := rfl
      show (toString z.1 : Str).length + _ + (toString z.2 : Str).length ≤ _
      omega
    · exact kv_few (fun u hu => h u (List.mem_cons_of_mem _ hu)) t ht
theorem kv_len : ∀ l : List (PyData × PyData), (PyData.shownKv l).length = l.length
  | [] => rfl
  | (k, v) :: l => by rw [PyData.shownKv, List.length_cons, kv_len l, List.length_cons]
theorem numsD_few {m : Nat} {l : List (Int × Int)} (h : ∀ z ∈ l, (toString z.1 : Str).length ≤ m ∧ (toString z.2 : Str).length ≤ m) : (numsD l).shown.length ≤ l.length * (m + 2 + m + 2) + 2 := by
  unfold numsD
  rw [PyData.shown]
  have := dict_few (kv_few h)
  rwa [kv_len, List.length_map] at this
section
variable {X : Cx} {pins : List (Addr × Obj)} {σ : L2.St} {H : Hp} {s : Shared}
theorem nums_reads : ∀ {l : List (Int × Int)} {es : List DictEntry} {vs : List (L2.Key × Value)}, KV (numsK l) vs → PySem.Pairs (mixKind X.prog X.w) es vs → ReadsAll s.heap (es.map (·.key)) (l.map fun z => PyData.int z.1) [] ∧ ReadsAll s.heap (es.map (·.val)) (l.map fun z => PyData.int z.2) []
  | [], _, _, kv, p => by
    cases kv
    cases p
    exact ⟨.nil, .nil⟩
  | z :: l, _, _, kv, p => by
    cases kv with
    | cons r kv =>
      cases p with
      | cons h1 h2 p =>
        obtain ⟨i1, i2⟩ := nums_reads kv p
        obtain ⟨r1, r2⟩ := r
        have ek : _ = (Sum.inl z.1 : L2.Key) := r1.symm
        rw [ek] at h1
        obtain ⟨t, rv⟩ := (show ∃ t, _ = Value.int z.2 t from r2)
        rcases L2.keyIs_shape (show L2.keyIs (Sum.inl z.1) _ = true from h1) with ⟨i, t', e1, e2⟩ | ⟨x, t', e1, _⟩
        · have e3 : i = z.1 := (Sum.inl.inj e1).symm
          subst e3
          refine ⟨?_, ?_⟩
          · rw [List.map_cons, List.map_cons, e2]
            exact .cons (.int _ _) i1
          · rw [List.map_cons, List.map_cons, h2, rv]
            exact .cons (.int _ _) i2
        · cases e1
theorem dict_reads (I : Inv X pins σ H s) {a : Addr} {l : List (Int × Int)} (h : H a = some (.dK (numsK l))) : Reads s.heap (.ref a) (numsD l) [a] ∧ sysModules ∉ ([a] : List Addr) := by
  obtain ⟨_, ns, vs, kv, ob, es, ep, e1, e2, e3, e4, e5, e6⟩ := I.hok a _ h
  obtain ⟨h1, h2⟩ := nums_reads (X := X) (s := s) kv e5
  refine ⟨?_, fun z => ?_⟩
  · have := Reads.dict (kvs := l.map fun z => (PyData.int z.1, PyData.int z.2)) e1 e2.1 e3 (as := []) (bs := []) (by rw [List.map_map]; exact h1) (by rw [List.map_map]; exact h2)
    exact this
  · rw [List.mem_singleton.mp z] at ns
    simp at ns
end
/-- what is shown: data without a dict; {}; (a number, a dict of numbers) -/
inductive RepV (K : PySem.W.Frag) (H : Hp) : V → PyData → Prop where
  | dat {v : V} {d : PyData} (h : Dp K H v d) (hd : d.hasDict = false) (hs : d.showable = true) (hp : d.depth ≤ 30) : RepV K H v d
  | emp {a : Addr} (h : H a = some (.dK [])) : RepV K H (.ref a) (numsD [])
  | ply {a b : Addr} {n : Int} {l : List (Int × Int)} (h : H a = some (.tup [.int n, .ref b])) (hb : H b = some (.dK (numsK l))) (hn : n.natAbs.log2 < 1920) (hl : ∀ z ∈ l, z.1.natAbs.log2 < 1920 ∧ z.2.natAbs.log2 < 1920) : RepV K H (.ref a) (.tuple [.int n, numsD l])
theorem nums_showable : ∀ {l : List (Int × Int)}, (∀ z ∈ l, z.1.natAbs.log2 < 1920 ∧ z.2.natAbs.log2 < 1920) → PyData.showableKv (l.map fun z => (.int z.1, .int z.2)) = true
  | [], _ => rfl
  | z :: l, h => by
    have h1 := h z List.mem_cons_self
    rw [List.map_cons, PyData.showableKv, nums_showable fun u hu => h u (List.mem_cons_of_mem _ hu)]
    simp [PyData.showable, h1.1, h1.2]
theorem nums_depth : ∀ l : List (Int × Int), PyData.depthKv (l.map fun z => (.int z.1, .int z.2)) = 0
  | [] => rfl
  | z :: l => by
    rw [List.map_cons, PyData.depthKv, nums_depth l]
    rfl
section
variable {X : Cx}
/-- repr(v) -/
theorem call_reprQ {K : PySem.W.Frag} (hg : X.A.guards = some []) (hu : X.A.units + 100 < cLine) (hK : X.K = K := by rfl) : CallR X (.builtin "repr") (fun xs H Q => ∃ v d, xs = [v] ∧ RepV K H v d ∧ d.shown.length ≤ sizeLine ∧ Q (.str d.shown) H) := by
  subst hK
  intro pins s σ H xs us Q I r h
  obtain ⟨v, d, rfl, o, hz, q⟩ := h
  obtain ⟨u, rfl, ru⟩ := vals1 r
  cases o with
  | dat h hd hs hp =>
    obtain ⟨as, rd⟩ := Dp.reads I _ _ _ h ru
    cases h with
    | non =>
      obtain rfl : u = Value.none := ru
      exact PySem.P.repr_of_none ⟨.str _, H, I.tok _, ⟨_, rfl⟩, q⟩
    | bl b =>
      obtain rfl : u = Value.bool b := ru
      exact PySem.P.repr_of_bool ⟨.str _, H, I.tok _, ⟨_, rfl⟩, q⟩
    | int i =>
      obtain ⟨t, rfl⟩ := ru
      exact PySem.P.repr_of_int (by simpa [PyData.showable] using hs) ⟨.str _, H, I.tok _, ⟨_, rfl⟩, q⟩
    | str x =>
      obtain ⟨t, rfl⟩ := ru
      exact PySem.P.repr_of_str ⟨.str _, H, I.tok _, ⟨_, rfl⟩, q⟩ hz
    | lst h1 h2 =>
      cases ru
      exact repr_of_reads' (h₀ := s.heap) rd hs (PyData.noDict_hsm hd) hg (by omega) (fun _ _ z => z) (fun h' u tk k => ⟨.str _, H, I.kept k, ⟨_, rfl⟩, q⟩) hz
    | tup h1 h2 =>
      cases ru
      exact repr_of_reads' (h₀ := s.heap) rd hs (PyData.noDict_hsm hd) hg (by omega) (fun _ _ z => z) (fun h' u tk k => ⟨.str _, H, I.kept k, ⟨_, rfl⟩, q⟩) hz
  | emp h =>
    cases ru
    obtain ⟨rd, ns⟩ := dict_reads (l := []) I h
    exact repr_of_reads' (h₀ := s.heap) rd rfl (fun _ => ns) hg (by show X.A.units + (1 + 1) < _; omega) (fun _ _ z => z) (fun h' u tk k => ⟨.str _, H, I.kept k, ⟨_, rfl⟩, q⟩) hz
  | @ply a b n l h hb hn hl =>
    cases ru
    obtain ⟨rd, ns⟩ := dict_reads I hb
    obtain ⟨_, its, rv, ob, e1, e2, n2, e3⟩ := I.hok a _ h
    obtain ⟨w1, w2, rfl, r1, r2⟩ : ∃ w1 w2, its = [w1, w2] ∧ L2.RelV (.int n) w1 ∧ L2.RelV (.ref b) w2 := by
      cases rv with
      | cons h1 rv => cases rv with
        | cons h2 rv =>
          cases rv
          exact ⟨_, _, rfl, h1, h2⟩
    obtain ⟨t, rfl⟩ := r1
    cases (show w2 = Value.ref b from r2)
    have rd2 : Reads s.heap (.ref a) (.tuple [.int n, numsD l]) ([] ++ ([b] ++ [])) := .tuple e1 e2 e3 (.cons (.int n t) (.cons rd .nil))
    have dl : PyData.depth (numsD l) = 1 := by
      show PyData.depthKv _ + 1 = 1
      rw [nums_depth]
    refine repr_of_reads' (h₀ := s.heap) rd2 ?_ (fun _ => ns) hg ?_ (fun _ _ z => z) (fun h' u tk k => ⟨.str _, H, I.kept k, ⟨_, rfl⟩, q⟩) hz
    · show (decide (n.natAbs.log2 < 1920) && (PyData.showableKv _ && true)) = true
      rw [nums_showable hl, decide_eq_true hn]
      rfl
    · show X.A.units + ((max (PyData.depth (.int n)) (max (PyData.depth (numsD l)) 0) + 1) + 1) < _
      rw [dl]
      show X.A.units + ((max 0 (max 1 0) + 1) + 1) < _
      omega
end
end TmQ

/-! (a number, a dict of numbers) == the same. -/
namespace TmQ
open PySem PySem.Spec PyProof.Rows L2
def PlyV (H : Hp) (v : V) (n : Int) (l : List (Int × Int)) : Prop := ∃ a b, v = .ref a ∧ H a = some (.tup [.int n, .ref b]) ∧ H b = some (.dK (numsK l))
theorem PlyV.keep {H H' : Hp} {v : V} {n : Int} {l : List (Int × Int)} (h : PlyV H v n l) (e : Same H H') : PlyV H' v n l := by
  obtain ⟨a, b, e1, e2, e3⟩ := h
  exact ⟨a, b, e1, e _ _ e2, e _ _ e3⟩
theorem nums_val : ∀ {l : List (Int × Int)}, (l.map (·.1)).Nodup → ∀ p ∈ numsK l, ∃ u, valV (numsK l) p.1 = some u ∧ p.2 = u ∧ ∃ i, u = V.int i
  | [], _, p, hp => by cases hp
  | z :: l, nd, p, hp => by
    rw [List.map_cons, List.nodup_cons] at nd
    have hp2 : p ∈ (Sum.inl z.1, V.int z.2) :: numsK l := hp
    rcases List.mem_cons.mp hp2 with rfl | hp
    · refine ⟨V.int z.2, ?_, rfl, _, rfl⟩
      show valV ((Sum.inl z.1, V.int z.2) :: numsK l) (Sum.inl z.1) = _
      unfold valV
      rw [List.find?_cons]
      simp
    · obtain ⟨u, h1, h2⟩ := nums_val nd.2 p hp
      refine ⟨u, ?_, h2⟩
      obtain ⟨y, hy, e⟩ := List.mem_map.mp hp
      have ne : ¬ ((Sum.inl z.1 : L2.Key) = p.1) := fun q => nd.1 (by
        have e1 : (Sum.inl y.1 : L2.Key) = p.1 := congrArg Prod.fst e
        rw [← e1] at q
        rw [Sum.inl.inj q]
        exact List.mem_map.mpr ⟨y, hy, rfl⟩)
      show valV ((Sum.inl z.1, V.int z.2) :: numsK l) p.1 = _
      unfold valV at h1 ⊢
      rw [List.find?_cons, decide_eq_false ne]
      exact h1
section
variable {X : Cx} {pins : List (Addr × Obj)} {σ : L2.St} {H : Hp} {s : Shared}
theorem nums_eqP (I : Inv X pins σ H s) {A : Around} (hu : A.units + 2 < cLine) {a b : Addr} {l : List (Int × Int)} (nd : (l.map (·.1)).Nodup) (ha : H a = some (.dK (numsK l))) (hb : H b = some (.dK (numsK l))) : SeqAt.EqP X.prog X.w A s (.ref a) (.ref b) true := by
  by_cases e : a = b
  · subst e
    exact (SeqAt.EqAt.same _).eqP
  · refine SeqAt.eqP_refs e fun E Q q => ?_
    obtain ⟨_, ya, va, ra, da⟩ := (show ObjOk X.prog X.w H s.heap a (.dK (numsK l)) from I.hok a _ ha)
    obtain ⟨_, yb, vb, rb, db⟩ := (show ObjOk X.prog X.w H s.heap b (.dK (numsK l)) from I.hok b _ hb)
    refine PySem.W.rcP_dicts (knd := mixKind X.prog X.w) (r := true) ya yb da db (by omega) (fun _ => hits_run (F := fun x y => x = y ∧ ∃ i, y = V.int i) (fun x y v u h rx ry => ?_) rb ra fun p hp => ?_) E Q ?_
    · obtain ⟨rfl, i, rfl⟩ := h
      exact (eqAt_same rx ry rfl).eqP
    · obtain ⟨u, h1, h2, h3⟩ := nums_val nd p hp
      exact ⟨u, h1, h2, h3⟩
    · have e : va.length = vb.length := by rw [← ra.length, ← rb.length]
      rw [show (va.length == vb.length && true) = true from by rw [e]; simp]
      exact q
theorem ply_rc (I : Inv X pins σ H s) {A : Around} (hu : A.units + 4 < cLine) {x y : V} {v u : Value} {n : Int} {l : List (Int × Int)} (nd : (l.map (·.1)).Nodup) (hx : PlyV H x n l) (hy : PlyV H y n l) (rx : L2.RelV x v) (ry : L2.RelV y u) (E Q : Value → Shared → Prop) (q : Q (.bool true) s) : wpAny (model X.prog X.w) A (richCompare .Eq v u) Q E s := by
  obtain ⟨a, b, rfl, ha, hb⟩ := hx
  obtain ⟨c, d, rfl, hc, hd⟩ := hy
  cases rx
  cases ry
  obtain ⟨its, r, e, z⟩ := I.tuple (SqT.of ha)
  obtain ⟨its2, r2, e2, z2⟩ := I.tuple (SqT.of hc)
  obtain ⟨w1, w2, rfl, r1, r3⟩ : ∃ w1 w2, its = [w1, w2] ∧ L2.RelV (.int n) w1 ∧ L2.RelV (.ref b) w2 := by
    cases r with
    | cons h1 rv => cases rv with
      | cons h2 rv =>
        cases rv
        exact ⟨_, _, rfl, h1, h2⟩
  obtain ⟨v1, v2, rfl, r4, r5⟩ : ∃ w1 w2, its2 = [w1, w2] ∧ L2.RelV (.int n) w1 ∧ L2.RelV (.ref d) w2 := by
    cases r2 with
    | cons h1 rv => cases rv with
      | cons h2 rv =>
        cases rv
        exact ⟨_, _, rfl, h1, h2⟩
  cases (show w2 = Value.ref b from r3)
  cases (show v2 = Value.ref d from r5)
  obtain ⟨o1, ho1, c1, n1, d1⟩ := e
  obtain ⟨o2, ho2, c2, n2, d2⟩ := e2
  refine GQ.rc_tupG (items := #[w1, Value.ref b]) (items2 := #[v1, Value.ref d]) (I := fun _ s' => s' = s) rfl (by omega) ⟨o1, ho1, c1, n1, d1⟩ ⟨o2, ho2, c2, n2, d2⟩ (fun i h1 h2 s' hs => ?_) (fun s' hs => by rw [hs]; exact q) rfl
  subst hs
  match i, h1, h2 with
  | 0, _, _ => exact (eqAt_same (A := A.in1) (s := s') r1 r4 rfl).eqP (prog := X.prog) (w := X.w) E (fun r s1 => r = true ∧ s1 = s') ⟨rfl, rfl⟩
  | 1, _, _ => exact nums_eqP I (A := A.in1) (by show A.units + 1 + 2 < _; omega) nd hb hd E (fun r s1 => r = true ∧ s1 = s') ⟨rfl, rfl⟩
  | i + 2, h1, _ => exact absurd h1 (by show ¬ i + 2 < 2; omega)
theorem ply_eqP (I : Inv X pins σ H s) {A : Around} (hu : A.units + 6 < cLine) {x y : V} {v u : Value} {n : Int} {l : List (Int × Int)} (nd : (l.map (·.1)).Nodup) (hx : PlyV H x n l) (hy : PlyV H y n l) (rx : L2.RelV x v) (ry : L2.RelV y u) : SeqAt.EqP X.prog X.w A s v u true := by
  obtain ⟨a, _, ea, _⟩ := id hx
  obtain ⟨c, _, ec, _⟩ := id hy
  subst ea ec
  cases (show v = Value.ref a from rx)
  cases (show u = Value.ref c from ry)
  by_cases e : a = c
  · subst e
    exact (SeqAt.EqAt.same _).eqP
  · exact SeqAt.eqP_refs e fun E Q q => ply_rc I (by omega) nd hx hy rfl rfl E Q q
end
section
variable {X : Cx}
/-- (n, d) == (n, d') of equal dicts -/
def rEqPly : R2 := fun x y H Q => ∃ n l, (l.map (·.1)).Nodup ∧ PlyV H x n l ∧ PlyV H y n l ∧ Q (.bl true) H
theorem op_eqPly (hu : X.A.units + 10 < cLine) : OpR X (compareOp .Eq) rEqPly := by
  intro pins s σ H x y v u Q I rx ry h
  obtain ⟨n, l, nd, hx, hy, q⟩ := h
  exact ply_rc I (by omega) nd hx hy rx ry _ _ ⟨.bl true, H, I, rfl, q⟩
/-- a list of such pairs == the same -/
def rEqPlys (K : PySem.W.Frag) : R2 := fun x y H Q => ∃ a b xs ys, x = .ref a ∧ y = .ref b ∧ SqL K H a xs ∧ SqL K H b ys ∧ Paired (fun x y => ∃ n l, (l.map (·.1)).Nodup ∧ PlyV H x n l ∧ PlyV H y n l) xs ys ∧ Q (.bl true) H
theorem op_eqPlys (hu : X.A.units + 20 < cLine) : OpR X (compareOp .Eq) (rEqPlys X.K) := by
  intro pins s σ H x y v u Q I rx ry h
  obtain ⟨a, b, xs, ys, rfl, rfl, ha, hb, hp, q⟩ := h
  cases rx
  cases ry
  obtain ⟨us, r1, p1, _⟩ := I.list ha
  obtain ⟨ws, r2, p2, _⟩ := I.list hb
  have hsz : us.toArray.size = ws.toArray.size := by
    rw [List.size_toArray, List.size_toArray, ← r1.length, ← r2.length]
    exact Paired.length hp
  refine SeqAt.rcP_lists (e := fun _ => true) p1.isList p2.isList hsz (by omega) (fun j h1 h2 => ?_) _ _ ?_
  · have k := items_run (P := X.prog) (w := X.w) (A := X.A.in1) (s := s) (F := fun x y => ∃ n l, (l.map (·.1)).Nodup ∧ PlyV H x n l ∧ PlyV H y n l) (fun x y v u h rx ry => by
      obtain ⟨n, l, nd, hx, hy⟩ := h
      exact ply_eqP I (by show X.A.units + 1 + 6 < _; omega) nd hx hy rx ry) hp r1 r2 j (by simpa using h1) (by simpa using h2)
    simpa using k
  · rw [show ((List.range us.toArray.size).all fun _ => true) = true from List.all_eq_true.mpr fun _ _ => rfl]
    exact ⟨.bl true, H, I, rfl, q⟩
end
end TmQ

/-! a number that is not in range(n). -/
namespace TmQ
open PySem PySem.Spec PyProof.Rows L2
section
variable {X : Cx}
theorem cr_range1 : CallR X (.type "range") (fun vs H Q => ∃ i, vs = [V.int i] ∧ ∀ p, H p = none → Q (.ref p) (upd H p (.rng 0 i))) := by
  intro pins s σ H vs us Q I r h
  obtain ⟨i, rfl, q⟩ := h
  obtain ⟨u1, rfl, t, rfl⟩ := vals1 r
  refine call_range_1 ⟨.ref s.heap.objs.size, upd H s.heap.objs.size (.rng 0 i), I.laid (t' := s.toks + 2) (fun b o e => Heap.get?_push_of_some _ e) (Nat.le_refl _) ?_, rfl, q _ (I.hok.fresh (Nat.le_refl _))⟩
  exact ⟨_, _, _, Heap.get?_push_size _ rfl⟩
theorem op_notIn_rng : OpR X (compareOp .NotIn) (fun x y H Q => ∃ i a lo hi, x = V.int i ∧ y = V.ref a ∧ H a = some (.rng lo hi) ∧ Q (.bl (!decide (lo ≤ i ∧ i < hi))) H) := by
  intro pins s σ H x y v u Q I rx ry h
  obtain ⟨i, a, lo, hi, rfl, rfl, ha, q⟩ := h
  obtain ⟨k, rfl⟩ := rx
  obtain rfl : u = Value.ref a := ry
  obtain ⟨t1, t2, t3, ho⟩ := I.hok a _ ha
  show wpAny _ _ (do return Value.bool (!(← contains (Value.ref a) (Value.int i k)))) _ _ s
  refine wpAny_bind (wpAny_contains_slot (T := "range") ⟨_, ho, rfl⟩ F.slot_range_contains (call_meets F.slot_range_contains ⟨_, ho, rfl⟩ F.entry_range_contains (F.args_range_contains_2 _ _) (q_contains a lo hi i t1 t2 t3 k)
    ⟨ho, wpAny_truthy_bool (wpAny_pure ⟨.bl _, H, I, rfl, ?_⟩)⟩))
  rw [place1]
  exact q
end
end TmQ

set_option maxHeartbeats 4000000
/-! _law_is_order_due. -/
namespace Tm
open PySem PySem.Spec PyProof.Rows L2 TmE TmQ
local macro_rules | `(tactic| walk_at "x") => `(tactic| dsimp only [tNext, tRet, tSeq, tCall, tCB, tC, tCons, tNil, tAsg, tDrop, sFld])
section
variable {P : Program} {w : World} {K : PySem.W.Frag} {mg : Str → Option Value} {base : Heap} {C CP : Addr}
abbrev s_ldue : Stmt := top 49
theorem sc_law_is_order_due : FnScope ["_law_value", "_law_size", "_law_one"] ["_law_value", "_law_size"] (defScope s_ldue) := ⟨rfl, rfl, rfl, by decide +kernel, rfl, by decide +kernel, by decide +kernel⟩
def DatW (K : PySem.W.Frag) (H : Hp) (u : V) : Prop := ∀ a xs, u = .ref a → Rd H a (.tup xs) → ∃ ds, (∀ H', Same H H' → DpAll K H' xs ds) ∧ SeqAt.shaped (.tuple ds) = true
def sp_ldue (K : PySem.W.Frag) : Sp := fun vs H Q _ => ∃ (u : V) (m : Nat) (b : Bool), vs = [u, .int (m : Int)] ∧ OrdW K H u m b ∧ DatW K H u ∧ m ≤ 100 ∧ ∀ H', Same H H' → Q (.bl b) H'
theorem ok_ldue (B : Bt mg) (Bs : mg "set" = none) (D : Df K mg "_law_is_order_due" s_ldue ["_law_value", "_law_size"]) : Ok P w K mg base "_law_is_order_due" 1 ["_law_value", "_law_size"] (sp_ldue K) := by
  refine D.ok sc_law_is_order_due (fun vs H Q E h => ?_) (fun f cdv A outer s H vs Q E hr h => ?_)
  · obtain ⟨u, m, b, rfl, _⟩ := h
    rfl
  · obtain ⟨u, m, b, rfl, hw, hdat, hm, q⟩ := h
    have hu64 : (A.deeper (envOfC "_law_is_order_due" (defScope s_ldue) s.heap.objs.size f cdv)).units + 64 < cLine := by
      have := hr.un
      omega
    refine ⟨_, pss_cons (ps_if (PW.pt (pw_or (pt_not (pt_val (pe_callB (isiK (K := K)) (by rfl) B.isinstance (by decide +kernel) (pa_cons (pv 0) (pa_cons (pe_ty (n := "tuple") (by rfl) B.tuple (by decide +kernel)) (pa_nil)))))) (pw_or1 (pt_cmpR (op_eqD hu64) (pv 0) (pe_tup (pa_nil)) (nomark _)))))
        (pss_one (ps_ret (pe_bl)))
        (pss_nil))
      (pss_cons (ps_for PassesOwn.never rfl (pi_tup (pv 0)) (pg_name (i := 2) sc_law_is_order_due.nd rfl (.inl rfl))
        (pss_one (ps_if (PW.pt (pw_or (pt_not (pt_val (pe_callB (isiK (K := K)) (by rfl) B.isinstance (by decide +kernel) (pa_cons (pv 2) (pa_cons (pe_ty (n := "int") (by rfl) B.int (by decide +kernel)) (pa_nil)))))) (pw_or (pt_val (pe_callB (isiK (K := K)) (by rfl) B.isinstance (by decide +kernel) (pa_cons (pv 2) (pa_cons (pe_ty (n := "bool") (by rfl) B.bool (by decide +kernel)) (pa_nil))))) (pw_or1 (pt_cmpR op_notIn_rng (pv 2) (pe_callTy cr_range1 (by rfl) B.range (by decide +kernel) (pa_cons (pv 1) (pa_nil))) rfl)))))
        (pss_one (ps_ret (pe_bl)))
        (pss_nil))))
      (pss_one (ps_ret (pe_cmpR op_eq (pe_lenSetD (K := K) (by rfl) B.len (by rfl) Bs (pv 0)) (pe_callB (lenK (K := K)) (by rfl) B.len (by decide +kernel) (pa_cons (pv 0) (pa_nil))) (nomark _))))), ?_⟩
    rcases hw with ⟨⟨t, ty, kt⟩, rfl⟩ | ⟨oa, xs, bs, rfl, ho, few, hP, cs⟩
    · refine ⟨_, rfl, u, .ty "tuple", _, _, false, rfl, .ty "tuple", ty, kt, _, rfl, ?_⟩
      refine ifT rfl ?_
      exact q _ (Same.refl _)
    have lxb : xs.length = bs.length := Paired.length hP
    refine ⟨_, rfl, .ref oa, .ty "tuple", _, _, true, rfl, .ty "tuple", rd_ty ho, kit_ty (by decide +kernel), _, rfl, ?_⟩
    refine ifF rfl ?_
    obtain ⟨ds, hds, sh⟩ := hdat oa xs rfl ho
    refine ⟨_, rfl, by show 0 ≤ sizeLine; decide, fun pt hpt => ?_⟩
    have e1 := same_new (o := .tup []) hpt
    have at1 : upd H pt (.tup []) pt = some (.tup []) := upd_same
    generalize upd H pt (.tup []) = H1 at e1 at1
    have dl : xs.length = ds.length := by
      have := hds H (Same.refl _)
      clear hds sh lxb few hP cs ho hdat
      induction xs generalizing ds with
      | nil => cases this; rfl
      | cons x xs ih =>
        cases this with
        | cons _ h => rw [List.length_cons, List.length_cons, ih _ h]
    refine ⟨.tuple ds, .tuple [], .tup (.inl (rd_keep e1 ho)) (hds H1 e1), .tup (SqT.of at1) .nil, sh, by decide +kernel, _, rfl, ?_⟩
    by_cases e0 : xs = []
    · have ed : ds = [] := List.eq_nil_of_length_eq_zero (by rw [← dl, e0]; rfl)
      refine ifT (by rw [ed]; rfl) ?_
      rcases cs with ⟨rfl, _⟩ | ⟨ne, _⟩
      · exact q _ e1
      · exact absurd e0 ne
    have ne : PyData.eqv (.tuple ds) (.tuple []) = false := by
      cases ds with
      | nil => exact absurd (List.eq_nil_of_length_eq_zero (by rw [dl]; rfl)) e0
      | cons d ds => rw [PyData.eqv, PyData.eqvAll]
    refine ifF ne ?_
    try dsimp only [tNext]
    try dsimp only [tSeq]
    refine ⟨_, rfl, oa, rfl, ⟨_, .inl (rd_keep e1 ho)⟩, ?_⟩
    refine for_tup (K := K) (xs := xs) (fun i σ' H' => ∃ o2 : Option V, σ' = [some (.ref oa), some (.int (m : Int)), o2] ∧ Same H H' ∧ (bs.take i).all id = true) ⟨none, rfl, e1, rfl⟩ (fun i σ' H' _ pv => ?_) (fun i x σ' H' hx pv => ?_) (fun σ' H' pv => ?_)
    · obtain ⟨_, _, e, _⟩ := pv
      exact .inl (rd_keep e ho)
    · obtain ⟨o2, rfl, e, hall⟩ := pv
      obtain ⟨c, hc, hn⟩ := paired_ix2 hP hx
      have bad : c = false → b = false := fun hcf => by
        rcases cs with ⟨rfl, _⟩ | ⟨_, _, _, h1, _⟩
        · rfl
        · have := List.all_eq_true.mp h1 c (List.mem_of_getElem? hc)
          rw [hcf] at this
          cases this
      dsimp only [gName]
      rcases hn H' e with ⟨n, rfl, hcn⟩ | ⟨hcf, t, ty, h | ⟨h, h2⟩⟩
      · refine ⟨_, rfl, .int n, .ty "int", _, _, true, rfl, .ty "int", .base (.int n), kit_ty (by decide +kernel), _, rfl, ?_⟩
        refine ifF rfl ?_
        refine ⟨_, rfl, .int n, .ty "bool", _, _, false, rfl, .ty "bool", .base (.int n), kit_ty (by decide +kernel), _, rfl, ?_⟩
        refine ifF rfl ?_
        refine ⟨_, rfl, _, rfl, _, rfl, fun pr hpr => ?_⟩
        have e2 := same_new (o := .rng 0 (m : Int)) hpr
        refine ⟨n, pr, 0, (m : Int), rfl, rfl, upd_same, _, rfl, ?_⟩
        have ec : decide ((0 : Int) ≤ n ∧ n < (m : Int)) = c := by
          rw [hcn, Bool.eq_iff_iff]
          simp only [decide_eq_true_eq, Bool.and_eq_true]
          omega
        rw [ec]
        cases c with
        | true =>
          refine ifF rfl ?_
          try dsimp only [tNext]
          refine ⟨_, rfl, e.trans e2, ?_⟩
          rw [take_one hc, List.all_append, hall]
          rfl
        | false =>
          refine ifT rfl ?_
          rw [bad rfl] at q
          exact q _ (e.trans e2)
      · refine ⟨_, rfl, x, .ty "int", _, _, false, rfl, .ty "int", ty, h, _, rfl, ?_⟩
        refine ifT rfl ?_
        rw [bad hcf] at q
        exact q _ e
      · refine ⟨_, rfl, x, .ty "int", _, _, true, rfl, .ty "int", ty, h, _, rfl, ?_⟩
        refine ifF rfl ?_
        refine ⟨_, rfl, x, .ty "bool", _, _, true, rfl, .ty "bool", ty, h2, _, rfl, ?_⟩
        refine ifT rfl ?_
        rw [bad hcf] at q
        exact q _ e
    · obtain ⟨o2, rfl, e, hall⟩ := pv
      rw [lxb, List.take_length] at hall
      rcases cs with ⟨_, h0 | h0⟩ | ⟨_, ns, rfl, _, rfl⟩
      · exact absurd h0 e0
      · rw [hall] at h0
        cases h0
      · have ho1 := rd_keep e ho
        try dsimp only [tRet, tOp]
        refine ⟨_, rfl, oa, ns, rfl, .inl ho1, by rw [List.length_map] at few; omega, fun n hn => ⟨_, rfl, oa, _, rfl, .inr (.inl ho1), rfl, ?_⟩⟩
        have : decide (V.int (n : Int) = V.int (((ns.map V.int).length : Nat) : Int)) = decide ns.Nodup := by
          rw [List.length_map, decide_eq_decide]
          exact ⟨fun h => hn.mp (Int.ofNat.inj (V.int.inj h)), fun h => by rw [hn.mpr h]⟩
        rw [this]
        exact q _ e
end
end Tm

/-! values near orders: what is told of them. -/
namespace Tm
open PySem PySem.Spec PyProof.Rows L2 TmE TmQ
def FineI (n : Int) : Prop := (PyData.int n).shown.length ≤ 70 ∧ n.natAbs.log2 < 1920
inductive ItemV (H : Hp) (m : Nat) : V → PyData → Bool → Prop where
  | int (n : Int) (h : FineI n) : ItemV H m (.int n) (.int n) (decide (0 ≤ n) && decide (n ≤ (m : Int) - 1))
  | non : ItemV H m .non .none false
  | bl (x : Bool) : ItemV H m (.bl x) (.bool x) false
  | str (x : Str) (h1 : (reprText x).length ≤ 70) (h2 : PyData.strOk x = true) : ItemV H m (.str x) (.str x) false
  | tup {r : Addr} (ns : List Int) (h : Rd H r (.tup (ns.map V.int))) (hf : ∀ n ∈ ns, FineI n) (few : ns.length ≤ 10) : ItemV H m (.ref r) (.tuple (ns.map .int)) false
theorem ItemV.keep {H H' : Hp} {m : Nat} {v : V} {d : PyData} {c : Bool} (e : Same H H') (h : ItemV H m v d c) : ItemV H' m v d c := by
  cases h with
  | int n h => exact .int n h
  | non => exact .non
  | bl x => exact .bl x
  | str x h1 h2 => exact .str x h1 h2
  | tup ns h hf few => exact .tup ns (rd_keep e h) hf few
theorem dp_intsL {K : PySem.W.Frag} {H : Hp} : ∀ ns : List Int, DpAll K H (ns.map V.int) (ns.map PyData.int)
  | [] => .nil
  | n :: ns => .cons (.int n) (dp_intsL ns)
theorem show_ints : ∀ {ns : List Int}, (∀ n ∈ ns, FineI n) → PyData.showableAll (ns.map .int) = true
  | [], _ => rfl
  | n :: ns, h => by
    rw [List.map_cons, PyData.showableAll, show_ints fun k hk => h k (List.mem_cons_of_mem _ hk)]
    simp [PyData.showable, (h n List.mem_cons_self).2]
theorem lay_ints : ∀ ns : List Int, PyData.canLayAll0 (ns.map .int) = true
  | [] => rfl
  | n :: ns => by
    show (PyData.canLay0 (.int n) && PyData.canLayAll0 (ns.map .int)) = true
    rw [lay_ints ns]
    rfl
theorem dep_ints : ∀ ns : List Int, PyData.depthAll (ns.map .int) = 0
  | [] => rfl
  | n :: ns => by
    show max (PyData.depth (.int n)) (PyData.depthAll (ns.map .int)) = 0
    rw [dep_ints ns]
    rfl
theorem nod_ints : ∀ ns : List Int, PyData.hasDictAll (ns.map .int) = false
  | [] => rfl
  | n :: ns => by
    rw [List.map_cons, PyData.hasDictAll, nod_ints ns]
    rfl
structure FineD (d : PyData) : Prop where
  nd : d.hasDict = false
  sh : d.showable = true
  dp : d.depth ≤ 1
  ly : d.canLay0 = true
  ln : d.shown.length ≤ 1000
theorem ItemV.fine {H : Hp} {m : Nat} {v : V} {d : PyData} {c : Bool} (h : ItemV H m v d c) : FineD d := by
  cases h with
  | int n h => exact ⟨rfl, by simp [PyData.showable, h.2], by show 0 ≤ 1; decide, rfl, Nat.le_trans h.1 (by decide)⟩
  | non => exact ⟨rfl, rfl, by show 0 ≤ 1; decide, rfl, by decide +kernel⟩
  | bl x => exact ⟨rfl, rfl, by show 0 ≤ 1; decide, rfl, by cases x <;> decide +kernel⟩
  | str x h1 h2 => exact ⟨rfl, rfl, by show 0 ≤ 1; decide, h2, Nat.le_trans h1 (by decide)⟩
  | tup ns h hf few =>
    refine ⟨nod_ints ns, show_ints hf, ?_, lay_ints ns, ?_⟩
    · show PyData.depthAll (ns.map .int) + 1 ≤ 1
      rw [dep_ints]
      decide
    · have := tupD_few (m := 70) (ds := ns.map .int) fun d hd => by
        obtain ⟨n, hn, rfl⟩ := List.mem_map.mp hd
        exact (hf n hn).1
      rw [List.length_map] at this
      omega
theorem ItemV.dp {K : PySem.W.Frag} {H : Hp} {m : Nat} {v : V} {d : PyData} {c : Bool} (h : ItemV H m v d c) : Dp K H v d := by
  cases h with
  | int n h => exact .int n
  | non => exact .non
  | bl x => exact .bl x
  | str x h1 h2 => exact .str x
  | tup ns h hf few => exact .tup (.inl h) (dp_intsL ns)
theorem ItemV.num {K : PySem.W.Frag} {H : Hp} {m : Nat} {v : V} {d : PyData} {c : Bool} (h : ItemV H m v d c) : NumV K H v 0 ((m : Int) - 1) c := by
  cases h with
  | int n h => exact .inl ⟨n, rfl, rfl⟩
  | non => exact .inr ⟨rfl, _, .base .non, .inl (kit_ty (by decide +kernel))⟩
  | bl x => exact .inr ⟨rfl, _, .base (.bl x), .inr ⟨kit_ty (by decide +kernel), kit_ty (by decide +kernel)⟩⟩
  | str x h1 h2 => exact .inr ⟨rfl, _, .base (.str x), .inl (kit_ty (by decide +kernel))⟩
  | tup ns h hf few => exact .inr ⟨rfl, _, rd_ty h, .inl (kit_ty (by decide +kernel))⟩
/-- items, their data, whether each is a thread -/
inductive ItemsV (H : Hp) (m : Nat) : List V → List PyData → List Bool → Prop where
  | nil : ItemsV H m [] [] []
  | cons {v : V} {d : PyData} {c : Bool} {vs : List V} {ds : List PyData} {cs : List Bool} (h : ItemV H m v d c) (t : ItemsV H m vs ds cs) : ItemsV H m (v :: vs) (d :: ds) (c :: cs)
theorem ItemsV.keep {H H' : Hp} {m : Nat} (e : Same H H') : ∀ {vs ds cs}, ItemsV H m vs ds cs → ItemsV H' m vs ds cs
  | _, _, _, .nil => .nil
  | _, _, _, .cons h t => .cons (h.keep e) (t.keep e)
theorem ItemsV.append {H : Hp} {m : Nat} : ∀ {vs ds cs vs' ds' cs'}, ItemsV H m vs ds cs → ItemsV H m vs' ds' cs' → ItemsV H m (vs ++ vs') (ds ++ ds') (cs ++ cs')
  | _, _, _, _, _, _, .nil, k => k
  | _, _, _, _, _, _, .cons h t, k => .cons h (t.append k)
theorem ItemsV.all {H : Hp} {m : Nat} : ∀ {vs ds cs}, ItemsV H m vs ds cs → vs.length = ds.length ∧ vs.length = cs.length ∧ (∀ d ∈ ds, FineD d)
  | _, _, _, .nil => ⟨rfl, rfl, fun _ h => nomatch h⟩
  | _, _, _, .cons h t => by
    obtain ⟨h1, h2, h3⟩ := t.all
    refine ⟨by rw [List.length_cons, List.length_cons, h1], by rw [List.length_cons, List.length_cons, h2], fun d hd => ?_⟩
    rcases List.mem_cons.mp hd with rfl | hd
    · exact h.fine
    · exact h3 d hd
theorem ItemsV.dps {K : PySem.W.Frag} {H : Hp} {m : Nat} : ∀ {vs ds cs}, ItemsV H m vs ds cs → DpAll K H vs ds
  | _, _, _, .nil => .nil
  | _, _, _, .cons h t => .cons h.dp t.dps
theorem ItemsV.nums {K : PySem.W.Frag} {H : Hp} {m : Nat} : ∀ {vs ds cs}, ItemsV H m vs ds cs → Paired (fun v c => ∀ H', Same H H' → NumV K H' v 0 ((m : Int) - 1) c) vs cs
  | _, _, _, .nil => .nil
  | _, _, _, .cons h t => .cons (fun _ e => (h.keep e).num) t.nums
theorem ItemsV.ints {H : Hp} {m : Nat} : ∀ {vs ds cs}, ItemsV H m vs ds cs → cs.all id = true → ∃ ns : List Int, vs = ns.map V.int
  | _, _, _, .nil, _ => ⟨[], rfl⟩
  | _, _, _, .cons h t, hc => by
    rw [List.all_cons, Bool.and_eq_true] at hc
    obtain ⟨ns, rfl⟩ := t.ints hc.2
    cases h with
    | int n h => exact ⟨n :: ns, rfl⟩
    | non => cases hc.1
    | bl x => cases hc.1
    | str x h1 h2 => cases hc.1
    | tup ns' h hf few => cases hc.1
theorem all_dep : ∀ {ds : List PyData}, (∀ d ∈ ds, FineD d) → PyData.depthAll ds ≤ 1 ∧ PyData.canLayAll0 ds = true ∧ PyData.showableAll ds = true ∧ PyData.hasDictAll ds = false
  | [], _ => ⟨by show 0 ≤ 1; decide, rfl, rfl, rfl⟩
  | d :: ds, h => by
    obtain ⟨h1, h2, h3, h4⟩ := all_dep fun x hx => h x (List.mem_cons_of_mem _ hx)
    have hd := h d List.mem_cons_self
    refine ⟨?_, ?_, ?_, ?_⟩
    · show max (PyData.depth d) (PyData.depthAll ds) ≤ 1
      exact Nat.max_le.mpr ⟨hd.dp, h1⟩
    · show (PyData.canLay0 d && PyData.canLayAll0 ds) = true
      rw [hd.ly, h2]
      rfl
    · rw [PyData.showableAll, hd.sh, h3]
      rfl
    · rw [PyData.hasDictAll, hd.nd, h4]
      rfl
/-- a value near an order -/
inductive NearW (H : Hp) (m : Nat) : V → Prop where
  | flat {v : V} {d : PyData} {c : Bool} (h : ItemV H m v d c) (n : ∀ r, v ≠ .ref r) : NearW H m v
  | lst {a : Addr} (ns : List Int) (h : H a = some (.lst (ns.map V.int))) (hf : ∀ n ∈ ns, FineI n) (few : ns.length ≤ 10) : NearW H m (.ref a)
  | emp {a : Addr} (h : H a = some (.dK [])) : NearW H m (.ref a)
  | tup {a : Addr} {xs : List V} {ds : List PyData} {cs : List Bool} (h : Rd H a (.tup xs)) (hi : ItemsV H m xs ds cs) (few : xs.length ≤ 20) : NearW H m (.ref a)
theorem near_told {K : PySem.W.Frag} {H : Hp} {m : Nat} {v : V} (h : NearW H m v) : ∃ b d, d.shown.length ≤ 100000 ∧ ∀ H', Same H H' → OrdW K H' v m b ∧ DatW K H' v ∧ RepV K H' v d := by
  cases h with
  | @flat v d c h n =>
    have hf := h.fine
    refine ⟨false, d, Nat.le_trans hf.ln (by decide), fun H' e => ⟨.inl ⟨?_, rfl⟩, fun a xs ev _ => absurd ev (n a), .dat (h.keep e).dp hf.nd hf.sh (by have := hf.dp; omega)⟩⟩
    cases h with
    | int k h => exact ⟨_, .base (.int k), kit_ty (by decide +kernel)⟩
    | non => exact ⟨_, .base .non, kit_ty (by decide +kernel)⟩
    | bl x => exact ⟨_, .base (.bl x), kit_ty (by decide +kernel)⟩
    | str x h1 h2 => exact ⟨_, .base (.str x), kit_ty (by decide +kernel)⟩
    | @tup r ns h hf few => exact absurd rfl (n r)
  | @lst a ns h hf few =>
    refine ⟨false, .list (ns.map .int), ?_, fun H' e => ⟨.inl ⟨⟨_, .base (.lst (e _ _ h)), kit_ty (by decide +kernel)⟩, rfl⟩, fun b xs ev hr => ?_, .dat (.lst (SqL.of (e _ _ h)) (dp_intsL ns)) (nod_ints ns) (show_ints hf) ?_⟩⟩
    · have := lstD_few (m := 70) (ds := ns.map .int) fun d hd => by
        obtain ⟨n, hn, rfl⟩ := List.mem_map.mp hd
        exact (hf n hn).1
      rw [List.length_map] at this
      omega
    · cases ev
      rcases hr with hr | ⟨o, hr⟩
      · rw [e _ _ h] at hr
        cases hr
      · rw [e _ _ h] at hr
        cases hr
    · show PyData.depthAll (ns.map .int) + 1 ≤ 30
      rw [dep_ints]
      decide
  | @emp a h =>
    refine ⟨false, numsD [], by decide +kernel, fun H' e => ⟨.inl ⟨⟨_, .base (.dK (e _ _ h)), kit_ty (by decide +kernel)⟩, rfl⟩, fun b xs ev hr => ?_, .emp (e _ _ h)⟩⟩
    cases ev
    rcases hr with hr | ⟨o, hr⟩
    · rw [e _ _ h] at hr
      cases hr
    · rw [e _ _ h] at hr
      cases hr
  | @tup a xs ds cs h hi few =>
    obtain ⟨l1, l2, l3⟩ := hi.all
    obtain ⟨d1, d2, d3, d4⟩ := all_dep l3
    have sh : SeqAt.shaped (.tuple ds) = true := by
      have h1 : PyData.canLay0 (.tuple ds) = true := d2
      have h2 : PyData.depth (.tuple ds) ≤ 64 := by
        show PyData.depthAll ds + 1 ≤ 64
        omega
      unfold SeqAt.shaped
      rw [h1, decide_eq_true h2]
      rfl
    have ln : (PyData.tuple ds).shown.length ≤ 100000 := by
      have := tupD_few (m := 1000) (ds := ds) fun d hd => (l3 d hd).ln
      omega
    have rep : ∀ H', Same H H' → RepV K H' (.ref a) (.tuple ds) := fun H' e => .dat (.tup (.inl (rd_keep e h)) ((hi.keep e).dps)) d4 d3 (by show PyData.depthAll ds + 1 ≤ 30; omega)
    have dat : ∀ H', Same H H' → DatW K H' (.ref a) := fun H' e b ys ev hr => by
      cases ev
      have hr2 := rd_keep e h
      have ey : ys = xs := by
        rcases hr with hr | ⟨o, hr⟩ <;> rcases hr2 with k | ⟨o2, k⟩ <;> rw [hr] at k <;> cases k <;> rfl
      subst ey
      exact ⟨ds, fun H2 e2 => ((hi.keep e).keep e2).dps, sh⟩
    by_cases hall : xs ≠ [] ∧ cs.all id = true
    · obtain ⟨ns, rfl⟩ := hi.ints hall.2
      exact ⟨decide ns.Nodup, _, ln, fun H' e => ⟨.inr ⟨a, _, cs, rfl, rd_keep e h, by omega, (hi.keep e).nums, .inr ⟨hall.1, ns, rfl, hall.2, rfl⟩⟩, dat H' e, rep H' e⟩⟩
    · refine ⟨false, _, ln, fun H' e => ⟨.inr ⟨a, xs, cs, rfl, rd_keep e h, by omega, (hi.keep e).nums, .inl ⟨rfl, ?_⟩⟩, dat H' e, rep H' e⟩⟩
      by_cases e0 : xs = []
      · exact .inl e0
      · right
        cases hc : cs.all id with
        | true => exact absurd ⟨e0, hc⟩ hall
        | false => rfl
end Tm

/-! tuples cut and put together; _law_near_order. -/
namespace Tm
open PySem PySem.Spec PyProof.Rows L2 TmE TmQ
local macro_rules | `(tactic| walk_at "x") => `(tactic| dsimp only [tNext, tRet, tSeq, tCall, tCB, tC, tCons, tNil, tAsg, tDrop, sFld])
def TupV (H : Hp) (v : V) (xs : List V) : Prop := ∃ r, v = .ref r ∧ Rd H r (.tup xs)
theorem TupV.keep {H H' : Hp} {v : V} {xs : List V} (h : TupV H v xs) (e : Same H H') : TupV H' v xs := by
  obtain ⟨r, e1, h⟩ := h
  exact ⟨r, e1, rd_keep e h⟩
theorem NearW.kl {l : Addr} {H H' : Hp} {m : Nat} {v : V} (v0 : VatV H l) (k : KL l H H') (n : v ≠ .ref l) (h : NearW H m v) : NearW H' m v := by
  obtain ⟨x, y, z, hv⟩ := v0
  have rd : ∀ {a : Addr} {xs : List V}, Rd H a (.tup xs) → Rd H' a (.tup xs) := fun {a xs} h => by
    rcases h with h | ⟨o, h⟩
    · exact .inl (k.1 _ _ h (fun e => by rw [e, hv] at h; cases h))
    · exact .inr ⟨o, k.1 _ _ h (fun e => by rw [e, hv] at h; cases h)⟩
  have it : ∀ {v d c}, ItemV H m v d c → ItemV H' m v d c := fun h => by
    cases h with
    | int n h => exact .int n h
    | non => exact .non
    | bl x => exact .bl x
    | str x h1 h2 => exact .str x h1 h2
    | tup ns h hf few => exact .tup ns (rd h) hf few
  have its : ∀ {vs ds cs}, ItemsV H m vs ds cs → ItemsV H' m vs ds cs := fun h => by
    induction h with
    | nil => exact .nil
    | cons h _ ih => exact .cons (it h) ih
  cases h with
  | flat h n => exact .flat (it h) n
  | @lst a ns h hf few => exact .lst ns (k.1 _ _ h (fun e => n (by rw [e]))) hf few
  | @emp a h => exact .emp (k.1 _ _ h (fun e => n (by rw [e])))
  | tup h hi few => exact .tup (rd h) (its hi) few
section
variable {K : PySem.W.Frag} {σ : L2.St} {H : Hp} {ta tb tn : TE} {xs ys : List V}
theorem ev_catV (h1 : Ev ta σ H fun v H1 => TupV H1 v xs) (h2 : ∀ H1, Same H H1 → Ev tb σ H1 fun v H2 => TupV H2 v ys) (few : xs.length + ys.length ≤ 1000) : Ev (tOp (rCatA K) ta tb) σ H fun v H1 => TupV H1 v (xs ++ ys) := fun Q q =>
  h1 _ fun v H1 e1 k1 => h2 H1 e1 _ fun u H2 e2 k2 => by
    obtain ⟨p, ev, hp⟩ := k1.keep e2
    obtain ⟨p', eu, hp'⟩ := k2
    subst ev eu
    have e12 := e1.trans e2
    refine ⟨p, p', xs, ys, rfl, rfl, .inl hp, .inl hp', by rw [sizeLine_eq]; omega, fun z => ?_, fun _ z => ?_, fun _ _ pn hpn => ?_⟩
    · subst z
      exact q _ _ e12 ⟨p', rfl, hp'⟩
    · subst z
      rw [List.append_nil] at q
      exact q _ _ e12 ⟨p, rfl, hp⟩
    · exact q _ _ (e12.trans (same_new hpn)) ⟨pn, rfl, .inl upd_same⟩
theorem cutV_headV (l : List V) (k : Nat) : cutV l none (some (k : Int)) = l.take k := by
  unfold cutV
  rw [HT.sIx_none, HT.sIx_nat, List.drop_zero, Nat.sub_zero]
  by_cases h : k ≤ l.length
  · rw [Nat.min_eq_left h]
  · rw [Nat.min_eq_right (by omega), List.take_of_length_le (Nat.le_refl _), List.take_of_length_le (by omega)]
theorem cutV_tailV (l : List V) (k : Nat) : cutV l (some (k : Int)) none = l.drop k := by
  unfold cutV
  rw [HT.sIx_none, HT.sIx_nat]
  by_cases h : k ≤ l.length
  · rw [Nat.min_eq_left h, List.take_of_length_le (by rw [List.length_drop]; exact Nat.le_refl _)]
  · rw [Nat.min_eq_right (by omega), Nat.sub_self, List.take_zero, List.drop_of_length_le (by omega)]
theorem ev_headV {k : Nat} (h1 : Ev ta σ H fun v H1 => TupV H1 v xs) (h2 : ∀ H1, Same H H1 → Ev tn σ H1 fun v _ => v = .int (k : Int)) : Ev (tSl (rSlA K) ta tNoPart (tPart tn)) σ H fun v H1 => TupV H1 v (xs.take k) := fun Q q =>
  h1 _ fun v H1 e1 k1 => h2 H1 e1 _ fun u H2 e2 k2 => by
    obtain ⟨p, ev, hp⟩ := k1.keep e2
    subst ev k2
    have e12 := e1.trans e2
    refine ⟨(k : Int), rfl, p, xs, rfl, .inl hp, fun z => ?_, fun _ pn hpn => ?_⟩
    · have : xs.take k = xs := by
        refine List.take_of_length_le ?_
        have := z.2
        rw [HT.sIx_nat] at this
        omega
      exact q _ _ e12 (by rw [this]; exact ⟨p, rfl, hp⟩)
    · rw [cutV_headV]
      exact q _ _ (e12.trans (same_new hpn)) ⟨pn, rfl, .inl upd_same⟩
theorem ev_tailV {k : Nat} (h1 : Ev ta σ H fun v H1 => TupV H1 v xs) (h2 : ∀ H1, Same H H1 → Ev tn σ H1 fun v _ => v = .int (k : Int)) : Ev (tSl (rSlA K) ta (tPart tn) tNoPart) σ H fun v H1 => TupV H1 v (xs.drop k) := fun Q q =>
  h1 _ fun v H1 e1 k1 => h2 H1 e1 _ fun u H2 e2 k2 => by
    obtain ⟨p, ev, hp⟩ := k1.keep e2
    subst ev k2
    have e12 := e1.trans e2
    refine ⟨(k : Int), rfl, p, xs, rfl, .inl hp, fun z => ?_, fun _ pn hpn => ?_⟩
    · have : xs.drop k = xs := by
        have z1 := z.1
        rw [HT.sIx_nat] at z1
        by_cases h0 : k = 0
        · rw [h0, List.drop_zero]
        · have : xs.length = 0 := by omega
          rw [List.eq_nil_of_length_eq_zero this, List.drop_nil]
      exact q _ _ e12 (by rw [this]; exact ⟨p, rfl, hp⟩)
    · rw [cutV_tailV]
      exact q _ _ (e12.trans (same_new hpn)) ⟨pn, rfl, .inl upd_same⟩
theorem ev_oneV {te : TE} {x : V} (h : Ev te σ H fun v _ => v = x) : Ev (tTup (tCons te tNil)) σ H fun v H1 => TupV H1 v [x] := fun Q q =>
  h _ fun v H1 e1 hv => by
    subst hv
    exact ⟨by show 1 ≤ sizeLine; decide, fun r hr => q _ _ (e1.trans (same_new hr)) ⟨r, rfl, .inl upd_same⟩⟩
end
theorem slAK {X : Cx} {K : PySem.W.Frag} (hK : X.K = K := by rfl) : SlR X (rSlA K) := by subst hK; exact sl_tupA
end Tm

/-! _law_near_order. -/
namespace Tm
open PySem PySem.Spec PyProof.Rows L2 TmE TmQ
local macro_rules | `(tactic| walk_at "x") => `(tactic| dsimp only [tNext, tRet, tSeq, tCall, tCB, tC, tCons, tNil, tAsg, tDrop, sFld])
theorem small_dig : ∀ n : Nat, n < 7 → ((Str.ofString (toString (n : Int))).cps.all (· < 0x110000)) = true ∧ (Str.ofString (toString (n : Int))).length = 1 ∧ ((n : Int)).natAbs.log2 < 1920 := by decide +kernel
theorem strOk_app {x y : Str} (h : PyData.strOk x = true) (k : PyData.strOk y = true) : PyData.strOk (x ++ y) = true := by
  unfold PyData.strOk at *
  show (x.cps ++ y.cps).all _ = true
  rw [Array.all_append, h, k]
  rfl
theorem join_dig : ∀ {l : List Str}, (∀ x ∈ l, PyData.strOk x = true) → PyData.strOk (Str.join "" l) = true
  | [], _ => by decide +kernel
  | [x], h => h x List.mem_cons_self
  | x :: y :: r, h => strOk_app (strOk_app (h x List.mem_cons_self) (by decide +kernel)) (join_dig fun z hz => h z (List.mem_cons_of_mem _ hz))
def digs (ns : List Nat) : List Str := ns.map fun n : Nat => Str.ofString (toString (n : Int))
theorem dig_text {ns : List Nat} (lt : ∀ n ∈ ns, n < 7) (few : ns.length ≤ 6) : ((digs ns).map (·.length)).sum ≤ 6 ∧ (reprText (Txt.join "" (digs ns))).length ≤ 70 ∧ PyData.strOk (Txt.join "" (digs ns)) = true := by
  have s : ((digs ns).map (·.length)).sum = ns.length := by
    clear few
    induction ns with
    | nil => rfl
    | cons n ns ih =>
      have e := ih fun k hk => lt k (List.mem_cons_of_mem _ hk)
      unfold digs at e ⊢
      rw [List.map_cons, List.map_cons, List.sum_cons, e, (small_dig n (lt n List.mem_cons_self)).2.1, List.length_cons]
      omega
  rw [show Txt.join "" (digs ns) = Str.join "" (digs ns) from TL.join_eq _ _]
  have ok : PyData.strOk (Str.join "" (digs ns)) = true := join_dig fun x hx => by
    obtain ⟨n, hn, rfl⟩ := List.mem_map.mp hx
    exact (small_dig n (lt n hn)).1
  refine ⟨by omega, ?_, ok⟩
  have h1 := StrLaws.join_length_le "" (digs ns)
  have h2 := StrLaws.reprText_len (Str.join "" (digs ns)) fun c hc => by
    have := List.all_eq_true.mp (by unfold PyData.strOk at ok; rw [← Array.all_toList] at ok; exact ok) c hc
    have := of_decide_eq_true this
    omega
  have h0 : ("" : Str).length = 0 := by decide +kernel
  rw [h0] at h1
  omega
theorem nat_of : ∀ {xs : List V} {l : List Nat}, (∀ v ∈ xs, ∃ m ∈ l, v = V.int ((m : Nat) : Int)) → ∃ ns, xs = natV ns
  | [], _, _ => ⟨[], rfl⟩
  | v :: xs, l, h => by
    obtain ⟨m, _, rfl⟩ := h v List.mem_cons_self
    obtain ⟨ns, rfl⟩ := nat_of (xs := xs) fun u hu => h u (List.mem_cons_of_mem _ hu)
    exact ⟨m :: ns, rfl⟩
theorem perm_nat {l : List Nat} {ys : List V} (p : (natV l).Perm ys) : ∃ ns, ys = natV ns ∧ ns.Perm l := by
  obtain ⟨ns, rfl⟩ := nat_of (xs := ys) (l := l) fun v hv => by
    obtain ⟨m, hm, e⟩ := List.mem_map.mp (p.mem_iff.mpr hv)
    exact ⟨m, hm, e.symm⟩
  refine ⟨ns, rfl, ?_⟩
  have := p.map fun v : V => match v with | .int i => i.toNat | _ => 0
  unfold natV at this
  rw [List.map_map, List.map_map] at this
  have e : ∀ l : List Nat, l.map ((fun v : V => match v with | .int i => i.toNat | _ => 0) ∘ fun n : Nat => V.int (n : Int)) = l := fun l => by
    conv => rhs; rw [← List.map_id l]
    exact List.map_congr_left fun n _ => Int.toNat_natCast n
  rw [e, e] at this
  exact this.symm
theorem rgV_nat (a n : Nat) : rgV (a : Int) ((a + n : Nat) : Int) = natV ((List.range n).map fun i => a + i) := by
  unfold rgV natV
  rw [show (((a + n : Nat) : Int) - (a : Int)).toNat = n by omega, List.map_map]
  rfl
theorem rgV_nat0 (n : Nat) : rgV 0 (n : Int) = natV (List.range n) := by
  have := rgV_nat 0 n
  simp only [Nat.zero_add, List.map_id'] at this
  exact this
theorem fine_small : ∀ n : Nat, n < 7 → FineI (n : Int) := by
  unfold FineI
  decide +kernel
theorem fine_neg : FineI (-1) := by
  unfold FineI
  decide +kernel
theorem fine_big : FineI ((10 : Int) ^ (60 : Int).toNat) := by
  unfold FineI
  decide +kernel
theorem natV_int (ns : List Nat) : natV ns = (ns.map fun n : Nat => (n : Int)).map V.int := by
  unfold natV
  rw [List.map_map]
  rfl
theorem nat_items {H : Hp} {m : Nat} : ∀ {ns : List Nat}, (∀ n ∈ ns, n < 7) → ∃ ds cs, ItemsV H m (natV ns) ds cs
  | [], _ => ⟨_, _, .nil⟩
  | n :: ns, h => by
    obtain ⟨ds, cs, hi⟩ := nat_items (H := H) (m := m) fun k hk => h k (List.mem_cons_of_mem _ hk)
    exact ⟨_, _, .cons (.int _ (fine_small n (h n List.mem_cons_self))) hi⟩
theorem ItemV.kl {l : Addr} {H H' : Hp} {m : Nat} {v : V} {d : PyData} {c : Bool} (v0 : VatV H l) (k : KL l H H') (h : ItemV H m v d c) : ItemV H' m v d c := by
  obtain ⟨x, y, z, hv⟩ := v0
  cases h with
  | int n h => exact .int n h
  | non => exact .non
  | bl x => exact .bl x
  | str x h1 h2 => exact .str x h1 h2
  | tup ns h hf few =>
    refine .tup ns ?_ hf few
    rcases h with h | ⟨o, h⟩
    · exact .inl (k.1 _ _ h (fun e => by rw [e, hv] at h; cases h))
    · exact .inr ⟨o, k.1 _ _ h (fun e => by rw [e, hv] at h; cases h)⟩
theorem TupV.ne {l : Addr} {H : Hp} {v : V} {xs : List V} (v0 : VatV H l) (h : TupV H v xs) : v ≠ .ref l := by
  obtain ⟨x, y, z, hv⟩ := v0
  obtain ⟨r, rfl, h⟩ := h
  intro e
  cases e
  rcases h with h | ⟨o, h⟩
  · rw [hv] at h; cases h
  · rw [hv] at h; cases h
theorem TupV.near {H : Hp} {m : Nat} {v : V} {xs : List V} {ds : List PyData} {cs : List Bool} (h : TupV H v xs) (hi : ItemsV H m xs ds cs) (few : xs.length ≤ 20) : NearW H m v := by
  obtain ⟨r, rfl, h⟩ := h
  exact .tup h hi few
theorem TupV.kl {l : Addr} {H H' : Hp} {v : V} {xs : List V} (v0 : VatV H l) (k : KL l H H') (h : TupV H v xs) : TupV H' v xs := by
  obtain ⟨x, y, z, hv⟩ := v0
  obtain ⟨r, rfl, h⟩ := h
  refine ⟨r, rfl, ?_⟩
  rcases h with h | ⟨o, h⟩
  · exact .inl (k.1 _ _ h (fun e => by rw [e, hv] at h; cases h))
  · exact .inr ⟨o, k.1 _ _ h (fun e => by rw [e, hv] at h; cases h)⟩
theorem nat_itemsT {H : Hp} {m k : Nat} {ns : List Nat} (h : ∀ n ∈ ns, n < 7) : ∃ ds cs, ItemsV H m ((natV ns).take k) ds cs := by
  have e : (natV ns).take k = natV (ns.take k) := by unfold natV; rw [List.map_take]
  rw [e]
  exact nat_items fun n hn => h n (List.mem_of_mem_take hn)
theorem nat_itemsD {H : Hp} {m k : Nat} {ns : List Nat} (h : ∀ n ∈ ns, n < 7) : ∃ ds cs, ItemsV H m ((natV ns).drop k) ds cs := by
  have e : (natV ns).drop k = natV (ns.drop k) := by unfold natV; rw [List.map_drop]
  rw [e]
  exact nat_items fun n hn => h n (List.mem_of_mem_drop hn)
theorem fineI_ints {ns : List Nat} (h : ∀ n ∈ ns, n < 7) : ∀ i ∈ (ns.map fun n : Nat => (n : Int)), FineI i := fun i hi => by
  obtain ⟨n, hn, rfl⟩ := List.mem_map.mp hi
  exact fine_small n (h n hn)
theorem pow_go {σ : L2.St} {H : Hp} {Q : VK} (q : ∀ x, FineI x → Q (.int x) H) : tOp (rI CPow fun i j => V.int (i ^ j.toNat)) (tC (.int 10)) (tC (.int 60)) σ H Q := ⟨_, _, rfl, rfl, ⟨by decide, by decide, by decide⟩, q _ fine_big⟩
section
variable {P : Program} {w : World} {K : PySem.W.Frag} {mg : Str → Option Value} {base : Heap} {C CP : Addr}
abbrev s_lnear : Stmt := top 48
theorem sc_lnear : FnScope ["_law_purse", "_law_size", "_law_good", "_law_some", "_law_spot", "_law_odd", "_law_one"] ["_law_purse", "_law_size"] (defScope s_lnear) := ⟨rfl, rfl, rfl, by decide +kernel, rfl, by decide +kernel, by decide +kernel⟩
def sp_lnear : Sp := fun vs H Q _ => ∃ (l : Addr) (m : Nat), vs = [.ref l, .int (m : Int)] ∧ VatV H l ∧ 1 ≤ m ∧ m ≤ 6 ∧ ∀ v H', KL l H H' → v ≠ .ref l → NearW H' m v → Q v H'
theorem ok_lnear (B : Bt mg) (O_law_coin : Ok P w K mg base "_law_coin" 1 ["_law_purse", "_law_total"] sp_draw) (O_law_pick : Ok P w K mg base "_law_pick" 2 ["_law_purse", "_law_items"] sp_pick) (O_law_some_of : Ok P w K mg base "_law_some_of" 2 ["_law_purse", "_law_items", "_law_size"] sp_someof)
    (D : Df K mg "_law_near_order" s_lnear ["_law_purse", "_law_size"]) : Ok P w K mg base "_law_near_order" 3 ["_law_purse", "_law_size"] sp_lnear := by
  refine D.ok sc_lnear (fun vs H Q E h => ?_) (fun f cdv A outer s H vs Q E hr h => ?_)
  · obtain ⟨l, m, rfl, _⟩ := h
    rfl
  · obtain ⟨l, m, rfl, hv, m1, m6, q⟩ := h
    refine ⟨_, pss_cons (ps_set (i := 2) sc_lnear.nd rfl (.inl rfl) (pe_callTy (tupleK (K := K)) (by rfl) B.tuple (by decide +kernel) (pa_cons (O_law_some_of.call hr (ha := pa_cons (pv 0) (pa_cons (pe_listRg rfl (by rfl) B.list (prg_1 (by rfl) B.range (pv 1))) (pa_cons (pe_op op_add (pe_int) (O_law_coin.call hr (ha := pa_cons (pv 0) (pa_cons (pv 1) (pa_nil))))) (pa_nil))))) (pa_nil))))
      (pss_cons (ps_par (i := 4) (j := 5) (by rfl) sc_lnear.nd rfl rfl (by decide) rfl rfl (pa_cons (O_law_coin.call hr (ha := pa_cons (pv 0) (pa_cons (pe_callB (lenK (K := K)) (by rfl) B.len (by decide +kernel) (pa_cons (pv 2) (pa_nil))) (pa_nil)))) (pa_cons (O_law_pick.call hr (ha := pa_cons (pv 0) (pa_cons (pe_lst (pa_cons (pe_un un_neg (pe_int)) (pa_cons (pv 1) (pa_cons (pe_non) (pa_cons (pe_bl) (pa_cons (pe_str) (pa_cons (pe_tup (pa_cons (pe_int) (pa_nil))) (pa_cons (pe_op op_pow (pe_int) (pe_int)) (pa_cons (pe_ix (ixTK (K := K)) (pv 2) (pe_int) (fun _ _ => rfl)) (pa_nil)))))))))) (pa_nil)))) (pa_nil))) (by rfl))
      (pss_cons (ps_set (i := 3) sc_lnear.nd rfl (.inl rfl) (pe_lst (pa_cons (pv 2) (pa_cons (pv 2) (pa_cons (pe_callTy call_list_of (by rfl) B.list (by decide +kernel) (pa_cons (pv 2) (pa_nil))) (pa_cons (pe_tup (pa_nil)) (pa_cons (pe_non) (pa_cons (pe_int) (pa_cons (pe_op (op_catAK (K := K)) (pv 2) (pe_slice (slAK (K := K)) (pv 2) (po_none) (po_some (pe_int)))) (pa_cons (pe_op (op_catAK (K := K)) (pe_op (op_catAK (K := K)) (pe_slice (slAK (K := K)) (pv 2) (po_none) (po_some (pv 4))) (pe_tup (pa_cons (pv 5) (pa_nil)))) (pe_slice (slAK (K := K)) (pv 2) (po_some (pe_op op_add (pv 4) (pe_int))) (po_none))) (pa_cons (pe_dnewK) (pa_cons (pe_tup (pa_cons (pv 2) (pa_nil))) (pa_nil)))))))))))))
      (pss_one (ps_ret (O_law_pick.call hr (ha := pa_cons (pv 0) (pa_cons (pe_op op_cat (pv 3) (pe_lst (pa_cons (pe_op (op_catAK (K := K)) (pv 2) (pe_tup (pa_cons (pv 1) (pa_nil)))) (pa_cons (pe_join pe_str (pe_lc (own := [("_law_one", 6)]) (g := gName 6) (tt := tYes) rfl sc_lnear.nd (piT (K := K) (pv 2)) (blkOk_by (own := [("_law_one", 6)]) (N := ["_law_purse", "_law_size", "_law_good", "_law_some", "_law_spot", "_law_odd", "_law_one"]) (sc := defScope s_lnear) (by decide +kernel)) (fun _ _ _ _ _ => pg_name (i := 6) sc_lnear.nd rfl (.inl rfl)) (fun _ _ _ _ _ => pts_nil) (fun _ _ _ _ _ => pe_callTy call_str_int (by rfl) B.str (by decide +kernel) (pa_cons (pv 6) (pa_nil))))) (pa_nil))))) (pa_nil)))))))), ?_⟩
    have kv : ∀ {v : V} {H1 H2 : Hp}, Same H1 H2 → True := fun _ => trivial
    dsimp only [tSeq]
    refine ⟨_, rfl, _, rfl, (m : Int), rfl, RgOk.of_le (by omega) (by omega) (by omega) (by omega), fun q1 hq1 => ?_⟩
    have e1 := same_new (o := .lst (rgV 0 (m : Int))) hq1
    have a1 : upd H q1 (.lst (rgV 0 (m : Int))) q1 = some (.lst (natV (List.range m))) := by rw [upd_same, rgV_nat0]
    have hv1 := hv.keep e1
    have n1 : q1 ≠ l := vat_ne hv hq1
    have k1 : KL l H (upd H q1 (.lst (rgV 0 (m : Int)))) := KL.of hv e1
    generalize upd H q1 (.lst (rgV 0 (m : Int))) = H1 at e1 a1 hv1 k1
    refine ⟨_, rfl, _, rfl, l, (m : Int), rfl, hv1, by omega, by omega, fun c0 H2 c00 c01 k2 => ?_⟩
    obtain ⟨c, rfl⟩ := Int.eq_ofNat_of_zero_le c00
    refine ⟨_, _, rfl, rfl, ?_⟩
    have kk2 := k1.trans k2
    refine ⟨l, q1, c + 1, natV (List.range m), by show [V.ref l, V.ref q1, V.int (1 + (c : Int))] = _; rw [show (1 : Int) + (c : Int) = ((c + 1 : Nat) : Int) by omega], kk2.2, k2.1 _ _ a1 n1, n1, by omega, by rw [natV_len, List.length_range]; omega, fun p3 H3 ys zs hp3 n3 k3 a3 pm len => ?_⟩
    rw [natV_len, List.length_range, Nat.min_eq_left (by omega)] at len
    obtain ⟨ns, lt, rfl⟩ : ∃ ns : List Nat, (∀ n ∈ ns, n < m) ∧ ys = natV ns := by
      obtain ⟨ns, e, pn⟩ := perm_nat pm
      refine ⟨ns.take ys.length, fun n hn => List.mem_range.mp (pn.mem_iff.mp (List.mem_of_mem_take hn)), ?_⟩
      have h : (natV ns).take ys.length = ys := by rw [← e]; exact List.take_left' rfl
      unfold natV at h ⊢
      rw [List.map_take]
      exact h.symm
    rw [natV_len] at len
    have kk3 := kk2.trans k3
    have lt7 : ∀ n ∈ ns, n < 7 := fun n hn => Nat.lt_of_lt_of_le (lt n hn) (by omega)
    refine ⟨p3, natV ns, rfl, .inl ⟨SqL.of a3, fun p4 hp4 => ?_⟩⟩
    have e4 := same_new (o := .tup (natV ns)) hp4
    have g4 : TupV (upd H3 p4 (.tup (natV ns))) (.ref p4) (natV ns) := ⟨p4, rfl, .inl upd_same⟩
    have kk4 := kk3.trans (KL.of kk3.2 e4)
    generalize upd H3 p4 (.tup (natV ns)) = H4 at e4 g4 kk4
    dsimp only [gName]
    have hv4 := kk4.2
    have sq : ∀ {H' : Hp}, TupV H' (.ref p4) (natV ns) → SqT K H' p4 (natV ns) := fun h => by
      obtain ⟨r, e, h⟩ := h
      cases e
      exact .inl h
    have ix0 : ∃ n0 : Nat, (natV ns)[0]? = some (.int (n0 : Int)) ∧ n0 < 7 := by
      have h0 : 0 < ns.length := by omega
      refine ⟨ns[0], ?_, lt7 _ (List.getElem_mem h0)⟩
      unfold natV
      rw [List.getElem?_map, List.getElem?_eq_getElem h0]
      rfl
    obtain ⟨n0, hn0, n07⟩ := ix0
    have i0 : atI (natV ns) 0 = some (.int (n0 : Int)) := atI_nat (j := 0) hn0
    try dsimp only [tSeq, tPar, tCons, tNil]
    refine ⟨_, rfl, _, rfl, p4, _, rfl, .inr (sq g4), l, _, rfl, hv4, by rw [natV_len]; omega, by rw [natV_len]; omega, fun x1 H5 x1a x1b k5 => ?_⟩
    obtain ⟨sp, rfl⟩ := Int.eq_ofNat_of_zero_le x1a
    have g5 := g4.kl hv4 k5
    have kk5 := kk4.trans k5
    refine ⟨_, rfl, 1, rfl, _, rfl, by show 1 ≤ sizeLine; decide, fun p6 hp6 => ?_⟩
    have e6 := same_new (o := .tup [V.int 0]) hp6
    have t6 : TupV (upd H5 p6 (.tup [V.int 0])) (.ref p6) [V.int 0] := ⟨p6, rfl, .inl upd_same⟩
    have kk6 := kk5.trans (KL.of kk5.2 e6)
    have g6 := g5.keep e6
    generalize upd H5 p6 (.tup [V.int 0]) = H6 at e6 t6 kk6 g6
    refine pow_go fun big fb => ?_
    refine ⟨_, rfl, p4, _, _, _, rfl, rfl, sq g6, i0, by show 8 ≤ sizeLine; decide, fun p7 hp7 => ?_⟩
    have kk7 := kk6.trans (KL.of kk6.2 (same_new (o := .lst [.int (-1), .int (m : Int), .non, .bl true, .str "0", .ref p6, .int big, .int (n0 : Int)]) hp7))
    have n7 : p7 ≠ l := vat_ne kk6.2 hp7
    have e7 := same_new (o := .lst [.int (-1), .int (m : Int), .non, .bl true, .str "0", .ref p6, .int big, .int (n0 : Int)]) hp7
    have a7 : upd H6 p7 (.lst [.int (-1), .int (m : Int), .non, .bl true, .str "0", .ref p6, .int big, .int (n0 : Int)]) p7 = some (.lst [.int (-1), .int (m : Int), .non, .bl true, .str "0", .ref p6, .int big, .int (n0 : Int)]) := upd_same
    have odd7 : ∀ v ∈ [V.int (-1), .int (m : Int), .non, .bl true, .str "0", .ref p6, .int big, .int (n0 : Int)], ∃ d c, ItemV (upd H6 p7 (.lst [.int (-1), .int (m : Int), .non, .bl true, .str "0", .ref p6, .int big, .int (n0 : Int)])) m v d c := fun v hv => by
      have t7 := t6.keep e7
      generalize upd H6 p7 (.lst [.int (-1), .int (m : Int), .non, .bl true, .str "0", .ref p6, .int big, .int (n0 : Int)]) = H7 at t7
      simp only [List.mem_cons, List.not_mem_nil, or_false] at hv
      rcases hv with rfl | rfl | rfl | rfl | rfl | rfl | rfl | rfl
      · exact ⟨_, _, .int _ fine_neg⟩
      · exact ⟨_, _, .int _ (fine_small m (by omega))⟩
      · exact ⟨_, _, .non⟩
      · exact ⟨_, _, .bl true⟩
      · exact ⟨_, _, .str _ (by decide +kernel) (by decide +kernel)⟩
      · obtain ⟨r, e, t⟩ := t7
        cases e
        exact ⟨_, _, .tup [0] t (fun i hi => by rw [List.mem_singleton.mp hi]; exact fine_small 0 (by decide)) (by decide)⟩
      · exact ⟨_, _, .int _ fb⟩
      · exact ⟨_, _, .int _ (fine_small n0 n07)⟩
    have g7 := g6.keep e7
    refine ⟨l, p7, _, rfl, kk7.2, upd_same, n7, (show 0 < 8 by decide), (show 8 ≤ 1000 by decide), fun odd H8 hod k8 => ⟨_, _, rfl, ?_⟩⟩
    obtain ⟨od, oc, io⟩ := odd7 odd hod
    have io8 := io.kl kk7.2 k8
    have g8 := g7.kl kk7.2 k8
    have kk8 := kk7.trans k8
    clear odd7 hod io g7 a7 e7 n7 kk7 hp7
    dsimp only [tAsg]
    refine ⟨_, rfl, _, rfl, _, rfl, p4, _, rfl, .inr (sq g8), fun p9 hp9 => ?_⟩
    have e9 := same_new (o := .lst (natV ns)) hp9
    have a9 : upd H8 p9 (.lst (natV ns)) p9 = some (.lst (natV ns)) := upd_same
    have n9 : p9 ≠ l := vat_ne kk8.2 hp9
    generalize upd H8 p9 (.lst (natV ns)) = H9 at e9 a9
    refine ⟨by show 0 ≤ sizeLine; decide, fun p10 hp10 => ?_⟩
    have e10 := same_new (o := .tup []) hp10
    have t10 : TupV (upd H9 p10 (.tup [])) (.ref p10) [] := ⟨p10, rfl, .inl upd_same⟩
    generalize upd H9 p10 (.tup []) = H10 at e10 t10
    have g10 := (g8.keep e9).keep e10
    refine ev_catV (K := K) (xs := natV ns) (ys := (natV ns).take 1) (ev_is rfl g10) (fun H' e' => ev_headV (k := 1) (ev_is rfl (g10.keep e')) fun _ _ => ev_c rfl) (by rw [List.length_take, natV_len]; omega) _ fun v11 H11 e11 t11 => ?_
    have g11 := g10.keep e11
    refine ev_catV (K := K) (xs := (natV ns).take sp ++ [odd]) (ys := (natV ns).drop (sp + 1)) (ev_catV (ev_headV (k := sp) (ev_is rfl g11) fun _ _ => ev_is rfl rfl) (fun H' e' => ev_oneV (ev_is rfl rfl)) (by rw [List.length_take, natV_len]; show _ + 1 ≤ 1000; omega)) (fun H' e' => ev_tailV (k := sp + 1) (ev_is rfl (g11.keep e')) fun H3 e3 => fun Q q => ⟨_, rfl, _, _, rfl, rfl, q _ _ (Same.refl _) rfl⟩) (by rw [List.length_append, List.length_take, List.length_drop, natV_len]; show _ + 1 + _ ≤ 1000; omega) _ fun v12 H12 e12 t12 => ?_
    refine fun p13 hp13 => ?_
    have e13 := same_new (o := .dK []) hp13
    have a13 : upd H12 p13 (.dK []) p13 = some (.dK []) := upd_same
    generalize upd H12 p13 (.dK []) = H13 at e13 a13
    refine ⟨_, rfl, by show 1 ≤ sizeLine; decide, fun p14 hp14 => ?_⟩
    have e14 := same_new (o := .tup [.ref p4]) hp14
    have t14 : TupV (upd H13 p14 (.tup [.ref p4])) (.ref p14) [.ref p4] := ⟨p14, rfl, .inl upd_same⟩
    generalize upd H13 p14 (.tup [.ref p4]) = H14 at e14 t14
    refine ⟨by show 10 ≤ sizeLine; decide, fun p15 hp15 => ?_⟩
    have e15 := same_new (o := .lst [.ref p4, .ref p4, .ref p9, .ref p10, .non, .int 0, v11, v12, .ref p13, .ref p14]) hp15
    have a15 : upd H14 p15 (.lst [.ref p4, .ref p4, .ref p9, .ref p10, .non, .int 0, v11, v12, .ref p13, .ref p14]) p15 = some (.lst [.ref p4, .ref p4, .ref p9, .ref p10, .non, .int 0, v11, v12, .ref p13, .ref p14]) := upd_same
    generalize upd H14 p15 (.lst [.ref p4, .ref p4, .ref p9, .ref p10, .non, .int 0, v11, v12, .ref p13, .ref p14]) = H15 at e15 a15
    dsimp only [gName]
    have e1115 := e12.trans (e13.trans (e14.trans e15))
    have e815 : Same H8 H15 := e9.trans (e10.trans (e11.trans e1115))
    have g15 := g8.keep e815
    have kk15 := kk8.trans (KL.of kk8.2 e815)
    refine ⟨_, rfl, _, rfl, ?_⟩
    refine ev_catV (K := K) (xs := natV ns) (ys := [.int (m : Int)]) (ev_is rfl g15) (fun H' e' => ev_oneV (ev_is rfl rfl)) (by rw [natV_len]; show _ + 1 ≤ 1000; omega) _ fun v17 H17 e17 t17 => ?_
    have g17 := g15.keep e17
    refine ⟨⟨_, rfl⟩, ?_⟩
    refine lc_runT (K := K) (xs := natV ns) (fun Q q => ⟨_, rfl, q _ _ (Same.refl _) ⟨p4, rfl, sq g17⟩⟩) ns (natV_len ns) (fun _ => true) (fun k v _ => v = .str (Str.ofString (toString (k : Int)))) (by omega) (fun _ => rfl) (fun _ _ _ _ _ h => h)
      (fun n k x H1 hk hx e => ⟨evt_yes, fun _ H3 e3 => ?_⟩) (fun p18 H18 ys hp18 e18 hl18 hP => ?_)
    · have hkx : x = .int (k : Int) := by
        unfold natV at hx
        rw [List.getElem?_map, hk] at hx
        exact (Option.some.inj hx).symm
      subst hkx
      exact fun Q q => ⟨_, rfl, _, rfl, (small_dig k (lt7 k (List.mem_of_getElem? hk))).2.2, q _ _ (Same.refl _) rfl⟩
    · rw [filter_all] at hP
      have ey : ys = (digs ns).map V.str := by
        rw [paired_fun hP]
        unfold digs
        rw [List.map_map]
        rfl
      obtain ⟨jt1, jt2, jt3⟩ := dig_text lt7 (by omega)
      rw [ey] at hl18
      refine ⟨"", p18, digs ns, rfl, rfl, .inl (SqL.of hl18), ?_, ?_⟩
      · rw [show ("" : Str).length = 0 by decide +kernel]
        omega
      refine ⟨by show 2 ≤ sizeLine; decide, fun p19 hp19 => ?_⟩
      generalize Txt.join "" (digs ns) = jt at jt2 jt3 hp19
      have e19 := same_new (o := .lst [v17, .str jt]) hp19
      have a19 : upd H18 p19 (.lst [v17, .str jt]) p19 = some (.lst [v17, .str jt]) := upd_same
      generalize upd H18 p19 (.lst [v17, .str jt]) = H19 at e19 a19
      have e1519 := e17.trans (e18.trans e19)
      refine ⟨p15, p19, _, _, rfl, rfl, e1519 _ _ a15, a19, by show 12 ≤ sizeLine; decide, fun p20 hp20 => ?_⟩
      have e20 := same_new (o := .lst ([.ref p4, .ref p4, .ref p9, .ref p10, .non, .int 0, v11, v12, .ref p13, .ref p14] ++ [v17, .str jt])) hp20
      have a20 : upd H19 p20 (.lst ([.ref p4, .ref p4, .ref p9, .ref p10, .non, .int 0, v11, v12, .ref p13, .ref p14] ++ [v17, .str jt])) p20 = some (.lst ([.ref p4, .ref p4, .ref p9, .ref p10, .non, .int 0, v11, v12, .ref p13, .ref p14] ++ [v17, .str jt])) := upd_same
      have kk19 := kk15.trans (KL.of kk15.2 e1519)
      have n20 : p20 ≠ l := vat_ne kk19.2 hp20
      have kk20 := kk19.trans (KL.of kk19.2 e20)
      generalize upd H19 p20 _ = H20 at e20 a20 kk20
      have e1520 := e1519.trans e20
      have e1420 := e15.trans e1520
      have e1220 := e13.trans (e14.trans e1420)
      have e1120 := e12.trans e1220
      have e920 := e10.trans (e11.trans e1120)
      have e820 := e9.trans e920
      refine ⟨l, p20, _, rfl, kk20.2, a20, n20, (show 0 < 12 by decide), (show 12 ≤ 1000 by decide), fun v H21 hv21 k21 => ?_⟩
      have nr : v ≠ .ref l ∧ NearW H20 m v := by
        have g20 := g8.keep e820
        obtain ⟨ds, cs, hi⟩ := nat_items (H := H20) (m := m) lt7
        obtain ⟨ds1, cs1, hi1⟩ := nat_itemsT (H := H20) (m := m) (k := 1) lt7
        obtain ⟨ds2, cs2, hi2⟩ := nat_itemsT (H := H20) (m := m) (k := sp) lt7
        obtain ⟨ds3, cs3, hi3⟩ := nat_itemsD (H := H20) (m := m) (k := sp + 1) lt7
        have gn : NearW H20 m (.ref p4) := g20.near hi (by rw [natV_len]; omega)
        have vt := kk20.2
        have nrd : ∀ {u : V}, (∀ r, u ≠ .ref r) → u ≠ .ref l := fun h => h l
        rcases List.mem_append.mp hv21 with hv21 | hv21
        · simp only [List.mem_cons, List.not_mem_nil, or_false] at hv21
          rcases hv21 with rfl | rfl | rfl | rfl | rfl | rfl | rfl | rfl | rfl | rfl
          · exact ⟨g20.ne vt, gn⟩
          · exact ⟨g20.ne vt, gn⟩
          · refine ⟨fun e => n9 (by cases e; rfl), .lst (ns.map fun n : Nat => (n : Int)) ?_ (fineI_ints lt7) (by rw [List.length_map]; omega)⟩
            rw [← natV_int]
            exact e920 _ _ a9
          · have t := (t10.keep (e11.trans e1120))
            exact ⟨t.ne vt, t.near .nil (by decide)⟩
          · exact ⟨(fun e => nomatch e), .flat .non fun _ e => nomatch e⟩
          · exact ⟨(fun e => nomatch e), .flat (.int 0 (fine_small 0 (by decide))) fun _ e => nomatch e⟩
          · have t := t11.keep e1120
            exact ⟨t.ne vt, t.near (hi.append hi1) (by rw [List.length_append, List.length_take, natV_len]; omega)⟩
          · have t := t12.keep e1220
            exact ⟨t.ne vt, t.near ((hi2.append (.cons (io8.keep e820) .nil)).append hi3) (by rw [List.length_append, List.length_append, List.length_take, List.length_drop, natV_len]; show _ + 1 + _ ≤ 20; omega)⟩
          · have a := (e14.trans e1420) _ _ a13
            refine ⟨fun e => ?_, .emp a⟩
            obtain ⟨_, _, _, z⟩ := vt
            cases e
            rw [z] at a
            cases a
          · have t := t14.keep e1420
            obtain ⟨r, er, hr4⟩ := g20
            cases er
            rw [natV_int] at hr4
            exact ⟨t.ne vt, t.near (.cons (.tup _ hr4 (fineI_ints lt7) (by rw [List.length_map]; omega)) .nil) (by show 1 ≤ 20; decide)⟩
        · simp only [List.mem_cons, List.not_mem_nil, or_false] at hv21
          rcases hv21 with rfl | rfl
          · have t := t17.keep (e18.trans (e19.trans e20))
            exact ⟨t.ne vt, t.near (hi.append (.cons (.int _ (fine_small m (by omega))) .nil)) (by rw [List.length_append, natV_len]; show _ + 1 ≤ 20; omega)⟩
          · exact ⟨(fun e => nomatch e), .flat (.str jt jt2 jt3) fun _ e => nomatch e⟩
      exact q v H21 (kk20.trans k21) nr.1 (nr.2.kl kk20.2 k21 nr.1)
end
end Tm

/-! Plan.team_of of a thread; what _law_is_told compares. -/
namespace Tm
open PySem PySem.Spec PyProof.Rows L2 TmE TmQ
def Pl.side (p : Pl) (i : Nat) : Nat := if i < p.f.length then 0 else 1
/-- [team_of(one) for one in range(size)] is [0] * first + [1] * (size - first) -/
theorem sides_are (p : Pl) : (List.range p.th.length).map (fun i => V.int (p.side i : Int)) = List.replicate p.f.length (V.int 0) ++ List.replicate p.g.length (V.int 1) := by
  have hl : p.th.length = p.f.length + p.g.length := List.length_append
  refine List.ext_getElem (by simp [hl]) fun i h1 h2 => ?_
  rw [List.getElem_map, List.getElem_range]
  unfold Pl.side
  by_cases c : i < p.f.length
  · rw [if_pos c, List.getElem_append_left (by rw [List.length_replicate]; exact c), List.getElem_replicate]
    rfl
  · rw [if_neg c, List.getElem_append_right (by rw [List.length_replicate]; omega), List.getElem_replicate]
    rfl
theorem app_assoc (x y z : Str) : x ++ y ++ z = x ++ (y ++ z) := by
  show Str.mk (x.cps ++ y.cps ++ z.cps) = Str.mk (x.cps ++ (y.cps ++ z.cps))
  rw [Array.append_assoc]
theorem emp_app (x : Str) : Str.empty ++ x = x := by
  show Str.mk (#[] ++ x.cps) = x
  rw [Array.empty_append]
/-- the text that the law puts together is the plan's own -/
theorem text_is (p : Pl) : (((("plan for " : Str) ++ (toString (p.th.length : Int) : Str)) ++ (" threads: " : Str)) ++ Txt.join " " p.f) ++ (" | " : Str) ++ Txt.join " " p.g = strP p := by
  unfold strP
  rw [emp_app]
section
variable {P : Program} {w : World} {K : PySem.W.Frag} {mg : Str → Option Value} {base : Heap} {C CP : Addr}
abbrev s_teamof : Stmt := inClass (top 27) 5
theorem sc_team_of : FnScope ["self", "thread"] ["self", "thread"] (defScope s_teamof) := ⟨rfl, rfl, rfl, by decide +kernel, rfl, by decide +kernel, by decide +kernel⟩
def sp_teamof (C CP : Addr) : Sp := fun vs H Q _ => ∃ (v : V) (p : Pl) (i : Nat), vs = [v, .int (i : Int)] ∧ PlanV C CP H v p ∧ i < p.th.length ∧ Q (.int (p.side i : Int)) H
theorem ok_teamof (B : Bt mg) (TP : Kp K CP) (O_need_number : Ok P w K mg base "need_number" 2 ["value", "least", "most"] sp_need) (D : DfM K CP "team_of" "Plan.team_of" s_teamof ["self", "thread"]) : OkM P w K mg base CP "team_of" 3 ["self", "thread"] (sp_teamof C CP) := by
  refine D.ok sc_team_of (fun vs H Q E h => ?_) (fun f cdv A outer s H vs Q E hr h => ?_)
  · obtain ⟨v, p, i, rfl, _⟩ := h
    rfl
  · obtain ⟨v, p, i, rfl, hp, hi, q⟩ := h
    refine ⟨_, pss_cons (ps_expr (O_need_number.call hr (ha := pa_cons (pv 1) (pa_cons (pe_int) (pa_cons (pe_op op_sub (pe_callB (lenK (K := K)) (by rfl) B.len (by decide +kernel) (pa_cons (pe_fld (pv 0) rfl) (pa_nil))) (pe_int)) (pa_nil))))))
      (pss_one (ps_ret (pe_ifExp (pt_cmpR op_lt (pv 1) (pe_callB (lenK (K := K)) (by rfl) B.len (by decide +kernel) (pa_cons (pe_ix (ixTK (K := K)) (pe_fld (pv 0) rfl) (pe_int) (fun _ _ => rfl)) (pa_nil))) (nomark _)) (pe_int) (pe_int)))), ?_⟩
    obtain ⟨a, dx, k, tm, p1, p2, th, rfl, ha, hk, htm, h1, h2, hth, ok⟩ := id hp
    have lt : (strV p.th).length = p.th.length := List.length_map _
    refine ⟨_, rfl, _, rfl, a, CP, dx, _, _, rfl, ha, TP.cl, TP.nH, pf_H _ _ _ _, th, _, rfl, .inr (SqT.of hth), _, _, rfl, rfl, (i : Int), 0, _, rfl, by omega, by rw [lt]; omega, ?_⟩
    obtain ⟨pa, rfl, hpa⟩ := id h1
    refine ⟨_, rfl, _, rfl, a, CP, dx, _, _, rfl, ha, TP.cl, TP.nM, pf_M _ _ _ _, tm, _, _, _, rfl, rfl, SqT.of htm, atI_nat (j := 0) rfl, pa, _, rfl, .inr (.inl hpa), _, _, rfl, rfl, _, rfl, ?_⟩
    have lf : (strV p.f).length = p.f.length := List.length_map _
    rw [lf]
    unfold Pl.side at q
    by_cases c : i < p.f.length
    · rw [if_pos c] at q
      exact ifT (decide_eq_true (by omega)) q
    · rw [if_neg c] at q
      exact ifF (decide_eq_false (by omega)) q
end
end Tm

set_option maxHeartbeats 2000000
/-! defs where nothing is being told (from wip/WA). -/
namespace Tm
open PySem PySem.Spec PyProof.Rows L2 TmE TmQ
local macro_rules | `(tactic| walk_at "x") => `(tactic| dsimp only [tNext, tRet, tSeq, tSeqR, tRetR, tCall, tCB, tC, tCons, tNil, tAsg, tDrop, sFld])
def tCallG (sp : Sp) (E : XK) (t : TA) : TE := fun σ H Q => t σ H fun vs H1 => sp vs H1 Q E
structure OkG (P : Program) (w : World) (K : PySem.W.Frag) (mg : Str → Option Value) (base : Heap) (x : Str) (k : Nat) (sp : Sp) : Prop where
  ex : ∃ f : Addr, mg x = some (.ref f) ∧ PySem.W.keepIn K (.ref f) = true ∧ ∀ (A : Around) (outer : List Env) (s : Shared) (H : Hp) (us : List Value) (vs : List V) (Q : VK), Room k A → A.guards = some [] → Env0 P w K mg base A outer s H → Vals vs us → sp vs H Q E0 →
    codeAny (model P w) A (.call (.ref f) ⟨us, []⟩) (CR CX0 outer P w H s Q E0) s
section
variable {X : Cx} {x : Str} {k j : Nat} {sp : Sp} {e : Expr} {es : List Expr} {t : TA} {p pos : Pos}
theorem OkG.call (O : OkG X.prog X.w X.K X.mg X.base x k sp) (gu : X.A.guards = some []) (hr : Room j X.A) (hk : k ≤ j) (ha : PA X (e :: es) t) (hg : Gl X x := by rfl) (hdb : (x == ("__debug__" : Str)) = false := by decide)
    (he : starEach (e :: es) X.env = (false, eval e X.env) :: starEach es X.env := by rfl) (hpl : (backTo pos (starEach es X.env)).any (·.1) = false := by rfl) :
    PE X (.Call (.Name x p) (e :: es) [] pos) (tCallG sp E0 t) := by
  refine ⟨fun pins s σ H Q I h => ?_⟩
  obtain ⟨f, hm, hk', run⟩ := O.ex
  refine wpAny_Call_Name_kw (ld_glob I hg hm ?_ hdb)
  refine PySem.W.callWith_K (h₀ := X.base) I.ok.mod.kin hk' (thn (ha.run pos pins s σ H _ I h) fun us s1 ⟨vs, H1, I1, r, q⟩ => ⟨I1.kIn, ?_⟩) he hpl
  refine wpAny_call (codeAny_mono (run X.A X.stack s1 H1 us vs Q (hr.mono hk) gu I1.env0 r q) fun r s' hq => ?_)
  cases r with
  | error e => exact False.elim hq
  | ok fl =>
    cases fl with
    | ret u => exact I1.after hq
    | next => exact False.elim hq
    | brk => exact False.elim hq
    | cont => exact False.elim hq
end
/-- a def by its body, where nothing is being told -/
theorem fnG_of {CX : CXT} {P : Program} {w : World} {K : PySem.W.Frag} {mg : Str → Option Value} {base : Heap} {k : Nat} {f : Addr} {name qual : Str} {params : Arguments} {body : List Stmt} {scope : Scope} {dV kV doc pm cdv ct oc : Value} {an od : Option Addr}
    {osl : Array (Option Value)} {N ps : List Str} {sp : Sp} (lk : K.lookup f = some ⟨oc, od, .func (PySem.W.fnOf name qual params body scope dV kV doc pm an cdv ct), osl⟩) (hcd : PySem.W.codeIn K cdv qual = true) (S : FnScope N ps scope)
    (len : ∀ vs H Q E, sp vs H Q E → vs.length = ps.length)
    (hbody : ∀ (A : Around) (outer : List Env) (s : Shared) (H : Hp) (vs : List V) (Q : VK) (E : XK), Room k (A.deeper (envOfC qual scope s.heap.objs.size f cdv)) → A.guards = some [] → sp vs H Q E →
      ∃ t, PSs (cxOf CX P w K mg base N qual scope f cdv A outer s H E) body t ∧ t { nx := fun _ H' => Q .non H', rt := Q } (L2.start N vs) H) :
    ∀ (A : Around) (outer : List Env) (s : Shared) (H : Hp) (args : Args) (us : List Value) (vs : List V) (Q : VK) (E : XK), Room (k + 1) A → A.guards = some [] → Env0 P w K mg base A outer s H → BindsTo s (PySem.W.fnOf name qual params body scope dV kV doc pm an cdv ct) args (ps.zip us) → Vals vs us → sp vs H Q E →
      codeAny (model P w) A (.call (.ref f) args) (CR CX outer P w H s Q E) s := by
  intro A outer s H args us vs Q E hr gu e0 hb r hsp
  have hl := len _ _ _ _ hsp
  have KX : K.In s.heap := e0.mod.kin.keeps fun b o e => (e0.bs b o e).1
  have lim : s.heap.NoLimit := e0.mod.nolimit.keeps fun b o e => (e0.bs b o e).1
  have hkind : ∀ y ∈ ps.zip us, scope.names.lookup y.1 = some .local ∨ (scope.names.lookup y.1 = some .cell ∧ ((cellsFrom (s.heap.objs.size + 1) scope.names []).lookup y.1).isSome = true) := fun ⟨n, v⟩ hy => by
    rcases S.par n (List.of_mem_zip hy).1 with q | q
    · exact .inl q
    · exact .inr ⟨q, PySem.W.cellsFrom_some _ _ _ (.inl q)⟩
  refine codeAny_call_function hr.depth (KX _ _ lk) rfl S.co S.gen rfl (PySem.W.codeRec_of KX hcd) (hb _ _ _ _ ?_)
  refine wpAny_newFunctionEnv_cells S.kind hkind fun env he s1 xx => ?_
  subst he
  refine ⟨lim.keeps xx.toInCall.keep, codeAny_func ?_⟩
  obtain ⟨t, ht, hq⟩ := hbody A outer s H vs Q E (hr.deeper _) gu hsp
  have I : Inv (cxOf CX P w K mg base N qual scope f cdv A outer s H E) [] (L2.start N vs) H s1 := inv_start S hr.hd e0 hl r xx
  refine wpAny_mono (ht.run [] s1 (L2.start N vs) H _ I hq) (fun fl s' hs => ?_) fun e s' hs => hs
  have fin : ∀ {σ' : L2.St} {H' : Hp} {v : V} {u : Value}, Inv (cxOf CX P w K mg base N qual scope f cdv A outer s H E) [] σ' H' s' → L2.RelV v u → Q v H' → CE outer P w H s Q u s' :=
    fun {σ' H' v u} J rv q => ⟨v, H', J.os, J.bare, J.base, J.hok, rv, q⟩
  cases fl with
  | ret u =>
    obtain ⟨v, σ', H', J, rv, q⟩ := hs
    exact fin J rv q
  | next =>
    obtain ⟨σ', H', J, q⟩ := hs
    exact fin (v := V.non) (u := Value.none) J rfl q
  | brk =>
    obtain ⟨_, _, _, q⟩ := hs
    exact False.elim q
  | cont =>
    obtain ⟨_, _, _, q⟩ := hs
    exact False.elim q
end Tm

set_option maxHeartbeats 4000000
/-! a def by its body, where nothing is being told. -/
namespace Tm
open PySem PySem.Spec PyProof.Rows L2 TmE TmQ
theorem Df.okG {P : Program} {w : World} {K : PySem.W.Frag} {mg : Str → Option Value} {base : Heap} {x : Str} {sx : Stmt} {N ps : List Str} {sp : Sp} {k : Nat} (D : Df K mg x sx ps) (S : FnScope N ps (defScope sx)) (len : ∀ vs H Q E, sp vs H Q E → vs.length = ps.length)
    (hbody : ∀ (f : Addr) (cdv : Value) (A : Around) (outer : List Env) (s : Shared) (H : Hp) (vs : List V) (Q : VK) (E : XK), Room k (A.deeper (envOfC x (defScope sx) s.heap.objs.size f cdv)) → A.guards = some [] → sp vs H Q E →
      ∃ t, PSs (cxOf CX0 P w K mg base N x (defScope sx) f cdv A outer s H E) (defBody sx) t ∧ t { nx := fun _ H' => Q .non H', rt := Q } (L2.start N vs) H) : OkG P w K mg base x (k + 1) sp := by
  obtain ⟨f, fd, h1, h2, F, h5⟩ := D.ex
  obtain ⟨oc, od, kV, doc, pm, an, cdv, ct, osl, rfl, h3, h4⟩ := F.ex
  refine ⟨f, h1, h2, fun A outer s H us vs Q hr gu e0 r h => ?_⟩
  have hl : us.length = ps.length := by rw [← len _ _ _ _ h]; exact r.length.symm
  have KX : K.In s.heap := e0.mod.kin.keeps fun b o e => (e0.bs b o e).1
  have bt := h5 s us KX (by rw [List.append_nil]; exact hl)
  rw [List.append_nil] at bt
  exact fnG_of (CX := CX0) (k := k) h3 h4 S (sp := sp) len (fun A outer s H vs Q E hr gu h => hbody f cdv A outer s H vs Q E hr gu h) A outer s H ⟨us, []⟩ us vs Q E0 hr gu e0 bt r h
theorem Df.okGn {P : Program} {w : World} {K : PySem.W.Frag} {mg : Str → Option Value} {base : Heap} {x : Str} {sx : Stmt} {N ps : List Str} {sp : Sp} {k : Nat} (D : Df K mg x sx ps) (S : FnScope N ps (defScope sx)) (len : ∀ vs H Q E, sp vs H Q E → vs.length = ps.length)
    (hbody : ∀ (f : Addr) (cdv : Value) (A : Around) (outer : List Env) (s : Shared) (H : Hp) (vs : List V) (Q : VK) (E : XK), Room k (A.deeper (envOfC x (defScope sx) s.heap.objs.size f cdv)) → A.guards = some [] → sp vs H Q E →
      ∃ t, PSs (cxOf CX0 P w K mg base N x (defScope sx) f cdv A outer s H E).nox (defBody sx) t ∧ t { nx := fun _ H' => Q .non H', rt := Q } (L2.start N vs) H) : OkG P w K mg base x (k + 1) sp := by
  exact D.okG S len fun f cdv A outer s H vs Q E hr gu h => by
    obtain ⟨t, ht, q⟩ := hbody f cdv A outer s H vs Q E hr gu h
    exact ⟨t, ht.nox, q⟩
end Tm

/-! _law_is_told. -/
namespace Tm
open PySem PySem.Spec PyProof.Rows L2 TmE TmQ
local macro_rules | `(tactic| walk_at "x") => `(tactic| dsimp only [tNext, tRet, tSeq, tCall, tCB, tC, tCons, tNil, tAsg, tDrop, sFld])
theorem sameT_perm {t t' s s' : Tab} (p : t.Perm t') (q : s.Perm s') : sameT t s = sameT t' s' := by
  unfold sameT
  rw [p.length_eq, q.length_eq]
  congr 1
  rw [Bool.eq_iff_iff, List.all_eq_true, List.all_eq_true]
  constructor
  · intro h x hx
    have := h x (p.mem_iff.mpr hx)
    rw [decide_eq_true_eq] at this ⊢
    exact q.mem_iff.mp this
  · intro h x hx
    have := h x (p.mem_iff.mp hx)
    rw [decide_eq_true_eq] at this ⊢
    exact q.mem_iff.mpr this
theorem eqv_perm {t t1 : Tab} {s : Nat} {f g : List Str} (pm : t.Perm t1) : (⟨t, s, f, g⟩ : Pl).eqv ⟨t1, s, f, g⟩ = true := by
  unfold Pl.eqv
  dsimp only
  rw [← sameT_perm (.refl t) pm, same_self, decide_eq_true rfl, decide_eq_true ⟨rfl, rfl⟩]
  rfl
theorem fine12 : ∀ n : Nat, n < 13 → FineI (n : Int) := by
  unfold FineI
  decide +kernel
theorem name_text {x : Str} (h : x.length ≤ 8) (so : PyData.strOk x = true) : (PyData.str x).shown.length ≤ 100 := by
  have := StrLaws.reprText_len x fun c hc => by
    have := List.all_eq_true.mp (by unfold PyData.strOk at so; rw [← Array.all_toList] at so; exact so) c hc
    have := of_decide_eq_true this
    omega
  show (reprText x).length ≤ 100
  omega
theorem fineT_team {l : List Str} (h : ∀ x ∈ l, x.length ≤ 8) (so : l.all PyData.strOk = true) (few : l.length ≤ 6) : FineD (teamD l) := by
  have hm : ∀ d ∈ l.map PyData.str, FineD d ∧ d.shown.length ≤ 100 ∧ d.depth = 0 := fun d hd => by
    obtain ⟨x, hx, rfl⟩ := List.mem_map.mp hd
    have sx := List.all_eq_true.mp so x hx
    have := name_text (h x hx) sx
    exact ⟨⟨rfl, rfl, by show 0 ≤ 1; decide, sx, by omega⟩, this, rfl⟩
  obtain ⟨d1, d2, d3, d4⟩ := all_dep fun d hd => (hm d hd).1
  refine ⟨d4, d3, ?_, d2, ?_⟩
  · rw [depth_team]
    exact Nat.le_refl _
  · have := tupD_few (m := 100) (ds := l.map PyData.str) fun d hd => (hm d hd).2.1
    rw [List.length_map] at this
    show (PyData.tuple (l.map .str)).shown.length ≤ 1000
    omega
structure FineP (d : PyData) : Prop where
  nd : d.hasDict = false
  sh : d.showable = true
  dp : d.depth ≤ 30
  ln : d.shown.length ≤ 100000
theorem FineD.up {d : PyData} (h : FineD d) : FineP d := ⟨h.nd, h.sh, by have := h.dp; omega, by have := h.ln; omega⟩
theorem fineP_told {s : Nat} {f g : List Str} (hs : s < 13) (h1 : FineD (teamD f)) (h2 : FineD (teamD g)) : FineP (.list [.int (s : Int), .tuple [teamD f, teamD g]]) := by
  have hi := fine12 s hs
  have i1 : PyData.showable (.int (s : Int)) = true := decide_eq_true hi.2
  have l2 := tupD_few (m := 1000) (ds := [teamD f, teamD g]) fun d hd => by
    simp only [List.mem_cons, List.not_mem_nil, or_false] at hd
    rcases hd with rfl | rfl
    · exact h1.ln
    · exact h2.ln
  have l3 : (PyData.tuple [teamD f, teamD g]).shown.length ≤ 5000 := Nat.le_trans l2 (by show 2 * (1000 + 2) + 3 ≤ 5000; decide)
  refine ⟨?_, ?_, ?_, ?_⟩
  · show PyData.hasDictAll [.int (s : Int), .tuple [teamD f, teamD g]] = false
    simp only [PyData.hasDictAll, PyData.hasDict, h1.nd, h2.nd, Bool.or_false]
  · show PyData.showableAll [.int (s : Int), .tuple [teamD f, teamD g]] = true
    rw [PyData.showableAll, i1]
    simp only [PyData.showableAll, PyData.showable, h1.sh, h2.sh, Bool.and_true]
  · show max 0 (max (max (PyData.depth (teamD f)) (max (PyData.depth (teamD g)) 0) + 1) 0) + 1 ≤ 30
    rw [depth_team, depth_team]
    decide
  · have := lstD_few (m := 5000) (ds := [.int (s : Int), .tuple [teamD f, teamD g]]) fun d hd => by
      simp only [List.mem_cons, List.not_mem_nil, or_false] at hd
      rcases hd with rfl | rfl
      · exact Nat.le_trans hi.1 (by decide)
      · exact l3
    exact Nat.le_trans this (by show 2 * (5000 + 2) + 2 ≤ 100000; decide)
theorem rep_flat (n : Nat) (x : V) : (List.replicate n [x]).flatten = List.replicate n x := by
  induction n with
  | zero => rfl
  | succ n ih => rw [List.replicate_succ, List.flatten_cons, ih, List.replicate_succ]; rfl
/-! ### glue: one statement, one call -/
def DpS (K : PySem.W.Frag) (H : Hp) (v : V) (d : PyData) : Prop := ∀ H', Same H H' → Dp K H' v d
theorem DpS.keep {K : PySem.W.Frag} {H H' : Hp} {v : V} {d : PyData} (h : DpS K H v d) (e : Same H H') : DpS K H' v d := fun H2 e2 => h H2 (e.trans e2)
theorem DpS.dp {K : PySem.W.Frag} {H : Hp} {v : V} {d : PyData} (h : DpS K H v d) : Dp K H v d := h H (Same.refl _)
theorem TeamV.dps {K : PySem.W.Frag} {H : Hp} {v : V} {l : List Str} (h : TeamV H v l) : DpS K H v (teamD l) := fun _ e => (h.keep e).dp
theorem dps_int {K : PySem.W.Frag} {H : Hp} (i : Int) : DpS K H (.int i) (.int i) := fun _ _ => .int i
theorem PartsV.keep {H H' : Hp} {v : V} {p : Pl} (h : PartsV H v p) (e : Same H H') : PartsV H' v p := by
  obtain ⟨a, d, x, y, e1, e2, e3, e4, e5, e6⟩ := h
  exact ⟨a, d, x, y, e1, e _ _ e2, e3.keep e, e4.keep e, e5.keep e, e6⟩
section
variable {σ : L2.St} {H : Hp} {ta tb te : TE} {c1 c2 : TT} {t u : TS} {P P2 : V → Hp → Prop} {r : List V → Hp → VK → Prop} {Q : VK}
theorem par_go {D : Ends} {i j : Nat} (h : Ev ta σ H P) (h2 : ∀ v H1, Same H H1 → P v H1 → Ev tb σ H1 P2) (k : ∀ v w H1 H2, Same H H1 → Same H1 H2 → P v H1 → P2 w H2 → D.nx ((σ.set i (some v)).set j (some w)) H2) : tPar i j (tCons ta (tCons tb tNil)) D σ H :=
  h _ fun v H1 e1 p1 => h2 v H1 e1 p1 _ fun w H2 e2 p2 => ⟨v, w, rfl, k v w H1 H2 e1 e2 p1 p2⟩
theorem asg_go {D : Ends} {i : Nat} (h : Ev ta σ H P) (k : ∀ v H1, Same H H1 → P v H1 → D.nx (σ.set i (some v)) H1) : tAsg ta (gName i) D σ H := h _ fun v H1 e1 p1 => k v H1 e1 p1
theorem ret_go {D : Ends} (h : Ev ta σ H P) (k : ∀ v H1, Same H H1 → P v H1 → D.rt v H1) : tRet ta D σ H := h _ k
theorem evt_test {b : Bool} (h : Ev te σ H fun v _ => v = .bl b) : EvT (tTest te) σ H b := fun Q q => h _ fun v H1 e1 hv => ⟨b, hv, q H1 e1⟩
theorem evt_or {b : Bool} (h1 : EvT c1 σ H false) (h2 : ∀ H1, Same H H1 → EvT c2 σ H1 b) : EvT (tOr c1 c2) σ H b := fun Q q => h1 _ fun H1 e1 => by
  rw [if_neg (by decide)]
  exact h2 H1 e1 _ fun H2 e2 => q H2 (e1.trans e2)
theorem evt_orT (h1 : EvT c1 σ H true) : EvT (tOr c1 c2) σ H true := fun Q q => h1 _ fun H1 e1 => by
  rw [if_pos rfl]
  exact q H1 e1
theorem evt_not {b : Bool} (h1 : EvT c1 σ H b) : EvT (tNot c1) σ H (!b) := fun Q q => h1 _ fun H1 e1 => q H1 e1
theorem evt_val {b : Bool} (h : Ev te σ H fun v _ => v = .bl b) : EvT (tB te) σ H b := fun Q q => h _ fun v H1 e1 hv => ⟨b, hv, q H1 e1⟩
theorem if_goF {D : Ends} (h : EvT c1 σ H false) (k : ∀ H1, Same H H1 → u D σ H1) : tIfS c1 t u D σ H := h _ fun H1 e1 => by
  rw [if_neg (by decide)]
  exact k H1 e1
theorem if_goT {D : Ends} (h : EvT c1 σ H true) (k : ∀ H1, Same H H1 → t D σ H1) : tIfS c1 t u D σ H := h _ fun H1 e1 => by
  rw [if_pos rfl]
  exact k H1 e1
theorem ev_andV {a b : Bool} (h1 : Ev ta σ H fun v _ => v = .bl a) (h2 : a = true → ∀ H1, Same H H1 → Ev tb σ H1 fun v _ => v = .bl b) : Ev (tAndV ta tb) σ H fun v _ => v = .bl (a && b) := fun Q q => h1 _ fun v H1 e1 hv => ⟨a, hv, by
  cases a with
  | true =>
    rw [if_pos rfl]
    exact h2 rfl H1 e1 _ fun w H2 e2 hw => q w H2 (e1.trans e2) hw
  | false =>
    rw [if_neg (by decide)]
    exact q _ _ e1 rfl⟩
theorem ev_notV {a : Bool} (h1 : Ev ta σ H fun v _ => v = .bl a) : Ev (tNotV ta) σ H fun v _ => v = .bl (!a) := fun Q q => h1 _ fun v H1 e1 hv => ⟨a, hv, q _ _ e1 rfl⟩
/-- a list of one, of two things -/
theorem ev_lst1 {P : V → Hp → Prop} (h : Ev ta σ H P) (hP : ∀ v H1 H2, P v H1 → Same H1 H2 → P v H2) : Ev (tLst (tCons ta tNil)) σ H fun v H1 => ∃ a x, v = .ref a ∧ H1 a = some (.lst [x]) ∧ P x H1 := fun Q q =>
  h _ fun x H1 e1 p1 => ⟨by show 1 ≤ sizeLine; decide, fun r hr => q _ _ (e1.trans (same_new hr)) ⟨r, x, rfl, upd_same, hP _ _ _ p1 (same_new hr)⟩⟩
theorem ev_lst2 {P P2 : V → Hp → Prop} (h : Ev ta σ H P) (h2 : ∀ H1, Same H H1 → Ev tb σ H1 P2) (hP : ∀ v H1 H2, P v H1 → Same H1 H2 → P v H2) (hP2 : ∀ v H1 H2, P2 v H1 → Same H1 H2 → P2 v H2) : Ev (tLst (tCons ta (tCons tb tNil))) σ H fun v H1 => ∃ a x y, v = .ref a ∧ H1 a = some (.lst [x, y]) ∧ P x H1 ∧ P2 y H1 := fun Q q =>
  h _ fun x H1 e1 p1 => h2 H1 e1 _ fun y H2 e2 p2 => ⟨by show 2 ≤ sizeLine; decide, fun r hr => q _ _ (e1.trans (e2.trans (same_new hr))) ⟨r, x, y, rfl, upd_same, hP _ _ _ p1 (e2.trans (same_new hr)), hP2 _ _ _ p2 (same_new hr)⟩⟩
theorem ev_tup2 {P P2 : V → Hp → Prop} (h : Ev ta σ H P) (h2 : ∀ H1, Same H H1 → Ev tb σ H1 P2) (hP : ∀ v H1 H2, P v H1 → Same H1 H2 → P v H2) (hP2 : ∀ v H1 H2, P2 v H1 → Same H1 H2 → P2 v H2) : Ev (tTup (tCons ta (tCons tb tNil))) σ H fun v H1 => ∃ a x y, v = .ref a ∧ H1 a = some (.tup [x, y]) ∧ P x H1 ∧ P2 y H1 := fun Q q =>
  h _ fun x H1 e1 p1 => h2 H1 e1 _ fun y H2 e2 p2 => ⟨by show 2 ≤ sizeLine; decide, fun r hr => q _ _ (e1.trans (e2.trans (same_new hr))) ⟨r, x, y, rfl, upd_same, hP _ _ _ p1 (e2.trans (same_new hr)), hP2 _ _ _ p2 (same_new hr)⟩⟩
theorem ev_addS {x y : Str} (h : Ev ta σ H fun v _ => v = .str x) (h2 : ∀ H1, Same H H1 → Ev tb σ H1 fun v _ => v = .str y) (few : x.length + y.length ≤ 100000) : Ev (tOp (fun x y H Q => ∃ i j, x = .str i ∧ y = .str j ∧ i.length + j.length ≤ sizeLine ∧ Q (.str (i ++ j)) H) ta tb) σ H fun v _ => v = .str (x ++ y) := fun Q q =>
  h _ fun v H1 e1 hv => h2 H1 e1 _ fun u H2 e2 hu => ⟨x, y, hv, hu, sz_le few, q _ _ (e1.trans e2) rfl⟩
theorem ev_strI {i : Int} (h : Ev te σ H fun v _ => v = .int i) (hi : i.natAbs.log2 < 1920) : Ev (tCB (fun xs H Q => ∃ i, xs = [.int i] ∧ i.natAbs.log2 < 1920 ∧ Q (.str (toString i)) H) (tCons te tNil)) σ H fun v _ => v = .str (toString i) := fun Q q =>
  h _ fun v H1 e1 hv => ⟨i, by rw [hv], hi, q _ _ e1 rfl⟩
theorem ev_sub {i j : Int} (h : Ev ta σ H fun v _ => v = .int i) (h2 : ∀ H1, Same H H1 → Ev tb σ H1 fun v _ => v = .int j) : Ev (tOp (rI0 fun i j => .int (i - j)) ta tb) σ H fun v _ => v = .int (i - j) := fun Q q =>
  h _ fun v H1 e1 hv => h2 H1 e1 _ fun u H2 e2 hu => ⟨i, j, hv, hu, q _ _ (e1.trans e2) rfl⟩
/-- [x] * k -/
theorem ev_rep1 {x : V} {k : Nat} (h : Ev ta σ H fun v H1 => ∃ a, v = .ref a ∧ H1 a = some (.lst [x])) (h2 : ∀ H1, Same H H1 → Ev tb σ H1 fun v _ => v = .int (k : Int)) (few : k ≤ 100000) : Ev (tOp rRep ta tb) σ H fun v H1 => ∃ a, v = .ref a ∧ H1 a = some (.lst (List.replicate k x)) := fun Q q =>
  h _ fun v H1 e1 hv => h2 H1 e1 _ fun u H2 e2 hu => by
    obtain ⟨a, ev, ha⟩ := hv
    refine ⟨a, (k : Int), [x], ev, hu, e2 _ _ ha, by omega, by omega, by rw [Int.toNat_natCast]; exact sz_le (by show 1 * k ≤ _; omega), fun p hp => q _ _ (e1.trans (e2.trans (same_new hp))) ⟨p, rfl, ?_⟩⟩
    rw [upd_same, Int.toNat_natCast, rep_flat]
theorem ev_catL {xs ys : List V} (h : Ev ta σ H fun v H1 => ∃ a, v = .ref a ∧ H1 a = some (.lst xs)) (h2 : ∀ H1, Same H H1 → Ev tb σ H1 fun v H2 => ∃ a, v = .ref a ∧ H2 a = some (.lst ys)) (few : xs.length + ys.length ≤ 100000) : Ev (tOp rCat ta tb) σ H fun v H1 => ∃ a, v = .ref a ∧ H1 a = some (.lst (xs ++ ys)) := fun Q q =>
  h _ fun v H1 e1 hv => h2 H1 e1 _ fun u H2 e2 hu => by
    obtain ⟨a, ev, ha⟩ := hv
    obtain ⟨b, eu, hb⟩ := hu
    exact ⟨a, b, xs, ys, ev, eu, e2 _ _ ha, hb, sz_le few, fun p hp => q _ _ (e1.trans (e2.trans (same_new hp))) ⟨p, rfl, upd_same⟩⟩
theorem ev_lit {x : V} (h : Ev ta σ H fun v _ => v = x) : Ev (tLst (tCons ta tNil)) σ H fun v H1 => ∃ a, v = .ref a ∧ H1 a = some (.lst [x]) := fun Q q =>
  h _ fun v H1 e1 p1 => ⟨by show 1 ≤ sizeLine; decide, fun r hr => q _ _ (e1.trans (same_new hr)) ⟨r, rfl, by rw [upd_same, p1]⟩⟩
end
section
variable {K : PySem.W.Frag} {σ : L2.St} {H : Hp} {te ta tb : TE}
theorem ev_lenT {l : List Str} (h : Ev te σ H fun v H1 => TeamV H1 v l) : Ev (tCB (fun xs H Q => ∃ p ys, xs = [.ref p] ∧ (SqL K H p ys ∨ SqT K H p ys) ∧ Q (.int ys.length) H) (tCons te tNil)) σ H fun v _ => v = .int (l.length : Int) := fun Q q =>
  h _ fun v H1 e1 hv => by
    obtain ⟨r, rfl, hr⟩ := hv
    refine ⟨r, _, rfl, .inr (.inl hr), q _ _ e1 ?_⟩
    rw [show (strV l).length = l.length from List.length_map _]
theorem ev_joinT {z : Str} {l : List Str} {r : V → List V → Hp → VK → Prop} (hr : r = fun x xs H Q => ∃ a p, ∃ ys : List Str, x = .str a ∧ xs = [.ref p] ∧ (SqL K H p (ys.map V.str) ∨ SqT K H p (ys.map V.str)) ∧ (ys.map (·.length)).sum + ys.length * a.length ≤ 16777216 ∧ Q (.str (Txt.join a ys)) H)
    (h : Ev ta σ H fun v _ => v = .str z) (h2 : ∀ H1, Same H H1 → Ev tb σ H1 fun v H2 => TeamV H2 v l) (few : (l.map (·.length)).sum + l.length * z.length ≤ 16777216) : Ev (tM1 r ta tb) σ H fun v _ => v = .str (Txt.join z l) := fun Q q => by
  subst hr
  exact h _ fun v H1 e1 hv => ⟨⟨z, hv⟩, h2 H1 e1 _ fun u H2 e2 hu => by
    obtain ⟨p, rfl, hp⟩ := hu
    exact ⟨z, p, l, hv, rfl, .inr (.inl hp), few, q _ _ (e1.trans e2) rfl⟩⟩
theorem ev_neSame {d : PyData} {n : Nat} (nc : Nice n d) (n64 : n ≤ 64) (h : Ev ta σ H fun v H1 => DpS K H1 v d) (h2 : ∀ H1, Same H H1 → Ev tb σ H1 fun v H2 => DpS K H2 v d) : Ev (tOp (rNeD K) ta tb) σ H fun v _ => v = .bl false := fun Q q =>
  h _ fun v H1 e1 hv => h2 H1 e1 _ fun u H2 e2 hu => ⟨d, d, hv H2 e2, hu.dp, nc.shaped n64, nc.shaped n64, by rw [nc.eqv]; exact q _ _ (e1.trans e2) rfl⟩
theorem ev_dT2 {d1 d2 : PyData} (h : Ev ta σ H fun v H1 => DpS K H1 v d1) (h2 : ∀ H1, Same H H1 → Ev tb σ H1 fun v H2 => DpS K H2 v d2) : Ev (tTup (tCons ta (tCons tb tNil))) σ H fun v H1 => DpS K H1 v (.tuple [d1, d2]) :=
  (ev_tup2 h h2 (fun _ _ _ p e => p.keep e) (fun _ _ _ p e => p.keep e)).imp fun v H1 e ⟨a, x, y, ev, ha, hx, hy⟩ => by
    subst ev
    exact fun H2 e2 => .tup (SqT.of (e2 _ _ ha)) (.cons (hx H2 e2) (.cons (hy H2 e2) .nil))
theorem ev_dL2 {d1 d2 : PyData} (h : Ev ta σ H fun v H1 => DpS K H1 v d1) (h2 : ∀ H1, Same H H1 → Ev tb σ H1 fun v H2 => DpS K H2 v d2) : Ev (tLst (tCons ta (tCons tb tNil))) σ H fun v H1 => DpS K H1 v (.list [d1, d2]) :=
  (ev_lst2 h h2 (fun _ _ _ p e => p.keep e) (fun _ _ _ p e => p.keep e)).imp fun v H1 e ⟨a, x, y, ev, ha, hx, hy⟩ => by
    subst ev
    exact fun H2 e2 => .lst (SqL.of (e2 _ _ ha)) (.cons (hx H2 e2) (.cons (hy H2 e2) .nil))
end
section
variable {K : PySem.W.Frag} {C CP : Addr} {σ : L2.St} {H : Hp} {te ta tb : TE} {E : XK} {p : Pl}
theorem ev_ixA {i j : Nat} {a : Addr} {xs : List V} {x : V} (hi : σ[i]? = some (some (.ref a))) (h : H a = some (.lst xs)) (hx : xs[j]? = some x) : Ev (tOp (rIxL K) (tVar i) (tC (.int (j : Int)))) σ H fun v _ => v = x := fun Q q =>
  ⟨_, hi, a, xs, _, _, rfl, rfl, SqL.of h, atI_nat hx, q _ _ (Same.refl _) rfl⟩
/-- parts[2] + parts[3] -/
theorem ev_thP {i : Nat} {a d : Addr} {s : Int} {x y : V} {f g : List Str} (hi : σ[i]? = some (some (.ref a))) (h : H a = some (.lst [.ref d, .int s, x, y])) (hx : TeamV H x f) (hy : TeamV H y g) (few : f.length + g.length ≤ 6) : Ev (tOp (rCatA K) (tOp (rIxL K) (tVar i) (tC (.int 2))) (tOp (rIxL K) (tVar i) (tC (.int 3)))) σ H fun v H1 => TeamV H1 v (f ++ g) := by
  refine (ev_catV (K := K) (xs := strV f) (ys := strV g) ((ev_ixA (j := 2) hi h rfl).imp fun v H1 e r => by subst r; exact hx.keep e) (fun H1 e => (ev_ixA (j := 3) hi (e _ _ h) rfl).imp fun v H2 e2 r => by subst r; exact hy.keep (e.trans e2)) (by unfold strV; rw [List.length_map, List.length_map]; omega)).imp fun v H1 e r => ?_
  unfold strV at r
  rw [← List.map_append] at r
  exact r
theorem ev_pthr (h : Ev te σ H fun v H1 => PlanV C CP H1 v p) : Ev (tProp CP (sp_pthreads C CP) [] E0 te) σ H fun v H1 => TeamV H1 v p.th := fun Q q =>
  h _ fun v H1 e1 hv => by
    obtain ⟨a, dx, _, _, _, _, _, rfl, ha, _⟩ := id hv
    exact ⟨a, dx, _, rfl, ha, .ref a, p, rfl, hv, fun th hth => q _ _ e1 ⟨th, rfl, .inl hth⟩⟩
theorem ev_pteams (h : Ev te σ H fun v H1 => PlanV C CP H1 v p) : Ev (tProp CP (sp_pteams C CP) [] E0 te) σ H fun v H1 => ∃ tm p1 p2, v = .ref tm ∧ H1 tm = some (.tup [p1, p2]) ∧ TeamV H1 p1 p.f ∧ TeamV H1 p2 p.g := fun Q q =>
  h _ fun v H1 e1 hv => by
    obtain ⟨a, dx, _, _, _, _, _, rfl, ha, _⟩ := id hv
    exact ⟨a, dx, _, rfl, ha, .ref a, p, rfl, hv, fun tm p1 p2 a1 a2 a3 => q _ _ e1 ⟨tm, p1, p2, rfl, a1, a2, a3⟩⟩
theorem ev_pstart (h : Ev te σ H fun v H1 => PlanV C CP H1 v p) : Ev (tProp CP (sp_pstart C CP) [] E0 te) σ H fun v _ => v = .int (p.s : Int) := fun Q q =>
  h _ fun v H1 e1 hv => by
    obtain ⟨a, dx, _, _, _, _, _, rfl, ha, _⟩ := id hv
    exact ⟨a, dx, _, rfl, ha, .ref a, p, rfl, hv, q _ _ e1 rfl⟩
theorem ev_pkind (h : Ev te σ H fun v H1 => PlanV C CP H1 v p) : Ev (tProp CP (sp_pkind C CP) [] E0 te) σ H fun v H1 => KindV C H1 v p.t := fun Q q =>
  h _ fun v H1 e1 hv => by
    obtain ⟨a, dx, _, _, _, _, _, rfl, ha, _⟩ := id hv
    exact ⟨a, dx, _, rfl, ha, .ref a, p, rfl, hv, fun k hk => q _ _ e1 hk⟩
/-- kind != the same kind made anew -/
theorem ev_kneP {t u : Tab} (pm : t.Perm u) (h1 : Ev ta σ H fun v H1 => KindV C H1 v t) (h2 : ∀ H1, Same H H1 → Ev tb σ H1 fun v H2 => ∃ t', KindV C H2 v t' ∧ t'.Perm u) : Ev (tOp (rEqO C (sp_keq C) true) ta tb) σ H fun v _ => v = .bl false := fun Q q =>
  h1 _ fun v H1 e1 hv => h2 H1 e1 _ fun u H2 e2 hu => by
    obtain ⟨t', hu, pm2⟩ := hu
    have hv2 := hv.keep e2
    obtain ⟨a, dx, _, _, rfl, ha, _⟩ := id hv2
    obtain ⟨b, dy, _, _, rfl, hb, _⟩ := id hu
    refine ⟨a, b, dx, dy, _, _, rfl, rfl, ha, hb, .ref a, .ref b, _, _, rfl, hv2, hu, _, rfl, q _ _ (e1.trans e2) ?_⟩
    rw [← sameT_perm (.refl t) (pm.trans pm2.symm), same_self]
    rfl
/-- plan == a plan of the same parts -/
theorem ev_peqP {neg : Bool} {t1 : Tab} (pm : t1.Perm p.t) (h1 : Ev ta σ H fun v H1 => PlanV C CP H1 v ⟨t1, p.s, p.f, p.g⟩) (h2 : ∀ H1, Same H H1 → Ev tb σ H1 fun v H2 => ∃ t', t'.Perm p.t ∧ PlanV C CP H2 v ⟨t', p.s, p.f, p.g⟩) : Ev (tOp (rEqO CP (sp_peqX K C CP) neg) ta tb) σ H fun v _ => v = .bl (if neg then false else true) := fun Q q =>
  h1 _ fun v H1 e1 hv => h2 H1 e1 _ fun u H2 e2 hu => by
    obtain ⟨t', pm2, hu⟩ := hu
    have hv2 := hv.keep e2
    obtain ⟨a, dx, _, _, _, _, _, rfl, ha, _⟩ := id hv2
    obtain ⟨b, dy, _, _, _, _, _, rfl, hb, _⟩ := id hu
    refine ⟨a, b, dx, dy, _, _, rfl, rfl, ha, hb, .ref a, .ref b, _, rfl, hv2, .inl ⟨_, hu, _, rfl, q _ _ (e1.trans e2) ?_⟩⟩
    rw [eqv_perm (pm.trans pm2.symm)]
    rfl
theorem ev_planof (h : Ev te σ H fun v H1 => PartsV H1 v p) : Ev (tCall (sp_planof C CP) [] E0 (tCons te tNil)) σ H fun v H1 => ∃ t', t'.Perm p.t ∧ PlanV C CP H1 v ⟨t', p.s, p.f, p.g⟩ := fun Q q =>
  h _ fun v H1 e1 hv => by
    obtain ⟨a, d, x, y, rfl, ha, hd, hx, hy, ok⟩ := hv
    exact ⟨a, d, x, y, p, rfl, ha, hd, hx, hy, ok, fun z t1 H2 e2 pm hz => q _ _ (e1.trans e2) ⟨t1, pm, hz⟩⟩
theorem ev_plen (h : Ev te σ H fun v H1 => PlanV C CP H1 v p) : Ev (tCB (rLenO CP (sp_plen C CP)) (tCons te tNil)) σ H fun v _ => v = .int (p.th.length : Int) := fun Q q =>
  h _ fun v H1 e1 hv => by
    obtain ⟨a, dx, _, _, _, _, _, rfl, ha, _, _, _, _, _, ok⟩ := id hv
    have few : p.f.length + p.g.length ≤ 6 := ok.few
    exact ⟨a, dx, _, rfl, ha, .ref a, p, rfl, hv, p.th.length, rfl, by rw [show p.th.length = p.f.length + p.g.length from List.length_append]; omega, q _ _ e1 rfl⟩
theorem ev_pstr (h : Ev te σ H fun v H1 => PlanV C CP H1 v p) : Ev (tCB (rStrO CP (sp_pstr C CP)) (tCons te tNil)) σ H fun v _ => v = .str (strP p) := fun Q q =>
  h _ fun v H1 e1 hv => by
    obtain ⟨a, dx, _, _, _, _, _, rfl, ha, _⟩ := id hv
    exact ⟨a, dx, _, rfl, ha, .ref a, p, rfl, hv, _, rfl, q _ _ e1 rfl⟩
theorem ev_teamof {i : Nat} (hi : i < p.th.length) (h : Ev te σ H fun v H1 => PlanV C CP H1 v p) (h2 : ∀ H1, Same H H1 → Ev ta σ H1 fun v _ => v = .int (i : Int)) : Ev (tMeth CP "team_of" (sp_teamof C CP) [] E0 te (tCons ta tNil)) σ H fun v _ => v = .int (p.side i : Int) := fun Q q =>
  h _ fun v H1 e1 hv => by
    obtain ⟨a, dx, _, _, _, _, _, rfl, ha, _⟩ := id hv
    refine ⟨a, dx, _, rfl, ha, pf_no _ _ _ _, h2 H1 e1 _ fun u H2 e2 hu => ?_⟩
    subst hu
    exact ⟨.ref a, p, i, rfl, hv.keep e2, hi, q _ _ (e1.trans e2) rfl⟩
/-- repr of what is shown -/
theorem ev_repr {d : PyData} (f : FineP d) (h : Ev te σ H fun v H1 => DpS K H1 v d) : Ev (tCB (fun xs H Q => ∃ v d, xs = [v] ∧ RepV K H v d ∧ d.shown.length ≤ sizeLine ∧ Q (.str d.shown) H) (tCons te tNil)) σ H fun v _ => v = .str d.shown := fun Q q =>
  h _ fun v H1 e1 hv => ⟨v, d, rfl, .dat (hv.dp) f.nd f.sh f.dp, sz_le f.ln, q _ _ e1 rfl⟩
/-- a flat value != itself, == itself -/
theorem ev_neS {z : V} (sz : scal z z = true) (h1 : Ev ta σ H fun v _ => v = z) (h2 : ∀ H1, Same H H1 → Ev tb σ H1 fun v _ => v = z) : Ev (tOp rNe ta tb) σ H fun v _ => v = .bl false := fun Q q =>
  h1 _ fun v H1 e1 hv => h2 H1 e1 _ fun u H2 e2 hu => by
    subst hv hu
    refine ⟨sz, ?_⟩
    rw [decide_eq_true rfl]
    exact q _ _ (e1.trans e2) rfl
theorem ev_eqS {z : V} (sz : scal z z = true) (h1 : Ev ta σ H fun v _ => v = z) (h2 : ∀ H1, Same H H1 → Ev tb σ H1 fun v _ => v = z) : Ev (tOp rEq ta tb) σ H fun v _ => v = .bl true := fun Q q =>
  h1 _ fun v H1 e1 hv => h2 H1 e1 _ fun u H2 e2 hu => by
    subst hv hu
    refine ⟨sz, ?_⟩
    rw [decide_eq_true rfl]
    exact q _ _ (e1.trans e2) rfl
end
theorem side_ints (p : Pl) (l : List Nat) : l.map (fun i => V.int (p.side i : Int)) = (l.map fun i => (p.side i : Int)).map V.int := by
  rw [List.map_map]
  rfl
section
variable {P : Program} {w : World} {K : PySem.W.Frag} {mg : Str → Option Value} {base : Heap} {C CP : Addr}
abbrev s_told : Stmt := top 47
abbrev NT : List Str := ["_law_told", "_law_parts", "_law_text", "_law_size", "_law_first", "_law_one"]
theorem sc_told : FnScope NT ["_law_told", "_law_parts"] (defScope s_told) := ⟨rfl, rfl, rfl, by decide +kernel, rfl, by decide +kernel, by decide +kernel⟩
def sp_told (C CP : Addr) : Sp := fun vs H Q _ => ∃ (v u : V) (p : Pl) (t1 : Tab), vs = [v, u] ∧ t1.Perm p.t ∧ PlanV C CP H v ⟨t1, p.s, p.f, p.g⟩ ∧ PartsV H u p ∧ ∀ H', Same H H' → Q (.bl true) H'
theorem ok_told (B : Bt mg) (T : Kc K C) (TP : Kp K CP) (EK : EqM K C) (EQ : EqM K CP) (hrepr : mg "repr" = none) (OS_keq : OkS P w K mg base C "__eq__" 1 ["self", "other"] (sp_keq C)) (OS_peq : OkS P w K mg base CP "__eq__" 2 ["self", "other"] (sp_peqX K C CP))
    (OS_plen : OkS P w K mg base CP "__len__" 1 ["self"] (sp_plen C CP)) (OS_pstr : OkS P w K mg base CP "__str__" 1 ["self"] (sp_pstr C CP)) (OP_kind : OkP P w K mg base CP "kind" 1 (sp_pkind C CP)) (OP_start : OkP P w K mg base CP "start" 1 (sp_pstart C CP)) (OP_teams : OkP P w K mg base CP "teams" 1 (sp_pteams C CP)) (OP_threads : OkP P w K mg base CP "threads" 1 (sp_pthreads C CP))
    (OC_Kind : OkC P w K mg base "Kind" C 5 ["self", "operations"] (sp_init C)) (OM_team_of : OkM P w K mg base CP "team_of" 3 ["self", "thread"] (sp_teamof C CP)) (O_law_plan_of : Ok P w K mg base "_law_plan_of" 7 ["_law_parts"] (sp_planof C CP))
    (D : Df K mg "_law_is_told" s_told ["_law_told", "_law_parts"]) : OkG P w K mg base "_law_is_told" 9 (sp_told C CP) := by
  refine D.okG sc_told (fun vs H Q E h => ?_) (fun f cdv A outer s H vs Q E hr gu h => ?_)
  · obtain ⟨v, u, p, t1, rfl, _⟩ := h
    rfl
  · obtain ⟨v, u, p, t1, rfl, pm, hp, hu2, q⟩ := h
    have hu64 : (A.deeper (envOfC "_law_is_told" (defScope s_told) s.heap.objs.size f cdv)).units + 64 < cLine := by
      have := hr.un
      omega
    have hu100 : (A.deeper (envOfC "_law_is_told" (defScope s_told) s.heap.objs.size f cdv)).units + 100 < cLine := by
      have := hr.un
      omega
    refine ⟨_, pss_cons (ps_par (i := 3) (j := 4) (by rfl) sc_told.nd rfl rfl (by decide) rfl rfl (pa_cons (pe_callB (lenK (K := K)) (by rfl) B.len (by decide +kernel) (pa_cons (pe_op (op_catAK (K := K)) (pe_ix (ixLK (K := K)) (pv 1) (pe_int) (fun _ _ => rfl)) (pe_ix (ixLK (K := K)) (pv 1) (pe_int) (fun _ _ => rfl))) (pa_nil))) (pa_cons (pe_callB (lenK (K := K)) (by rfl) B.len (by decide +kernel) (pa_cons (pe_ix (ixLK (K := K)) (pv 1) (pe_int) (fun _ _ => rfl)) (pa_nil))) (pa_nil))) (by rfl))
      (pss_cons (ps_if (PW.pt (pw_or (pt_cmpR (op_neO OS_keq EK (hr.mono (by decide))) (OP_kind.get hr TP.cl (he := pv 0)) (OC_Kind.make hr (ha := pa_cons (pe_ix (ixLK (K := K)) (pv 1) (pe_int) (fun _ _ => rfl)) (pa_nil))) (nomark _)) (pw_or1 (pt_cmpR op_ne (pe_callB (call_reprQ (K := K) (by exact gu) hu100) (by rfl) hrepr (by decide +kernel) (pa_cons (pe_lst (pa_cons (OP_start.get hr TP.cl (he := pv 0)) (pa_cons (OP_teams.get hr TP.cl (he := pv 0)) (pa_nil)))) (pa_nil))) (pe_callB (call_reprQ (K := K) (by exact gu) hu100) (by rfl) hrepr (by decide +kernel) (pa_cons (pe_lst (pa_cons (pe_ix (ixLK (K := K)) (pv 1) (pe_int) (fun _ _ => rfl)) (pa_cons (pe_tup (pa_cons (pe_ix (ixLK (K := K)) (pv 1) (pe_int) (fun _ _ => rfl)) (pa_cons (pe_ix (ixLK (K := K)) (pv 1) (pe_int) (fun _ _ => rfl)) (pa_nil)))) (pa_nil)))) (pa_nil))) (nomark _)))))
        (pss_one (ps_ret (pe_bl)))
        (pss_nil))
      (pss_cons (ps_if (PW.pt (pw_or (pt_cmpR op_ne (pe_callB (call_reprQ (K := K) (by exact gu) hu100) (by rfl) hrepr (by decide +kernel) (pa_cons (OP_threads.get hr TP.cl (he := pv 0)) (pa_nil))) (pe_callB (call_reprQ (K := K) (by exact gu) hu100) (by rfl) hrepr (by decide +kernel) (pa_cons (pe_op (op_catAK (K := K)) (pe_ix (ixLK (K := K)) (pv 1) (pe_int) (fun _ _ => rfl)) (pe_ix (ixLK (K := K)) (pv 1) (pe_int) (fun _ _ => rfl))) (pa_nil))) (nomark _)) (pw_or1 (pt_cmpR op_ne (pe_callB (call_lenO OS_plen (hr.mono (by decide))) (by rfl) B.len (by decide +kernel) (pa_cons (pv 0) (pa_nil))) (pv 3) (nomark _)))))
        (pss_one (ps_ret (pe_bl)))
        (pss_nil))
      (pss_cons (ps_if (pt_cmpR (op_neD hu64) (pe_lc (own := [("_law_one", 5)]) (g := gName 5) (tt := tYes) rfl sc_told.nd (pi_range1 (by rfl) B.range (pa_cons (pv 3) (pa_nil))) (blkOk_by (own := [("_law_one", 5)]) (N := NT) (sc := defScope s_told) (by decide +kernel)) (fun _ _ _ _ _ => pg_name (i := 5) sc_told.nd rfl (.inl rfl)) (fun _ _ _ _ _ => pts_nil) (fun _ _ _ _ _ => OM_team_of.call hr TP.cl (he := pv 0) (ha := pa_cons (pv 5) (pa_nil)))) (pe_op op_cat (pe_op op_rep (pe_lst (pa_cons (pe_int) (pa_nil))) (pv 4)) (pe_op op_rep (pe_lst (pa_cons (pe_int) (pa_nil))) (pe_op op_sub (pv 3) (pv 4)))) (nomark _))
        (pss_one (ps_ret (pe_bl)))
        (pss_nil))
      (pss_cons (ps_set (i := 2) sc_told.nd rfl (.inl rfl) (pe_op op_add_str (pe_op op_add_str (pe_op op_add_str (pe_op op_add_str (pe_op op_add_str (pe_str) (pe_callTy call_str_int (by rfl) B.str (by decide +kernel) (pa_cons (pv 3) (pa_nil)))) (pe_str)) (pe_join pe_str (pe_ix (ixLK (K := K)) (pv 1) (pe_int) (fun _ _ => rfl)))) (pe_str)) (pe_join pe_str (pe_ix (ixLK (K := K)) (pv 1) (pe_int) (fun _ _ => rfl)))))
      (pss_one (ps_ret (pe_and (pe_cmpR op_eq (pe_callTy (call_strO OS_pstr (hr.mono (by decide))) (by rfl) B.str (by decide +kernel) (pa_cons (pv 0) (pa_nil))) (pv 2) (nomark _)) (pe_and (pe_cmpR (op_eqO OS_peq (hr.mono (by decide))) (pv 0) (O_law_plan_of.call hr (ha := pa_cons (pv 1) (pa_nil))) (nomark _)) (pe_one (pe_not (pe_cmpR (op_neO OS_peq EQ (hr.mono (by decide))) (pv 0) (O_law_plan_of.call hr (ha := pa_cons (pv 1) (pa_nil))) (nomark _)))))))))))), ?_⟩
    obtain ⟨a, d, x, y, rfl, ha, hd, hx, hy, ok⟩ := id hu2
    obtain ⟨pa, dx, k, tm, q1, q2, th, rfl, hpa, hk, htm, h1, h2, hth, okp⟩ := id hp
    have few : p.f.length + p.g.length ≤ 6 := ok.few
    have lth : p.th.length = p.f.length + p.g.length := List.length_append
    have so := hu2.so
    have okt := hd.ok.1
    have nf := okp_names okt ok (l := p.f) fun x hx => List.mem_append_left _ hx
    have ng := okp_names okt ok (l := p.g) fun x hx => List.mem_append_right _ hx
    have nth := okp_names okt ok (l := p.th) fun x hx => hx
    have lf : (strV p.f).length = p.f.length := List.length_map _
    have lt : (strV p.th).length = p.th.length := List.length_map _
    dsimp only [tSeq]
    have hpS : ∀ {H1 : Hp}, Same H H1 → PlanV C CP H1 (.ref pa) ⟨t1, p.s, p.f, p.g⟩ := fun e => hp.keep e
    refine par_go (P := fun v _ => v = .int (p.th.length : Int)) (P2 := fun v _ => v = .int (p.f.length : Int)) (ev_lenT (K := K) (ev_thP rfl ha hx hy few)) (fun v H1 e1 _ => ev_lenT (K := K) ((ev_ixA (j := 2) rfl (e1 _ _ ha) rfl).imp fun v H2 e2 r => by subst r; exact hx.keep (e1.trans e2))) (fun v w H1 H2 e1 e2 hv hw => ?_)
    subst hv hw
    have e12 := e1.trans e2
    clear e1 e2
    try dsimp only [tSeq]
    have fd := fineP_told (s := p.s) (f := p.f) (g := p.g) (by have := ok.s; have := (ok_facts okt).2.2.2.1; omega) (fineT_team nf so.1 (by omega)) (fineT_team ng so.2 (by omega))
    have haS : ∀ {H1 : Hp}, Same H H1 → H1 a = some (.lst [.ref d, .int (p.s : Int), x, y]) := fun e => e _ _ ha
    have tmD : ∀ {σ' : L2.St} {H1 : Hp}, σ'[0]? = some (some (.ref pa)) → Same H H1 → Ev (tLst (tCons (tProp CP (sp_pstart C CP) [] E0 (tVar 0)) (tCons (tProp CP (sp_pteams C CP) [] E0 (tVar 0)) tNil))) σ' H1 fun v H2 => DpS K H2 v (.list [.int (p.s : Int), .tuple [teamD p.f, teamD p.g]]) := fun hσ e => by
      refine ev_dL2 ((ev_pstart (C := C) (CP := CP) (ev_is hσ (hpS e))).imp fun v H2 e2 r => ?_) fun H2 e2 => (ev_pteams (C := C) (CP := CP) (ev_is hσ (hpS (e.trans e2)))).imp fun v H3 e3 r => ?_
      · subst r
        exact dps_int _
      · obtain ⟨tm, p1, p2, ev, htm, h1, h2⟩ := r
        subst ev
        exact fun H6 e6 => .tup (SqT.of (e6 _ _ htm)) (.cons (h1.keep e6).dp (.cons (h2.keep e6).dp .nil))
    refine if_goF ?_ fun H3 e3 => ?_
    · refine evt_or (evt_test ?_) fun H3 e3 => evt_test ?_
      · exact ev_kneP (C := C) pm (ev_pkind (CP := CP) (ev_is rfl (hpS e12))) fun H3 e3 => ev_mk ((ev_ixA (K := K) (j := 0) rfl (haS (e12.trans e3)) rfl).imp fun v H4 e4 r => by subst r; exact hd.keep ((e12.trans e3).trans e4))
      · have e13 := e12.trans e3
        refine ev_neS rfl (ev_repr (K := K) fd (tmD rfl e13)) fun H4 e4 => ev_repr (K := K) fd (ev_dL2 (K := K) ((ev_ixA (K := K) (j := 1) rfl (haS (e13.trans e4)) rfl).imp fun v H5 e5 r => ?_) fun H5 e5 => ev_dT2 (K := K) ((ev_ixA (K := K) (j := 2) rfl (haS ((e13.trans e4).trans e5)) rfl).imp fun v H6 e6 r => ?_) fun H6 e6 => (ev_ixA (K := K) (j := 3) rfl (haS (((e13.trans e4).trans e5).trans e6)) rfl).imp fun v H7 e7 r => ?_)
        · subst r
          exact dps_int _
        · subst r
          exact (hx.keep (((e13.trans e4).trans e5).trans e6)).dps
        · subst r
          exact (hy.keep ((((e13.trans e4).trans e5).trans e6).trans e7)).dps
    try dsimp only [tNext]
    try dsimp only [tSeq]
    have e13 := e12.trans e3
    clear e12 e3 tmD
    have fth : FineD (teamD p.th) := fineT_team nth (by rw [List.all_append, so.1, so.2]; rfl) (by omega)
    refine if_goF ?_ fun H4 e4 => ?_
    · refine evt_or (evt_test ?_) fun H4 e4 => evt_test ?_
      · exact ev_neS rfl (ev_repr (K := K) fth.up ((ev_pthr (C := C) (CP := CP) (ev_is rfl (hpS e13))).imp fun v H4 e4 r => TeamV.dps r)) fun H4 e4 => ev_repr (K := K) fth.up ((ev_thP (K := K) rfl (haS (e13.trans e4)) (hx.keep (e13.trans e4)) (hy.keep (e13.trans e4)) few).imp fun v H5 e5 r => TeamV.dps r)
      · exact ev_neS rfl (ev_plen (C := C) (CP := CP) (p := ⟨t1, p.s, p.f, p.g⟩) (ev_is rfl (hpS (e13.trans e4)))) fun H5 e5 => ev_is rfl rfl
    try dsimp only [tNext]
    try dsimp only [tSeq]
    have e14 := e13.trans e4
    clear e13 e4
    have nsd : Nice 1 (.list (((List.range p.th.length).map fun i => (p.side i : Int)).map PyData.int)) := .list fun d hd => by
      obtain ⟨i, _, rfl⟩ := List.mem_map.mp hd
      exact nice_int i
    refine if_goF (evt_test (ev_neSame (K := K) nsd (by decide) ?_ fun H5 e5 => ?_)) fun H5 e5 => ?_
    · refine fun Q q => lc_runR (n := (p.th.length : Int)) (fun Q q => ⟨_, rfl, q _ _ (Same.refl _) rfl⟩) ⟨by omega, by omega⟩ (List.range p.th.length) (by rw [List.length_range, Int.toNat_natCast]) (fun _ => true) (fun i v _ => v = .int (p.side i : Int)) (by rw [List.length_range]; omega) (by intro _; rfl) (fun _ _ _ _ _ h => h)
          (fun k z x H5 hz hx5 e5 => ⟨evt_yes, fun _ H6 e6 => ?_⟩) (fun p5 H5 ys hp5 e5 hys hP => ?_)
      · obtain ⟨ez, hk⟩ := range_at hz
        subst ez
        subst hx5
        exact ev_teamof (C := C) (CP := CP) (p := ⟨t1, p.s, p.f, p.g⟩) hk (ev_is rfl (hpS ((e14.trans e5).trans e6))) fun H7 e7 => ev_is rfl rfl
      · rw [filter_all] at hP
        refine q _ _ e5 fun H6 e6 => .lst (SqL.of (e6 _ _ hys)) ?_
        rw [paired_fun hP, side_ints]
        exact dp_intsL _
    · refine (ev_catL (xs := List.replicate p.f.length (V.int 0)) (ys := List.replicate p.g.length (V.int 1)) (ev_rep1 (k := p.f.length) (ev_lit (ev_c rfl)) (fun H6 e6 => ev_is rfl rfl) (by omega)) (fun H6 e6 => ev_rep1 (k := p.g.length) (ev_lit (ev_c rfl)) (fun H7 e7 => fun Q q => ev_sub (i := (p.th.length : Int)) (j := (p.f.length : Int)) (ev_is rfl rfl) (fun H8 e8 => ev_is rfl rfl) _ fun v H8 e8 r => q v H8 e8 (by rw [r, lth]; congr 1; omega)) (by omega)) (by rw [List.length_replicate, List.length_replicate]; omega)).imp fun v H6 e6 r => ?_
      obtain ⟨b, rfl, hb⟩ := r
      rw [← sides_are, side_ints] at hb
      exact fun H7 e7 => .lst (SqL.of (e7 _ _ hb)) (dp_intsL _)
    try dsimp only [tNext]
    try dsimp only [tSeq]
    have e15 := e14.trans e5
    clear e14 e5
    have jf := join_le nf (by omega)
    have jg := join_le ng (by omega)
    have sf := sum_le8 p.f nf
    have sg := sum_le8 p.g ng
    have h1s : ((" " : Str)).length = 1 := by decide +kernel
    have l1 : ("plan for " : Str).length = 9 := by decide +kernel
    have l2 : (" threads: " : Str).length = 10 := by decide +kernel
    have l3 : (" | " : Str).length = 3 := by decide +kernel
    have hd12 : (toString ((p.th.length : Nat) : Int) : Str).length ≤ 2 := dig12 p.th.length (by omega)
    have hl : ((p.th.length : Nat) : Int).natAbs.log2 < 1920 := (fine12 p.th.length (by omega)).2
    refine asg_go (P := fun v _ => v = .str (strP p)) ?_ fun v H6 e6 r => ?_
    · rw [← text_is]
      refine ev_addS (ev_addS (ev_addS (ev_addS (ev_addS (ev_c rfl) (fun H6 e6 => ev_strI (ev_is rfl rfl) hl) ?_) (fun H6 e6 => ev_c rfl) ?_) (fun H6 e6 => ev_joinT (K := K) rfl (ev_c rfl) (fun H7 e7 => (ev_ixA (K := K) (j := 2) rfl (haS ((e15.trans e6).trans e7)) rfl).imp fun v H8 e8 r => ?_) ?_) ?_) (fun H6 e6 => ev_c rfl) ?_) (fun H6 e6 => ev_joinT (K := K) rfl (ev_c rfl) (fun H7 e7 => (ev_ixA (K := K) (j := 3) rfl (haS ((e15.trans e6).trans e7)) rfl).imp fun v H8 e8 r => ?_) ?_) ?_
      · omega
      · rw [Str.length_append]; omega
      · subst r
        exact hx.keep (((e15.trans e6).trans e7).trans e8)
      · rw [h1s]; omega
      · rw [Str.length_append, Str.length_append]; omega
      · rw [Str.length_append, Str.length_append, Str.length_append]; omega
      · subst r
        exact hy.keep (((e15.trans e6).trans e7).trans e8)
      · rw [h1s]; omega
      · rw [Str.length_append, Str.length_append, Str.length_append, Str.length_append]; omega
    subst r
    have e16 := e15.trans e6
    clear e15 e6
    have huS : ∀ {H1 : Hp}, Same H H1 → PartsV H1 (.ref a) p := fun e => hu2.keep e
    dsimp only
    refine ret_go (P := fun v _ => v = .bl true) ?_ fun v H7 e7 r => by subst r; exact q _ (e16.trans e7)
    refine ev_andV (a := true) (b := true) (ev_eqS rfl (ev_pstr (C := C) (CP := CP) (p := ⟨t1, p.s, p.f, p.g⟩) (ev_is rfl (hpS e16))) fun H7 e7 => ev_is rfl rfl) fun _ H7 e7 => ev_andV (a := true) (b := true) ?_ fun _ H8 e8 => ev_notV (a := false) ?_
    · exact ev_peqP (neg := false) (p := p) pm (ev_is rfl (hpS (e16.trans e7))) fun H8 e8 => ev_planof (ev_is rfl (huS ((e16.trans e7).trans e8)))
    · exact ev_peqP (neg := true) (p := p) pm (ev_is rfl (hpS ((e16.trans e7).trans e8))) fun H9 e9 => ev_planof (ev_is rfl (huS (((e16.trans e7).trans e8).trans e9)))
end
end Tm

/-! Kind(..), Plan(..), _law_plan_of: the kind's dict is a new one; a plan outlives what is done to the dict that was handed in. -/
namespace Tm
open PySem PySem.Spec PyProof.Rows L2 TmE TmQ
local macro_rules | `(tactic| walk_at "x") => `(tactic| dsimp only [tNext, tRet, tSeq, tCall, tCB, tC, tCons, tNil, tAsg, tDrop, sFld])
/-- the dict of the kind at v did not stand in H0 -/
def KFresh (C : Addr) (H0 H : Hp) (v : V) : Prop := ∀ a dx d n, v = .ref a → H a = some (.ins C dx (kflds d n)) → H0 d = none
theorem KFresh.old {C : Addr} {H0 H1 H : Hp} {v : V} (e : Same H0 H1) (h : KFresh C H1 H v) : KFresh C H0 H v := fun a dx d n ev ha => e.free (h a dx d n ev ha)
theorem KFresh.keep {C : Addr} {H0 H H' : Hp} {v : V} {t : Tab} (hk : KindV C H v t) (e : ∀ a o, v = .ref a → H a = some o → H' a = some o) (h : KFresh C H0 H v) : KFresh C H0 H' v := fun a dx d n ev ha => by
  obtain ⟨b, dy, d2, _, e2, hb, _⟩ := hk
  subst ev
  cases e2
  have := e _ _ rfl hb
  rw [this] at ha
  cases ha
  exact h _ _ _ _ rfl hb
section
variable {P : Program} {w : World} {K : PySem.W.Frag} {mg : Str → Option Value} {base : Heap} {C CP : Addr}
def sp_initN (C : Addr) : Sp := fun vs H Q _ => ∃ (p dx a : Addr) (kvs : List (L2.Key × V)) (t : Tab), vs = [.ref p, .ref a] ∧ H p = some (.ins C dx []) ∧ H a = some (.dK kvs) ∧ TabV H kvs t ∧ okTab t = true ∧ (namesT t).Nodup ∧
  ∀ H' t', t'.Perm t → KindV C H' (.ref p) t' → KFresh C H H' (.ref p) → (∀ b o, b ≠ p → H b = some o → H' b = some o) → Q .non H'
theorem ok_initN (B : Bt mg) (T : Kc K C) (O_is_table : Ok P w K mg base "_is_table" 4 ["value"] sp_table) (D : DfC K mg "Kind" C "Kind.__init__" s_init ["self", "operations"]) : OkC P w K mg base "Kind" C 5 ["self", "operations"] (sp_initN C) := by
  refine D.ok sc_init (fun vs H Q E h => ?_) (fun f cdv A outer s H vs Q E hr h => ?_)
  · obtain ⟨p, dx, a, kvs, t, rfl, _⟩ := h
    rfl
  · obtain ⟨p, dx, a, kvs, t, rfl, hp, ha, ht, hok, nd, q⟩ := h
    have hu := hu_of hr
    have hkeys := tabV_keys ht
    have h6 : (namesT t).length ≤ 6 := by
      have := hok
      unfold okTab at this
      simp only [Bool.and_eq_true, decide_eq_true_eq] at this
      unfold namesT
      rw [List.length_map]
      exact this.1.1.1.2
    refine ⟨_, pss_cons (ps_if (pt_not (pt_val (O_is_table.call hr (ha := pa_cons (pv 1) (pa_nil)))))
        (pss_one (ps_never))
        (pss_nil))
      (pss_cons (ps_fld (pv 0) (pe_dc (own := [("name", 2)]) (g := gName 2) (tt := tYes) rfl sc_init.nd (pi_list (pe_callB (call_sortedD rfl) (by rfl) B.sorted (by decide +kernel) (pa_cons (pv 1) (pa_nil)))) (blkOk_by (own := [("name", 2)]) (N := ["self", "operations", "name"]) (sc := defScope s_init) (by decide +kernel)) (fun _ _ _ _ _ => pg_name (i := 2) sc_init.nd rfl (.inl rfl)) (fun _ _ _ _ _ => pts_nil) (fun _ _ _ _ _ => pv 2) (fun _ _ _ _ _ => pe_dget hu (pv 1) (pv 2) (fun _ _ => rfl))) rfl)
      (pss_one (ps_fld (pv 0) (pe_callB (lenK (K := K)) (by rfl) B.len (by decide +kernel) (pa_cons (pe_ix (ixLK (K := K)) (pe_listVals rfl (pe_fld (pv 0) rfl) (by rfl) B.list) (pe_int) (fun _ _ => rfl)) (pa_nil))) rfl))), ?_⟩
    refine ⟨_, rfl, a, kvs, t, rfl, ha, ht, hok, fun H1 e1 => ⟨_, rfl, ?_⟩⟩
    refine ifF rfl ?_
    walk_at "x"
    refine dc_bind (P := fun v H2 => ∃ (b : Addr) (ys : List Str), v = .ref b ∧ H2 b = some (.lst (ys.map V.str)) ∧ ys.Perm (namesT t) ∧ sortedS ys = true) (fun Q q => ?_) (fun v H2 e2 hv => ?_)
    · exact ⟨_, rfl, a, kvs, namesT t, rfl, .inl (e1 _ _ ha), hkeys, by omega, fun ys b hpm hst hb => q _ _ (same_new hb) ⟨b, ys, rfl, upd_same, hpm, hst⟩⟩
    · obtain ⟨b, ys, rfl, hb, hpm, hst⟩ := hv
      have e12 := e1.trans e2
      have ndy : ys.Nodup := hpm.nodup_iff.mpr nd
      refine dc_runL (K := K) (xs := ys.map V.str) (ev_c ⟨b, rfl, SqL.of hb⟩) ys (List.length_map ..) (fun _ => true) Sum.inr (fun z v H => ∃ r, (z, r) ∈ t ∧ RowV H v r) (by rw [hpm.length_eq]; omega)
        (by rw [List.nodup_iff_pairwise_ne, List.pairwise_map]; exact (List.nodup_iff_pairwise_ne.mp ndy).imp fun h z => h (Sum.inr.inj z)) (by intro _; rfl)
        (fun z v H H' e h => by obtain ⟨r, h1, h2⟩ := h; exact ⟨r, h1, h2.mono e⟩) (fun i z x H3 hi hx e3 => ⟨evt_yes, fun _ H4 e4 => ?_, fun _ H4 e4 => ?_⟩) (fun d H3 kvs' hd e3 hdk hP => ?_)
      · rw [List.getElem?_map, hi] at hx
        have ex : V.str z = x := Option.some.inj hx
        subst ex
        exact ev_is rfl rfl
      · rw [List.getElem?_map, hi] at hx
        have ex : V.str z = x := Option.some.inj hx
        subst ex
        have hz : z ∈ namesT t := hpm.mem_iff.mp (List.mem_of_getElem? hi)
        obtain ⟨⟨x', r⟩, hr', exx⟩ := List.mem_map.mp hz
        have ex2 : x' = z := exx
        subst ex2
        obtain ⟨v, hv, hrow⟩ := tab_look ht nd hr'
        have hSame : Same H H4 := e12.trans (e3.trans e4)
        intro Q q
        refine ⟨_, rfl, _, rfl, a, v, rfl, ?_, q v H4 (Same.refl _) ⟨r, hr', hrow.mono (tups_of hSame)⟩⟩
        have := DGet.k (k := Sum.inr x') (hSame _ _ ha)
        rw [hv] at this
        exact this
      · rw [filter_all] at hP
        obtain ⟨t', ht', hn', hs'⟩ := tab_of hP
        have pm : t'.Perm t := perm_of_names nd (by rw [hn']; exact hpm) hs'
        have e13 := e12.trans e3
        have npd : p ≠ d := ne_of_none (e12 _ _ hp) hd
        refine ⟨_, rfl, p, C, dx, [], rfl, e13 _ _ hp, T.cl, T.nT, (by show 0 < 1000; decide), ?_⟩
        generalize hH4 : upd H3 p (.ins C dx (putF "_table" (.ref d) [])) = H4
        have hp4 : H4 p = some (.ins C dx (putF "_table" (.ref d) [])) := by rw [← hH4]; exact upd_same
        have hd4 : H4 d = some (.dK kvs') := by rw [← hH4, upd_ne npd.symm]; exact hdk
        have t4 : TupS H3 H4 := by rw [← hH4]; exact tups_upd (e13 _ _ hp) (fun xs z => by cases z)
        have hlk : (putF "_table" (V.ref d) []).lookup ("_table" : Str) = some (.ref d) := by simp [putF, List.lookup]
        obtain ⟨e0, t0, rfl⟩ : ∃ e0 t0, t' = e0 :: t0 := by
          cases t' with
          | nil =>
            have := ok_perm hok pm
            simp [okTab] at this
          | cons e0 t0 => exact ⟨e0, t0, rfl⟩
        obtain ⟨kv0, kvs0, rfl⟩ : ∃ kv0 kvs0, kvs' = kv0 :: kvs0 := by
          cases kvs' with
          | nil => cases ht'
          | cons kv0 kvs0 => exact ⟨kv0, kvs0, rfl⟩
        obtain ⟨b0, rs, eb, hb0, hrs⟩ : RowV H3 kv0.2 e0.2 := by
          cases ht' with
          | cons r _ => exact r.2
        refine ⟨_, rfl, p, C, dx, _, _, rfl, hp4, T.cl, T.nT, hlk, d, _, rfl, hd4, fun l hl => ?_⟩
        refine ⟨l, _, 0, kv0.2, rfl, rfl, SqL.of upd_same, at_of (j := 0) rfl rfl, ?_⟩
        rw [eb]
        have e5 : Same H4 (upd H4 l (.lst (List.map (·.2) (kv0 :: kvs0)))) := same_new hl
        generalize upd H4 l (.lst (List.map (·.2) (kv0 :: kvs0))) = H5 at e5 ⊢
        refine ⟨b0, rs, rfl, .inr (SqT.of (e5 _ _ (t4 _ _ hb0))), _, rfl, p, C, dx, _, rfl, e5 _ _ hp4, T.cl, T.nS, (by show 1 < 1000; decide), ?_⟩
        have hsz : (rs.length : Int) = (sizeT (e0 :: t0) : Int) := by rw [Paired.length hrs]; rfl
        refine q _ (e0 :: t0) pm ⟨p, dx, d, kv0 :: kvs0, rfl, ?_, ?_, ?_, ok_perm hok pm, ?_, ?_⟩ (fun a' dx' d' n' ev hh => ?_) ?_
        · rw [upd_same, hsz, kf_put]
        · rw [upd_ne npd.symm]
          exact e5 _ _ hd4
        · exact ht'.mono (t4.trans ((tups_of e5).trans (tups_upd (e5 _ _ hp4) (fun xs z => by cases z))))
        · rw [hn']; exact ndy
        · rw [hn']; exact hst
        · cases ev
          rw [upd_same, kf_put] at hh
          cases hh
          exact e12.free hd
        · intro c o hc hco
          rw [upd_ne hc]
          refine e5 _ _ ?_
          rw [← hH4, upd_ne hc]
          exact e13 _ _ hco
def PlanK (C CP : Addr) (H : Hp) (v : V) (p : Pl) (k : V) : Prop := ∃ a dx tm p1 p2 th, v = .ref a ∧ H a = some (.ins CP dx (pflds k p.s tm th)) ∧ KindV C H k p.t ∧ H tm = some (.tup [p1, p2]) ∧ TeamV H p1 p.f ∧ TeamV H p2 p.g ∧ H th = some (.tup (strV p.th)) ∧ p.Ok
theorem PlanK.v {H : Hp} {v k : V} {p : Pl} (h : PlanK C CP H v p k) : PlanV C CP H v p := by
  obtain ⟨a, dx, tm, p1, p2, th, h⟩ := h
  exact ⟨a, dx, k, tm, p1, p2, th, h⟩
theorem PlanK.kind {H : Hp} {v k : V} {p : Pl} (h : PlanK C CP H v p k) : KindV C H k p.t := by
  obtain ⟨_, _, _, _, _, _, _, _, h, _⟩ := h
  exact h
/-- a plan outlives what is put in the place of a dict that stood ahead of its kind -/
theorem PlanK.put {H0 H : Hp} {v k : V} {p : Pl} {d : Addr} {o o0 : HO} {kvs : List (L2.Key × V)} (h : PlanK C CP H v p k) (fr : KFresh C H0 H k) (h0 : H0 d = some o0) (hd : H d = some (.dK kvs)) : PlanV C CP (upd H d o) v p := by
  obtain ⟨a, dx, tm, p1, p2, th, rfl, ha, hk, htm, h1, h2, hth, ok⟩ := h
  have st : ∀ {b : Addr} {u : HO}, H b = some u → (∀ l, u ≠ .dK l) → upd H d o b = some u := fun {b u} e n => by
    have : b ≠ d := fun z => by
      rw [z, hd] at e
      cases e
      exact n _ rfl
    rw [upd_ne this]
    exact e
  have rd : ∀ {b : Addr} {xs : List V}, Rd H b (.tup xs) → Rd (upd H d o) b (.tup xs) := fun e => e.imp (fun e => st e fun _ z => nomatch z) fun ⟨w, e⟩ => ⟨w, st e fun _ z => nomatch z⟩
  have tv : ∀ {u : V} {l : List Str}, TeamV H u l → TeamV (upd H d o) u l := fun ⟨r, e, h⟩ => ⟨r, e, rd h⟩
  refine ⟨a, dx, k, tm, p1, p2, th, rfl, st ha (fun _ z => nomatch z), ?_, st htm (fun _ z => nomatch z), tv h1, tv h2, st hth (fun _ z => nomatch z), ok⟩
  obtain ⟨b, dy, kd, kkv, rfl, hb, hkd, ht, okk⟩ := hk
  have nk := fr _ _ _ _ rfl hb
  have ne : kd ≠ d := fun z => by
    rw [z, h0] at nk
    cases nk
  exact ⟨b, dy, kd, kkv, rfl, st hb (fun _ z => nomatch z), by rw [upd_ne ne]; exact hkd, ht.mono (fun c xs hc => st hc (fun _ z => nomatch z)), okk⟩
def sp_pinitK (C CP : Addr) : Sp := fun vs H Q _ => ∃ (a dx : Addr) (k p1 p2 : V) (p : Pl), vs = [.ref a, k, .int (p.s : Int), p1, p2] ∧ H a = some (.ins CP dx []) ∧ KindV C H k p.t ∧ TeamV H p1 p.f ∧ TeamV H p2 p.g ∧ p.Ok ∧
  ∀ H', PlanK C CP H' (.ref a) p k → (∀ b o, b ≠ a → H b = some o → H' b = some o) → Q .non H'
theorem ok_pinitK (B : Bt mg) (hM : GV mg "MAX_THREADS" (.int 6)) (T : Kc K C) (TP : Kp K CP) (O_need_kind : Ok P w K mg base "need_kind" 1 ["value"] (sp_needkind C)) (O_is_number_in : Ok P w K mg base "is_number_in" 1 ["value", "least", "most"] sp_num) (OP_size : OkP P w K mg base C "size" 1 (sp_size C)) (O_is_team : Ok P w K mg base "_is_team" 2 ["value", "kind"] (sp_team C))
    (D : DfC K mg "Plan" CP "Plan.__init__" s_pinit ["self", "kind", "start", "first", "second"]) : OkC P w K mg base "Plan" CP 4 ["self", "kind", "start", "first", "second"] (sp_pinitK C CP) := by
  refine D.ok sc_pinit (fun vs H Q E h => ?_) (fun f cdv A outer s H vs Q E hr h => ?_)
  · obtain ⟨a, dx, k, p1, p2, p, rfl, _⟩ := h
    rfl
  · obtain ⟨a, dx, k, p1, p2, p, rfl, ha, hk, h1, h2, ok, q⟩ := h
    refine ⟨_, pss_cons (ps_expr (O_need_kind.call hr (ha := pa_cons (pv 1) (pa_nil))))
      (pss_cons (ps_if (pt_not (pt_val (O_is_number_in.call hr (ha := pa_cons (pv 2) (pa_cons (pe_int) (pa_cons (pe_op op_sub (OP_size.get hr T.cl (he := pv 1)) (pe_int)) (pa_nil)))))))
        (pss_one (ps_never))
        (pss_nil))
      (pss_cons (ps_if (PW.pt (pw_or (pt_not (pt_val (O_is_team.call hr (ha := pa_cons (pv 3) (pa_cons (pv 1) (pa_nil)))))) (pw_or (pt_not (pt_val (O_is_team.call hr (ha := pa_cons (pv 4) (pa_cons (pv 1) (pa_nil)))))) (pw_or1 (pt_cmpR op_gt (pe_op op_add (pe_callB (lenK (K := K)) (by rfl) B.len (by decide +kernel) (pa_cons (pv 3) (pa_nil))) (pe_callB (lenK (K := K)) (by rfl) B.len (by decide +kernel) (pa_cons (pv 4) (pa_nil)))) hM.pe (nomark _))))))
        (pss_one (ps_never))
        (pss_nil))
      (pss_cons (ps_fld (pv 0) (pv 1) rfl)
      (pss_cons (ps_fld (pv 0) (pv 2) rfl)
      (pss_cons (ps_fld (pv 0) (pe_tup (pa_cons (pv 3) (pa_cons (pv 4) (pa_nil)))) rfl)
      (pss_one (ps_fld (pv 0) (pe_op op_catT (pv 3) (pv 4)) rfl))))))), ?_⟩
    obtain ⟨ka, kdx, kd, kkv, rfl, hka, _⟩ := id hk
    refine ⟨_, rfl, _, p.t, rfl, hk, ?_⟩
    dsimp only [tSeq]
    refine ⟨_, rfl, _, rfl, ka, kdx, _, rfl, hka, .ref ka, p.t, rfl, hk, _, _, rfl, rfl, _, _, _, rfl, _, rfl, ?_⟩
    refine ifF (by have := ok.s; rw [decide_eq_true (show (0 : Int) ≤ (p.s : Int) by omega), decide_eq_true (show (p.s : Int) ≤ (sizeT p.t : Int) - 1 by omega)]; rfl) ?_
    dsimp only [tNext, tSeq, tIfS, tOr, tNot, tB]
    have few := ok.few
    refine ⟨_, rfl, _, rfl, p1, .ref ka, p.t, p.f, rfl, h1, hk, ok.f, by omega, fun x hx => ok.all x (List.mem_append_left _ hx), fun H1 e1 => ⟨_, rfl, ifF rfl ?_⟩⟩
    refine ⟨_, rfl, _, rfl, p2, .ref ka, p.t, p.g, rfl, h2.keep e1, hk.keep e1, ok.g, by omega, fun x hx => ok.all x (List.mem_append_right _ hx), fun H2 e2 => ⟨_, rfl, ifF rfl ?_⟩⟩
    have e12 := e1.trans e2
    obtain ⟨q1, rfl, hq1⟩ := h1.keep e12
    obtain ⟨q2, rfl, hq2⟩ := h2.keep e12
    refine ⟨_, rfl, q1, _, rfl, .inr (.inl hq1), _, rfl, q2, _, rfl, .inr (.inl hq2), _, _, rfl, rfl, ?_⟩
    refine ⟨_, _, rfl, rfl, _, rfl, ifF ?_ ?_⟩
    · unfold strV
      rw [List.length_map, List.length_map]
      exact decide_eq_false fun z => by omega
    try dsimp only [tNext]
    have sa := e12 _ _ ha
    refine ⟨_, rfl, _, rfl, a, CP, dx, [], rfl, sa, TP.cl, TP.nK, by show 0 < 1000; decide, ?_⟩
    have f3 : ∀ b o, b ≠ a → H2 b = some o → upd H2 a (.ins CP dx (putF "_kind" (.ref ka) [])) b = some o := fun b o n e => (upd_ne n).trans e
    have a3 : upd H2 a (.ins CP dx (putF "_kind" (.ref ka) [])) a = some (.ins CP dx (putF "_kind" (.ref ka) [])) := upd_same
    generalize upd H2 a (.ins CP dx (putF "_kind" (.ref ka) [])) = H3 at f3 a3
    try dsimp only [tSeq]
    refine ⟨_, rfl, _, rfl, a, CP, dx, _, rfl, a3, TP.cl, TP.nS, by show 1 < 1000; decide, ?_⟩
    have f4 : ∀ b o, b ≠ a → H2 b = some o → upd H3 a (.ins CP dx (putF "_start" (.int (p.s : Int)) (putF "_kind" (.ref ka) []))) b = some o := fun b o n e => (upd_ne n).trans (f3 b o n e)
    have a4 : upd H3 a (.ins CP dx (putF "_start" (.int (p.s : Int)) (putF "_kind" (.ref ka) []))) a = some (.ins CP dx (putF "_start" (.int (p.s : Int)) (putF "_kind" (.ref ka) []))) := upd_same
    generalize upd H3 a (.ins CP dx (putF "_start" (.int (p.s : Int)) (putF "_kind" (.ref ka) []))) = H4 at f4 a4
    try dsimp only [tSeq]
    refine ⟨_, rfl, _, rfl, by show 2 ≤ sizeLine; decide, fun tm htm => ?_⟩
    have e5 : Same H4 (upd H4 tm (.tup [.ref q1, .ref q2])) := same_new htm
    have t5 : upd H4 tm (.tup [.ref q1, .ref q2]) tm = some (.tup [.ref q1, .ref q2]) := upd_same
    have tma : tm ≠ a := fun z => by
      rw [z, a4] at htm
      cases htm
    show (fun H5 => _) (upd H4 tm (.tup [.ref q1, .ref q2]))
    generalize upd H4 tm (.tup [.ref q1, .ref q2]) = H5 at e5 t5
    refine ⟨_, rfl, a, CP, dx, _, rfl, e5 _ _ a4, TP.cl, TP.nM, by show 2 < 1000; decide, ?_⟩
    have f6 : ∀ b o, b ≠ a → H2 b = some o → upd H5 a (.ins CP dx (putF "_teams" (.ref tm) (putF "_start" (.int (p.s : Int)) (putF "_kind" (.ref ka) [])))) b = some o := fun b o n e => (upd_ne n).trans (e5 _ _ (f4 b o n e))
    have a6 : upd H5 a (.ins CP dx (putF "_teams" (.ref tm) (putF "_start" (.int (p.s : Int)) (putF "_kind" (.ref ka) [])))) a = some (.ins CP dx (putF "_teams" (.ref tm) (putF "_start" (.int (p.s : Int)) (putF "_kind" (.ref ka) [])))) := upd_same
    have t6 : upd H5 a (.ins CP dx (putF "_teams" (.ref tm) (putF "_start" (.int (p.s : Int)) (putF "_kind" (.ref ka) [])))) tm = some (.tup [.ref q1, .ref q2]) := (upd_ne tma).trans t5
    generalize upd H5 a (.ins CP dx (putF "_teams" (.ref tm) (putF "_start" (.int (p.s : Int)) (putF "_kind" (.ref ka) [])))) = H6 at f6 a6 t6
    try dsimp only [tSeq]
    have na : ∀ {b : Addr} {xs : List V}, Rd H2 b (.tup xs) → b ≠ a := fun {b xs} r z => by
      rw [z] at r
      rcases r with r | ⟨o, r⟩
      · rw [sa] at r
        cases r
      · rw [sa] at r
        cases r
    have r6 : ∀ {b : Addr} {xs : List V}, Rd H2 b (.tup xs) → Rd H6 b (.tup xs) := fun {b xs} r => by
      have n := na r
      exact r.imp (fun r => f6 _ _ n r) fun ⟨o, r⟩ => ⟨o, f6 _ _ n r⟩
    refine ⟨_, rfl, _, rfl, q1, q2, _, _, rfl, rfl, .inl (r6 hq1), .inl (r6 hq2), ?_⟩
    refine ⟨fun z => ok.f (List.map_eq_nil_iff.mp z), ?_, fun z => absurd (List.map_eq_nil_iff.mp z) ok.g, fun _ th hth => ?_⟩
    · unfold strV
      rw [List.length_map, List.length_map]
      exact Nat.le_trans few (by show 6 ≤ sizeLine; decide)
    have e7 : Same H6 (upd H6 th (.tup (strV p.f ++ strV p.g))) := same_new hth
    have t7 : upd H6 th (.tup (strV p.f ++ strV p.g)) th = some (.tup (strV p.f ++ strV p.g)) := upd_same
    have tha : th ≠ a := fun z => by
      rw [z, a6] at hth
      cases hth
    generalize upd H6 th (.tup (strV p.f ++ strV p.g)) = H7 at e7 t7
    refine ⟨_, rfl, a, CP, dx, _, rfl, e7 _ _ a6, TP.cl, TP.nH, by show 3 < 1000; decide, ?_⟩
    have f8 : ∀ b o, b ≠ a → H2 b = some o → upd H7 a (.ins CP dx (putF "_threads" (.ref th) (putF "_teams" (.ref tm) (putF "_start" (.int (p.s : Int)) (putF "_kind" (.ref ka) []))))) b = some o := fun b o n e => (upd_ne n).trans (e7 _ _ (f6 b o n e))
    have a8 : upd H7 a (.ins CP dx (putF "_threads" (.ref th) (putF "_teams" (.ref tm) (putF "_start" (.int (p.s : Int)) (putF "_kind" (.ref ka) []))))) a = some (.ins CP dx (pflds (.ref ka) p.s tm th)) := by rw [upd_same, pf_put]
    have t8 : upd H7 a (.ins CP dx (putF "_threads" (.ref th) (putF "_teams" (.ref tm) (putF "_start" (.int (p.s : Int)) (putF "_kind" (.ref ka) []))))) tm = some (.tup [.ref q1, .ref q2]) := (upd_ne tma).trans (e7 _ _ t6)
    have s8 : upd H7 a (.ins CP dx (putF "_threads" (.ref th) (putF "_teams" (.ref tm) (putF "_start" (.int (p.s : Int)) (putF "_kind" (.ref ka) []))))) th = some (.tup (strV p.f ++ strV p.g)) := (upd_ne tha).trans t7
    generalize upd H7 a (.ins CP dx (putF "_threads" (.ref th) (putF "_teams" (.ref tm) (putF "_start" (.int (p.s : Int)) (putF "_kind" (.ref ka) []))))) = H8 at f8 a8 t8 s8
    have r8 : ∀ {b : Addr} {xs : List V}, Rd H2 b (.tup xs) → Rd H8 b (.tup xs) := fun {b xs} r => by
      have n := na r
      exact r.imp (fun r => f8 _ _ n r) fun ⟨o, r⟩ => ⟨o, f8 _ _ n r⟩
    have hk8 : KindV C H8 (.ref ka) p.t := by
      obtain ⟨b, bdx, bd, bkv, eb, hb, hbd, hbt, okb⟩ := hk.keep e12
      have nb : ∀ {b : Addr} {o : HO}, H2 b = some o → o ≠ .ins CP dx [] → b ≠ a := fun h n z => by
        rw [z, sa] at h
        exact n (Option.some.inj h).symm
      refine ⟨b, bdx, bd, bkv, eb, f8 _ _ (nb hb fun z => ?_) hb, f8 _ _ (nb hbd fun z => by cases z) hbd, hbt.mono fun c xs hc => f8 _ _ (nb hc fun z => by cases z) hc, okb⟩
      have := (HO.ins.inj z).2.2
      cases this
    refine q H8 ⟨a, dx, tm, .ref q1, .ref q2, th, rfl, a8, hk8, t8, ⟨q1, rfl, r8 hq1⟩, ⟨q2, rfl, r8 hq2⟩, ?_, ok⟩ fun b o n e => f8 b o n (e12 _ _ e)
    rw [s8]
    unfold strV
    rw [List.map_append]
/-- Kind(a dict), with what is new -/
theorem mk_kindN {H1 : Hp} {a : Addr} {kvs : List (L2.Key × V)} {t : Tab} {Q : VK} {E : XK} (ha : H1 a = some (.dK kvs)) (ht : TabV H1 kvs t) (hok : okTab t = true) (nd : (namesT t).Nodup)
    (q : ∀ v H' t', Same H1 H' → KindV C H' v t' → t'.Perm t → KFresh C H1 H' v → Q v H') :
    ∀ x dx, H1 x = none → H1 dx = none → dx ≠ x → sp_initN C (.ref x :: ([V.ref a] ++ [])) (upd (upd H1 dx (.own x)) x (.ins C dx [])) (fun v H2 => v = .non ∧ Q (.ref x) H2) E := by
  intro x dx hx hdx hne
  have e : Same H1 (upd (upd H1 dx (.own x)) x (.ins C dx [])) := fun b o hb => by
    rw [upd_ne (ne_of_none hb hx), upd_ne (ne_of_none hb hdx)]; exact hb
  refine ⟨x, dx, a, kvs, t, rfl, upd_same, e _ _ ha, ht.mono (tups_of e), hok, nd, fun H' t' pm hk fr hkeep => ⟨rfl, q _ H' t' (fun b o hb => ?_) hk pm (fr.old e)⟩⟩
  exact hkeep b o (ne_of_none hb hx) (e _ _ hb)
theorem ev_mkN {σ : L2.St} {H : Hp} {te : TE} {E : XK} {t : Tab} (h : Ev te σ H fun v H1 => DictV H1 v t) : Ev (tMake C (sp_initN C) [] E (tCons te tNil)) σ H fun v H1 => ∃ t', KindV C H1 v t' ∧ t'.Perm t ∧ KFresh C H H1 v := fun Q q =>
  h _ fun v H1 e1 hd => by
    obtain ⟨d, kvs, rfl, hd0, ht0, nd, ok⟩ := hd
    exact mk_kindN hd0 ht0 ok nd fun v' H' t' e' hk pm fr => q v' H' (e1.trans e') ⟨t', hk, pm, fr.old e1⟩
theorem mk_planK {H : Hp} {k p1 p2 : V} {p : Pl} {Q : VK} {E : XK} (hk : KindV C H k p.t) (h1 : TeamV H p1 p.f) (h2 : TeamV H p2 p.g) (ok : p.Ok) (q : ∀ v H', Same H H' → PlanK C CP H' v p k → Q v H') :
    ∀ x dx, H x = none → H dx = none → dx ≠ x → sp_pinitK C CP (V.ref x :: ([k, .int (p.s : Int), p1, p2] ++ [])) (upd (upd H dx (.own x)) x (.ins CP dx [])) (fun v H2 => v = V.non ∧ Q (V.ref x) H2) E := fun x dx nx ndx hne => by
  have e1 : Same H (upd (upd H dx (.own x)) x (.ins CP dx [])) := (same_new ndx).trans (same_new ((upd_ne hne.symm).trans nx))
  refine ⟨x, dx, k, p1, p2, p, rfl, upd_same, hk.keep e1, h1.keep e1, h2.keep e1, ok, fun H' pv fr => ⟨rfl, q _ H' (fun b o e => ?_) pv⟩⟩
  have nb : b ≠ x := fun z => by
    rw [z, nx] at e
    cases e
  exact fr b o nb (e1 _ _ e)
theorem Pl.Ok.perm {p : Pl} {t1 : Tab} (okt : okTab p.t = true) (ok : p.Ok) (pm : t1.Perm p.t) : Pl.Ok ⟨t1, p.s, p.f, p.g⟩ :=
  ⟨by show _ < sizeT t1; rw [size_perm okt pm]; exact ok.s, ok.f, ok.g, ok.few, fun x hx => (pm.map (fun e : Str × Row => e.1)).mem_iff.mpr (ok.all x hx)⟩
theorem ev_planKN {σ : L2.St} {H : Hp} {tk ts t1 t2 : TE} {E : XK} {t : Tab} {s : Nat} {f g : List Str} (hk : Ev tk σ H fun v H1 => ∃ t', KindV C H1 v t' ∧ t'.Perm t ∧ KFresh C H H1 v) (hs : ∀ H1, Same H H1 → Ev ts σ H1 fun v _ => v = .int (s : Int)) (h1 : ∀ H1, Same H H1 → Ev t1 σ H1 fun v H2 => TeamV H2 v f) (h2 : ∀ H1, Same H H1 → Ev t2 σ H1 fun v H2 => TeamV H2 v g) (ok : ∀ t', t'.Perm t → Pl.Ok ⟨t', s, f, g⟩) :
    Ev (tMake CP (sp_pinitK C CP) [] E (tCons tk (tCons ts (tCons t1 (tCons t2 tNil))))) σ H fun v H1 => ∃ t' k, t'.Perm t ∧ PlanK C CP H1 v ⟨t', s, f, g⟩ k ∧ KFresh C H H1 k := fun Q q =>
  hk _ fun v H1 e1 k1 => hs H1 e1 _ fun v2 H2 e2 k2 => by
    subst k2
    obtain ⟨t', k1, pm, fr⟩ := k1
    exact h1 H2 (e1.trans e2) _ fun v3 H3 e3 k3 => h2 H3 (e1.trans (e2.trans e3)) _ fun v4 H4 e4 k4 => mk_planK (Q := Q) (p := ⟨t', s, f, g⟩) (k1.keep (e2.trans (e3.trans e4))) (k3.keep e4) k4 (ok t' pm) fun v H' e' pv => q v H' (e1.trans (e2.trans (e3.trans (e4.trans e')))) ⟨t', _, pm, pv, KFresh.keep k1 (fun _ _ _ h => (e2.trans (e3.trans (e4.trans e'))) _ _ h) fr⟩
def sp_planofN (C CP : Addr) : Sp := fun vs H Q _ => ∃ (u : V) (p : Pl), vs = [u] ∧ PartsV H u p ∧ ∀ z t1 k H', Same H H' → t1.Perm p.t → PlanK C CP H' z ⟨t1, p.s, p.f, p.g⟩ k → KFresh C H H' k → Q z H'
theorem ok_planofN (OC_Kind : OkC P w K mg base "Kind" C 5 ["self", "operations"] (sp_initN C)) (OC_Plan : OkC P w K mg base "Plan" CP 4 ["self", "kind", "start", "first", "second"] (sp_pinitK C CP)) (D : Df K mg "_law_plan_of" s_planof ["_law_parts"]) : Ok P w K mg base "_law_plan_of" 7 ["_law_parts"] (sp_planofN C CP) := by
  refine D.ok sc_law_plan_of (fun vs H Q E h => ?_) (fun f cdv A outer s H vs Q E hr h => ?_)
  · obtain ⟨u, p, rfl, _⟩ := h
    rfl
  · obtain ⟨u, p, rfl, hu, q⟩ := h
    refine ⟨_, pss_one (ps_ret (OC_Plan.make hr (ha := pa_cons (OC_Kind.make hr (ha := pa_cons (pe_ix (ixLK (K := K)) (pv 0) (pe_int) (fun _ _ => rfl)) (pa_nil))) (pa_cons (pe_ix (ixLK (K := K)) (pv 0) (pe_int) (fun _ _ => rfl)) (pa_cons (pe_ix (ixLK (K := K)) (pv 0) (pe_int) (fun _ _ => rfl)) (pa_cons (pe_ix (ixLK (K := K)) (pv 0) (pe_int) (fun _ _ => rfl)) (pa_nil))))))), ?_⟩
    obtain ⟨a, d, v1, v2, rfl, ha, hd, h1, h2, ok⟩ := hu
    have okt := hd.ok.1
    dsimp only [tRet]
    refine ev_planKN (C := C) (CP := CP) (t := p.t) (s := p.s) (f := p.f) (g := p.g) (ev_mkN ((ev_ixA (K := K) (j := 0) rfl ha rfl).imp fun v H1 e1 r => by subst r; exact hd.keep e1)) (fun H1 e1 => ev_ixA (K := K) (j := 1) rfl (e1 _ _ ha) rfl) (fun H1 e1 => (ev_ixA (K := K) (j := 2) rfl (e1 _ _ ha) rfl).imp fun v H2 e2 r => by subst r; exact h1.keep (e1.trans e2)) (fun H1 e1 => (ev_ixA (K := K) (j := 3) rfl (e1 _ _ ha) rfl).imp fun v H2 e2 r => by subst r; exact h2.keep (e1.trans e2)) (fun t' pm => ok.perm okt pm) _ fun v H1 e1 r => ?_
    obtain ⟨t1, k, pm, pv, fr⟩ := r
    exact q v t1 k H1 e1 pm pv fr
end
end Tm

/-! what is behind an order: over a table in another order; how it is shown. -/
namespace Tm
open PySem PySem.Spec PyProof.Rows L2 TmE TmQ
theorem row_perm {p : Pl} {t1 : Tab} (nd : (namesT p.t).Nodup) (ok : p.Ok) (pm : t1.Perm p.t) {i : Nat} (hi : i < p.th.length) : rowI t1 p.th i = rowI p.t p.th i := by
  unfold rowI
  refine rowAt_perm pm nd ?_
  rw [List.getD_eq_getElem?_getD, List.getElem?_eq_getElem hi]
  exact (pm.map (fun e : Str × Row => e.1)).mem_iff.mpr (ok.all _ (List.getElem_mem hi))
theorem play_perm {p : Pl} {t1 : Tab} (nd : (namesT p.t).Nodup) (ok : p.Ok) (pm : t1.Perm p.t) (o : List Nat) (h : ∀ i ∈ o, i < p.th.length) : playP t1 p.th p.s o = playP p.t p.th p.s o := by
  have gen : ∀ (o : List Nat) (z : Nat × List (Nat × Int)), (∀ i ∈ o, i < p.th.length) → o.foldl (stP t1 p.th) z = o.foldl (stP p.t p.th) z := fun o => by
    induction o with
    | nil => intro z _; rfl
    | cons i o ih =>
      intro z h
      rw [List.foldl_cons, List.foldl_cons, show stP t1 p.th z i = stP p.t p.th z i by unfold stP; rw [row_perm nd ok pm (h i List.mem_cons_self)]]
      exact ih _ fun j hj => h j (List.mem_cons_of_mem _ hj)
  exact gen o _ h
theorem play_ans {p : Pl} (okt : okTab p.t = true) (ok : p.Ok) (o : List Nat) (h : ∀ i ∈ o, i < p.th.length) : ∀ z ∈ (playP p.t p.th p.s o).2, 0 ≤ z.2 ∧ z.2 ≤ 99 := by
  have gen : ∀ (o : List Nat) (z : Nat × List (Nat × Int)), (∀ i ∈ o, i < p.th.length) → z.1 < sizeT p.t → (∀ u ∈ z.2, 0 ≤ u.2 ∧ u.2 ≤ 99) → ∀ u ∈ (o.foldl (stP p.t p.th) z).2, 0 ≤ u.2 ∧ u.2 ≤ 99 := fun o => by
    induction o with
    | nil => intro z _ _ h; exact h
    | cons i o ih =>
      intro z h hz hu
      rw [List.foldl_cons]
      obtain ⟨x, c, hx, _, hm, _, h1, h2⟩ := row_step okt ok (h i List.mem_cons_self) hz
      obtain ⟨_, _, _, b1, b2⟩ := (fine_of okt hm).fine z.1 hz
      refine ih _ (fun j hj => h j (List.mem_cons_of_mem _ hj)) ?_ ?_
      · unfold stP
        dsimp only
        rw [h1, Int.toNat_natCast]
        exact h2
      · unfold stP
        intro u hu2
        rcases List.mem_append.mp hu2 with z' | z'
        · exact hu u z'
        · rw [List.mem_singleton.mp z']
          exact ⟨b1, b2⟩
  exact gen o _ h ok.s fun _ h => nomatch h
theorem ansAt_le {l : List (Nat × Int)} (h : ∀ z ∈ l, 0 ≤ z.2 ∧ z.2 ≤ 99) (y : Int) : 0 ≤ ansAt l y ∧ ansAt l y ≤ 99 := by
  unfold ansAt
  cases hf : l.find? fun z => decide ((z.1 : Int) = y) with
  | none => exact ⟨by decide, by decide⟩
  | some z => exact h z (List.mem_of_find?_eq_some hf)
theorem two_digs : ∀ n : Nat, n < 100 → (Str.ofString (toString (n : Int))).length ≤ 2 ∧ ((n : Int)).natAbs.log2 < 1920 := by decide +kernel
theorem two_digI {i : Int} (h0 : 0 ≤ i) (h1 : i ≤ 99) : (toString i : Str).length ≤ 2 ∧ i.natAbs.log2 < 1920 := by
  obtain ⟨n, rfl⟩ := Int.eq_ofNat_of_zero_le h0
  exact two_digs n (by omega)
theorem up_one : ∀ {xs ys : List Int}, xs.Perm ys → xs.Pairwise (· ≤ ·) → ys.Pairwise (· ≤ ·) → xs = ys
  | [], ys, p, _, _ => (List.nil_perm.mp p).symm
  | x :: xs, [], p, _, _ => absurd p.length_eq (by simp)
  | x :: xs, y :: ys, p, h1, h2 => by
    obtain ⟨a1, a2⟩ := List.pairwise_cons.mp h1
    obtain ⟨b1, b2⟩ := List.pairwise_cons.mp h2
    have e : x = y := by
      have hx : x ≤ y := by
        rcases List.mem_cons.mp (p.mem_iff.mpr List.mem_cons_self) with z | z
        · omega
        · exact a1 y z
      have hy : y ≤ x := by
        rcases List.mem_cons.mp (p.mem_iff.mp List.mem_cons_self) with z | z
        · omega
        · exact b1 x z
      omega
    subst e
    rw [up_one (List.perm_cons x |>.mp p) a2 b2]
/-- the numbers of a dict of answers -/
def ansN (l : List (Nat × Int)) (ys : List Int) : List (Int × Int) := ys.map fun y => (y, ansAt l y)
theorem ansN_kvs (l : List (Nat × Int)) (ys : List Int) : numsK (ansN l ys) = ys.map fun y => ((Sum.inl y : L2.Key), V.int (ansAt l y)) := by
  unfold numsK ansN
  rw [List.map_map]
  rfl
theorem AnsD.one {l : List (Nat × Int)} {ys : List Int} {kvs : List (L2.Key × V)} (pm : ys.Perm (iN (l.map (·.1)))) (up : ys.Pairwise (· ≤ ·)) (h : AnsD l kvs) : kvs = numsK (ansN l ys) := by
  obtain ⟨ys', pm', up', rfl⟩ := h
  rw [up_one (pm'.trans pm.symm) up' up, ansN_kvs]
theorem ansN_nd {l : List (Nat × Int)} {ys : List Int} (nd : (l.map (·.1)).Nodup) (pm : ys.Perm (iN (l.map (·.1)))) : ((ansN l ys).map (·.1)).Nodup := by
  have e : (ansN l ys).map (·.1) = ys := by
    unfold ansN
    rw [List.map_map]
    exact List.map_id _
  rw [e]
  refine pm.symm.nodup ?_
  unfold iN
  exact List.pairwise_map.mpr (nd.imp fun h e => h (by omega))
structure FineN (n : Int) (l : List (Int × Int)) : Prop where
  hn : n.natAbs.log2 < 1920
  hl : ∀ z ∈ l, z.1.natAbs.log2 < 1920 ∧ z.2.natAbs.log2 < 1920
  hs : (PyData.tuple [.int n, numsD l]).shown.length ≤ 100000
theorem fineN_ans {s : Nat} {l : List (Nat × Int)} {ys : List Int} (hs : s < 13) (pm : ys.Perm (iN (l.map (·.1)))) (hk : ∀ z ∈ l, z.1 < 6) (ha : ∀ z ∈ l, 0 ≤ z.2 ∧ z.2 ≤ 99) (few : l.length ≤ 6) : FineN (s : Int) (ansN l ys) := by
  have hz : ∀ z ∈ ansN l ys, ((toString z.1 : Str).length ≤ 2 ∧ z.1.natAbs.log2 < 1920) ∧ ((toString z.2 : Str).length ≤ 2 ∧ z.2.natAbs.log2 < 1920) := fun z hz => by
    obtain ⟨y, hy, rfl⟩ := List.mem_map.mp hz
    obtain ⟨n, hn, rfl⟩ := List.mem_map.mp (pm.mem_iff.mp hy)
    obtain ⟨u, hu, rfl⟩ := List.mem_map.mp hn
    have := hk u hu
    have a := ansAt_le ha (u.1 : Int)
    exact ⟨two_digI (i := (u.1 : Int)) (by omega) (by omega), two_digI a.1 a.2⟩
  have hf := fine12 s hs
  refine ⟨hf.2, fun z h => ⟨(hz z h).1.2, (hz z h).2.2⟩, ?_⟩
  have h1 := numsD_few (m := 2) (l := ansN l ys) fun z h => ⟨(hz z h).1.1, (hz z h).2.1⟩
  have ly : (ansN l ys).length = l.length := by
    unfold ansN
    rw [List.length_map, pm.length_eq, iN, List.length_map, List.length_map]
  rw [ly] at h1
  have := tupD_few (m := 1000) (ds := [.int (s : Int), numsD (ansN l ys)]) fun d hd => by
    simp only [List.mem_cons, List.not_mem_nil, or_false] at hd
    rcases hd with rfl | rfl
    · exact Nat.le_trans hf.1 (by decide)
    · omega
  exact Nat.le_trans this (by show 2 * (1000 + 2) + 3 ≤ 100000; decide)
def PrI (l : List (Nat × Int)) (y : Int) (v : V) (H : Hp) : Prop := ∃ pt, v = .ref pt ∧ H pt = some (.tup [.int y, .int (ansAt l y)])
theorem pri_mono {l : List (Nat × Int)} : ∀ z v (H H' : Hp), TupS H H' → PrI l z v H → PrI l z v H' := fun _ _ _ _ e ⟨pt, h1, h2⟩ => ⟨pt, h1, e _ _ h2⟩
theorem pairsI_of {K : PySem.W.Frag} {H : Hp} {l : List (Nat × Int)} {vs : List V} {ys : List Int} (h : Paired (fun v y => PrI l y v H) vs ys) : ∃ ts : List Addr, vs = ts.map V.ref ∧ Paired (fun p kv => SqT K H p [kV kv.1, kv.2]) ts (numsK (ansN l ys)) := by
  induction h with
  | nil => exact ⟨[], rfl, .nil⟩
  | cons r _ ih =>
    obtain ⟨ts, rfl, h1⟩ := ih
    obtain ⟨pt, rfl, h3⟩ := r
    exact ⟨pt :: ts, rfl, .cons (SqT.of h3) h1⟩
theorem ansK_keys (l : List (Nat × Int)) : (ansK l).map (·.1) = (iN (l.map (·.1))).map Sum.inl := by
  unfold ansK iN
  rw [List.map_map, List.map_map, List.map_map]
  rfl
theorem ansN_keys {l : List (Nat × Int)} {ys : List Int} (nd : ys.Nodup) : ((numsK (ansN l ys)).map (·.1)).Nodup := by
  rw [ansN_kvs, List.map_map]
  exact List.pairwise_map.mpr (nd.imp fun h e => h (Sum.inl.inj e))
theorem iN_nd {l : List Nat} (nd : l.Nodup) : (iN l).Nodup := by
  unfold iN
  exact List.pairwise_map.mpr (nd.imp fun h e => h (by omega))
section
variable {σ : L2.St} {H : Hp} {te : TE} {r : List V → Hp → VK → Prop} {Q : VK}
theorem cb1 (h : te σ H fun v H1 => r [v] H1 Q) : tCB r (tCons te tNil) σ H Q := h
end
/-! ### parts while there are draws -/
def PartsA (H : Hp) (a d : Addr) (x y : V) (p : Pl) : Prop := H a = some (.lst [.ref d, .int (p.s : Int), x, y]) ∧ DictV H (.ref d) p.t ∧ TeamV H x p.f ∧ TeamV H y p.g ∧ p.Ok
theorem PartsA.v {H : Hp} {a d : Addr} {x y : V} {p : Pl} (h : PartsA H a d x y p) : PartsV H (.ref a) p := ⟨a, d, x, y, rfl, h⟩
theorem PartsA.keep {H H' : Hp} {a d : Addr} {x y : V} {p : Pl} (h : PartsA H a d x y p) (e : Same H H') : PartsA H' a d x y p := ⟨e _ _ h.1, h.2.1.keep e, h.2.2.1.keep e, h.2.2.2.1.keep e, h.2.2.2.2⟩
theorem PartsA.kl {l : Addr} {H H' : Hp} {a d : Addr} {x y : V} {p : Pl} (va : VatV H l) (k : KL l H H') (na : a ≠ l) (nd : d ≠ l) (h : PartsA H a d x y p) : PartsA H' a d x y p :=
  ⟨k.1 _ _ h.1 na, DictV.kl va k nd h.2.1, h.2.2.1.kl va k, h.2.2.2.1.kl va k, h.2.2.2.2⟩
section
variable {C CP : Addr}
theorem PlanK.keep {H H' : Hp} {v k : V} {p : Pl} (h : PlanK C CP H v p k) (e : Same H H') : PlanK C CP H' v p k := by
  obtain ⟨a, dx, tm, p1, p2, th, e1, e2, e3, e4, e5, e6, e7, e8⟩ := h
  exact ⟨a, dx, tm, p1, p2, th, e1, e _ _ e2, e3.keep e, e _ _ e4, e5.keep e, e6.keep e, e _ _ e7, e8⟩
theorem PlanK.kl {H H' : Hp} {v k : V} {p : Pl} {l : Addr} (va : VatV H l) (kl : KL l H H') (h : PlanK C CP H v p k) : PlanK C CP H' v p k := by
  obtain ⟨a, dx, tm, p1, p2, th, e1, e2, e3, e4, e5, e6, e7, e8⟩ := h
  have ne : ∀ {b : Addr} {o : HO}, H b = some o → (∀ xs, o ≠ .lst xs) → b ≠ l := fun e n z => by
    obtain ⟨_, _, _, e'⟩ := va
    rw [z, e'] at e
    cases e
    exact n _ rfl
  exact ⟨a, dx, tm, p1, p2, th, e1, kl.1 _ _ e2 (ne e2 fun xs z => by cases z), e3.kl va kl, kl.1 _ _ e4 (ne e4 fun xs z => by cases z), e5.kl va kl, e6.kl va kl, kl.1 _ _ e7 (ne e7 fun xs z => by cases z), e8⟩
theorem KFresh.kl {H0 H H' : Hp} {v : V} {t : Tab} {l : Addr} (va : VatV H l) (kl : KL l H H') (hk : KindV C H v t) (h : KFresh C H0 H v) : KFresh C H0 H' v := by
  refine KFresh.keep hk (fun a o ev ha => kl.1 _ _ ha fun z => ?_) h
  obtain ⟨b, _, _, _, e2, hb, _⟩ := hk
  subst ev
  cases e2
  obtain ⟨_, _, _, e'⟩ := va
  rw [z, e'] at hb
  cases hb
theorem ev_planofN {σ : L2.St} {H : Hp} {te : TE} {p : Pl} (h : Ev te σ H fun v H1 => PartsV H1 v p) : Ev (tCall (sp_planofN C CP) [] E0 (tCons te tNil)) σ H fun v H1 => ∃ t1 k, t1.Perm p.t ∧ PlanK C CP H1 v ⟨t1, p.s, p.f, p.g⟩ k ∧ KFresh C H H1 k := fun Q q =>
  h _ fun v H1 e1 hv => ⟨v, p, rfl, hv, fun z t1 k H2 e2 pm pk fr => q _ _ (e1.trans e2) ⟨t1, k, pm, pk, fr.old e1⟩⟩
theorem ev_played {σ : L2.St} {H : Hp} {te ta : TE} {p : Pl} {o : List Nat} (h : Ev te σ H fun v H1 => PlanV C CP H1 v p) (h2 : ∀ H1, Same H H1 → Ev ta σ H1 fun v H2 => ∃ r, v = .ref r ∧ Rd H2 r (.tup (natV o))) (oo : OrdOk p o) : Ev (tMeth CP "played" (sp_played C CP) [] E0 te (tCons ta tNil)) σ H fun v H1 => ∃ r d kvs, v = .ref r ∧ H d = none ∧ H1 r = some (.tup [.int ((playP p.t p.th p.s o).1 : Int), .ref d]) ∧ H1 d = some (.dK kvs) ∧ AnsD (playP p.t p.th p.s o).2 kvs := fun Q q =>
  h _ fun v H1 e1 hv => by
    obtain ⟨a, dx, _, _, _, _, _, rfl, ha, _⟩ := id hv
    refine ⟨a, dx, _, rfl, ha, pf_no _ _ _ _, h2 H1 e1 _ fun u H2 e2 hu => ?_⟩
    obtain ⟨r, rfl, hr⟩ := hu
    exact ⟨.ref a, p, r, o, rfl, hv.keep e2, hr, oo, fun r2 d kvs H3 e3 nd hr2 hd hk => q _ _ (e1.trans (e2.trans e3)) ⟨r2, d, kvs, rfl, (e1.trans e2).free nd, hr2, hd, hk⟩⟩
theorem ev_isord {σ : L2.St} {H : Hp} {te ta : TE} {p : Pl} {o : List Nat} (h : Ev te σ H fun v H1 => PlanV C CP H1 v p) (h2 : ∀ H1, Same H H1 → Ev ta σ H1 fun v H2 => ∃ r, v = .ref r ∧ Rd H2 r (.tup (natV o))) (oo : OrdOk p o) : Ev (tMeth CP "is_order" (sp_isord C CP) [] E0 te (tCons ta tNil)) σ H fun v _ => v = .bl true := fun Q q =>
  h _ fun v H1 e1 hv => by
    obtain ⟨a, dx, _, _, _, _, _, rfl, ha, _⟩ := id hv
    refine ⟨a, dx, _, rfl, ha, pf_no _ _ _ _, h2 H1 e1 _ fun u H2 e2 hu => ?_⟩
    obtain ⟨r, rfl, hr⟩ := hu
    exact ⟨.ref a, p, r, o, rfl, hv.keep e2, hr, oo, fun H3 e3 => q _ _ (e1.trans (e2.trans e3)) rfl⟩
/-- repr of anything that is shown -/
theorem ev_reprR {K : PySem.W.Frag} {σ : L2.St} {H : Hp} {te : TE} {d : PyData} (s : d.shown.length ≤ 100000) (h : Ev te σ H fun v H1 => RepV K H1 v d) : Ev (tCB (fun xs H Q => ∃ v d, xs = [v] ∧ RepV K H v d ∧ d.shown.length ≤ sizeLine ∧ Q (.str d.shown) H) (tCons te tNil)) σ H fun v _ => v = .str d.shown := fun Q q =>
  h _ fun v H1 e1 hv => ⟨v, d, rfl, hv, sz_le s, q _ _ e1 rfl⟩
theorem ev_isordX {K : PySem.W.Frag} {σ : L2.St} {H : Hp} {te ta : TE} {p : Pl} {u : V} {b : Bool} (h : Ev te σ H fun v H1 => PlanV C CP H1 v p) (h2 : ∀ H1, Same H H1 → Ev ta σ H1 fun v H2 => v = u ∧ OrdW K H2 u p.th.length b) : Ev (tMeth CP "is_order" (sp_isordX K C CP) [] E0 te (tCons ta tNil)) σ H fun v _ => v = .bl b := fun Q q =>
  h _ fun v H1 e1 hv => by
    obtain ⟨a, dx, _, _, _, _, _, rfl, ha, _⟩ := id hv
    refine ⟨a, dx, _, rfl, ha, pf_no _ _ _ _, h2 H1 e1 _ fun u' H2 e2 hu => ?_⟩
    obtain ⟨rfl, ho⟩ := hu
    exact ⟨.ref a, _, p, b, rfl, hv.keep e2, ho, fun H3 e3 => q _ _ (e1.trans (e2.trans e3)) rfl⟩
theorem ev_ldue {K : PySem.W.Frag} {σ : L2.St} {H : Hp} {te ta : TE} {m : Nat} {u : V} {b : Bool} (h : Ev te σ H fun v _ => v = u) (h2 : ∀ H1, Same H H1 → Ev ta σ H1 fun v H2 => v = .int (m : Int) ∧ OrdW K H2 u m b ∧ DatW K H2 u) (hm : m ≤ 100) : Ev (tCall (sp_ldue K) [] E0 (tCons te (tCons ta tNil))) σ H fun v _ => v = .bl b := fun Q q =>
  h _ fun v H1 e1 hv => h2 H1 e1 _ fun w H2 e2 hw => by
    subst hv
    obtain ⟨rfl, ho, hd⟩ := hw
    exact ⟨v, m, b, rfl, ho, hd, hm, fun H3 e3 => q _ _ (e1.trans (e2.trans e3)) rfl⟩
theorem rep_bl {K : PySem.W.Frag} {H : Hp} (b : Bool) : RepV K H (.bl b) (.bool b) := .dat (.bl b) rfl rfl (by show 0 ≤ 30; decide)
theorem bl_shown (b : Bool) : (PyData.bool b).shown.length ≤ 100000 := by cases b <;> decide +kernel
/-- plan == plan -/
theorem ev_peqQ {K : PySem.W.Frag} {σ : L2.St} {H : Hp} {ta tb : TE} {t1 t2 : Tab} {p r : Pl} (pm1 : t1.Perm p.t) (pm2 : t2.Perm r.t) (h1 : Ev ta σ H fun v H1 => PlanV C CP H1 v ⟨t1, p.s, p.f, p.g⟩) (h2 : ∀ H1, Same H H1 → Ev tb σ H1 fun v H2 => PlanV C CP H2 v ⟨t2, r.s, r.f, r.g⟩) : Ev (tOp (rEqO CP (sp_peqX K C CP) false) ta tb) σ H fun v _ => v = .bl (p.eqv r) := fun Q q =>
  h1 _ fun v H1 e1 hv => h2 H1 e1 _ fun u H2 e2 hu => by
    have hv2 := hv.keep e2
    obtain ⟨a, dx, _, _, _, _, _, rfl, ha, _⟩ := id hv2
    obtain ⟨b, dy, _, _, _, _, _, rfl, hb, _⟩ := id hu
    refine ⟨a, b, dx, dy, _, _, rfl, rfl, ha, hb, .ref a, .ref b, _, rfl, hv2, .inl ⟨_, hu, _, rfl, q _ _ (e1.trans e2) ?_⟩⟩
    unfold Pl.eqv
    dsimp only
    rw [sameT_perm pm1 pm2]
    rfl
theorem ev_partsEq {σ : L2.St} {H : Hp} {ta tb : TE} {p r : Pl} (h1 : Ev ta σ H fun v H1 => PartsV H1 v p) (h2 : ∀ H1, Same H H1 → Ev tb σ H1 fun v H2 => PartsV H2 v r) : Ev (tOp rPartsEq ta tb) σ H fun v _ => v = .bl (p.eqv r) := fun Q q =>
  h1 _ fun v H1 e1 hv => h2 H1 e1 _ fun u H2 e2 hu => ⟨p, r, hv.keep e2, hu, q _ _ (e1.trans e2) rfl⟩
/-- plan == what is no plan -/
theorem ev_peqN {K : PySem.W.Frag} {σ : L2.St} {H : Hp} {ta tb : TE} {p : Pl} {tb' : Value} (nf : PySem.W.notFirst K CP tb' = true) (h1 : Ev ta σ H fun v H1 => PlanV C CP H1 v p) (h2 : ∀ H1, Same H H1 → Ev tb σ H1 fun v H2 => ∃ b, v = .ref b ∧ OtherV H2 b tb' ∧ NoPlan K CP H2 v) : Ev (tOp (rEqX K CP (sp_peqX K C CP)) ta tb) σ H fun v _ => v = .bl false := fun Q q =>
  h1 _ fun v H1 e1 hv => h2 H1 e1 _ fun u H2 e2 hu => by
    obtain ⟨b, rfl, ho, hn⟩ := hu
    have hv2 := hv.keep e2
    obtain ⟨a, dx, _, _, _, _, _, rfl, ha, _⟩ := id hv2
    exact ⟨a, b, dx, _, tb', rfl, rfl, ha, ho, nf, .ref a, .ref b, p, rfl, hv2, .inr ⟨hn, false, rfl, q _ _ (e1.trans e2) rfl⟩⟩
theorem ev_ops {σ : L2.St} {H : Hp} {te : TE} {t : Tab} (h : Ev te σ H fun v H1 => KindV C H1 v t) : Ev (tProp C (sp_ops C) [] E0 te) σ H fun v H1 => DictV H1 v t := fun Q q =>
  h _ fun v H1 e1 hk => by
    obtain ⟨a, dx, _, _, rfl, ha, _⟩ := id hk
    have okk := hk.ok
    exact ⟨a, dx, _, rfl, ha, .ref a, t, rfl, hk, fun p kvs hp hT => q _ _ (e1.trans (same_new hp)) ⟨p, kvs, rfl, upd_same, hT.mono (tups_of (same_new hp)), okk.2.1, okk.1⟩⟩
theorem ev_tailL {K : PySem.W.Frag} {σ : L2.St} {H : Hp} {te : TE} {xs : List V} {k : Nat} (few : k ≤ xs.length) (h : Ev te σ H fun v H1 => ∃ a, v = .ref a ∧ H1 a = some (.lst xs)) : Ev (tSl (rSlL K) te (tPart (tC (.int (k : Int)))) tNoPart) σ H fun v H1 => ∃ a, v = .ref a ∧ H1 a = some (.lst (xs.drop k)) := fun Q q =>
  h _ fun v H1 e1 hv => by
    obtain ⟨a, rfl, ha⟩ := hv
    refine ⟨(k : Int), rfl, a, xs, rfl, SqL.of ha, fun p hp => q _ _ (e1.trans (same_new hp)) ⟨p, rfl, ?_⟩⟩
    rw [upd_same, cut_drop few]
/-- what stands behind the handed-in dict's end -/
theorem PartsA.put {H : Hp} {a d : Addr} {x y : V} {p : Pl} {o : HO} (h : PartsA H a d x y p) : upd H d o a = some (.lst [.ref d, .int (p.s : Int), x, y]) ∧ TeamV (upd H d o) x p.f ∧ TeamV (upd H d o) y p.g := by
  obtain ⟨ha, hd, hx, hy, ok⟩ := h
  obtain ⟨_, kvs, e, hdd, _⟩ := hd
  cases e
  have st : ∀ {b : Addr} {u : HO}, H b = some u → (∀ l, u ≠ .dK l) → upd H d o b = some u := fun {b u} e n => by
    have : b ≠ d := fun z => by
      rw [z, hdd] at e
      cases e
      exact n _ rfl
    rw [upd_ne this]
    exact e
  have tv : ∀ {u : V} {l : List Str}, TeamV H u l → TeamV (upd H d o) u l := fun ⟨r, e, h⟩ => ⟨r, e, h.imp (fun e => st e fun _ z => nomatch z) fun ⟨w, e⟩ => ⟨w, st e fun _ z => nomatch z⟩⟩
  exact ⟨st ha (fun _ z => nomatch z), tv hx, tv hy⟩
/-- two that are played, compared -/
theorem ev_eqPly {σ : L2.St} {H : Hp} {ta tb : TE} {G : Nat × List (Nat × Int)} (nd : (G.2.map (·.1)).Nodup) (h1 : Ev ta σ H fun v H1 => ∃ r d kvs, v = .ref r ∧ H1 r = some (.tup [.int (G.1 : Int), .ref d]) ∧ H1 d = some (.dK kvs) ∧ AnsD G.2 kvs) (h2 : ∀ H1, Same H H1 → Ev tb σ H1 fun v H2 => ∃ r d kvs, v = .ref r ∧ H2 r = some (.tup [.int (G.1 : Int), .ref d]) ∧ H2 d = some (.dK kvs) ∧ AnsD G.2 kvs) : Ev (tOp rEqPly ta tb) σ H fun v _ => v = .bl true := fun Q q =>
  h1 _ fun v H1 e1 hv => h2 H1 e1 _ fun u H2 e2 hu => by
    obtain ⟨r, d, kvs, rfl, hr, hd, hA⟩ := hv
    obtain ⟨r', d', kvs', rfl, hr', hd', hA'⟩ := hu
    obtain ⟨ys, pm, up, rfl⟩ := hA
    rw [hA'.one pm up] at hd'
    rw [← ansN_kvs] at hd
    exact ⟨(G.1 : Int), ansN G.2 ys, ansN_nd nd pm, ⟨r, d, rfl, e2 _ _ hr, e2 _ _ hd⟩, ⟨r', d', rfl, hr', hd'⟩, q _ _ (e1.trans e2) rfl⟩
end
end Tm

/-! _law_all_right. -/
namespace Tm
open PySem PySem.Spec PyProof.Rows L2 TmE TmQ
local macro_rules | `(tactic| walk_at "x") => `(tactic| dsimp only [tNext, tRet, tSeq, tCall, tCB, tC, tCons, tNil, tAsg, tDrop, sFld])
section
variable {P : Program} {w : World} {K : PySem.W.Frag} {mg : Str → Option Value} {base : Heap} {C CP : Addr}
abbrev s_allr : Stmt := top 50
abbrev NA : List Str := ["_law_purse", "_law_parts", "_law_order", "_law_turn", "_law_other", "_law_told", "_law_size", "_law_due", "_law_found", "_law_value", "_law_text", "_law_state", "_law_answers", "_law_one"]
theorem sc_allr : FnScope NA ["_law_purse"] (defScope s_allr) := ⟨rfl, rfl, rfl, by decide +kernel, rfl, by decide +kernel, by decide +kernel⟩
def sp_allr : Sp := fun vs H Q _ => ∃ l : Addr, vs = [.ref l] ∧ VatV H l ∧ ∀ H', KL l H H' → Q (.bl true) H'
theorem ok_allr (B : Bt mg) (T : Kc K C) (TP : Kp K CP) (hrepr : mg "repr" = none) (nl : PySem.W.notFirst K CP (.type "list") = true) (nC : PySem.W.notFirst K CP (.ref C) = true) (kl : PySem.W.kitOne K (.type "list") (.ref CP) = some false) (kC : ∀ H k t, KindV C H k t → NoPlan K CP H k)
    (OS_peq : OkS P w K mg base CP "__eq__" 2 ["self", "other"] (sp_peqX K C CP)) (OP_kind : OkP P w K mg base CP "kind" 1 (sp_pkind C CP)) (OP_operations : OkP P w K mg base C "operations" 1 (sp_ops C))
    (OM_is_order : OkM P w K mg base CP "is_order" 2 ["self", "value"] (sp_isord C CP)) (OM_is_orderX : OkM P w K mg base CP "is_order" 2 ["self", "value"] (sp_isordX K C CP)) (OM_played : OkM P w K mg base CP "played" 4 ["self", "order"] (sp_played C CP))
    (O_law_plan_drawn : Ok P w K mg base "_law_plan_drawn" 4 ["_law_purse", "_law_size", "_law_few", "_law_threads"] sp_pdrawn) (O_law_plan_of : Ok P w K mg base "_law_plan_of" 7 ["_law_parts"] (sp_planofN C CP)) (O_law_orders : Ok P w K mg base "_law_orders" 1 ["_law_size"] sp_lords)
    (O_law_play : Ok P w K mg base "_law_play" 1 ["_law_parts", "_law_order"] sp_lplay) (O_law_near_order : Ok P w K mg base "_law_near_order" 3 ["_law_purse", "_law_size"] sp_lnear) (O_law_is_order_due : Ok P w K mg base "_law_is_order_due" 1 ["_law_value", "_law_size"] (sp_ldue K))
    (D : Df K mg "_law_all_right" s_allr ["_law_purse"]) : OkG P w K mg base "_law_all_right" 9 sp_allr := by
  refine D.okGn sc_allr (fun vs H Q E h => ?_) (fun f cdv A outer s H vs Q E hr gu h => ?_)
  · obtain ⟨l, rfl, _⟩ := h
    rfl
  · obtain ⟨l, rfl, hv, q⟩ := h
    have hu := hu_of hr
    have hu100 : (A.deeper (envOfC "_law_all_right" (defScope s_allr) s.heap.objs.size f cdv)).units + 100 < cLine := by
      have := hr.un
      omega
    have hu70 : (A.deeper (envOfC "_law_all_right" (defScope s_allr) s.heap.objs.size f cdv)).units + 70 < cLine := by omega
    have hu10 : (A.deeper (envOfC "_law_all_right" (defScope s_allr) s.heap.objs.size f cdv)).units + 10 < cLine := by omega
    refine ⟨_, pss_cons (ps_set (i := 1) sc_allr.nd rfl (.inl rfl) (O_law_plan_drawn.call hr (ha := pa_cons (pv 0) (pa_cons (pe_int) (pa_cons (pe_int) (pa_cons (pe_int) (pa_nil)))))))
      (pss_cons (ps_par (i := 5) (j := 6) (by rfl) sc_allr.nd rfl rfl (by decide) rfl rfl (pa_cons (O_law_plan_of.call hr (ha := pa_cons (pv 1) (pa_nil))) (pa_cons (pe_callB (lenK (K := K)) (by rfl) B.len (by decide +kernel) (pa_cons (pe_op (op_catAK (K := K)) (pe_ix (ixLK (K := K)) (pv 1) (pe_int) (fun _ _ => rfl)) (pe_ix (ixLK (K := K)) (pv 1) (pe_int) (fun _ _ => rfl))) (pa_nil))) (pa_nil))) (by rfl))
      (pss_cons (ps_for PassesOwn.never rfl (pi_list (O_law_orders.call hr (ha := pa_cons (pv 6) (pa_nil)))) (pg_name (i := 2) sc_allr.nd rfl (.inl rfl))
        (pss_cons (ps_asg (O_law_play.call hr (ha := pa_cons (pv 1) (pa_cons (pv 2) (pa_nil)))) (pg_lst (by rfl) (pgs_cons (pg_name (i := 11) sc_allr.nd rfl (.inl rfl)) (pgs_cons (pg_name (i := 12) sc_allr.nd rfl (.inr rfl)) (pgs_nil)))))
      (pss_cons (ps_set (i := 7) sc_allr.nd rfl (.inl rfl) (pe_tup (pa_cons (pv 11) (pa_cons (pe_callTy (call_dictP rfl) (by rfl) B.dict (by decide +kernel) (pa_cons (pe_lc (own := [("_law_one", 13)]) (g := gName 13) (tt := tYes) rfl sc_allr.nd (pi_list (pe_callB (call_sortedDI rfl) (by rfl) B.sorted (by decide +kernel) (pa_cons (pv 12) (pa_nil)))) (blkOk_by (own := [("_law_one", 13)]) (N := NA) (sc := defScope s_allr) (by decide +kernel)) (fun _ _ _ _ _ => pg_name (i := 13) sc_allr.nd rfl (.inl rfl)) (fun _ _ _ _ _ => pts_nil) (fun _ _ _ _ _ => pe_tup (pa_cons (pv 13) (pa_cons (pe_dget hu (pv 12) (pv 13) (fun _ _ => rfl)) (pa_nil))))) (pa_nil))) (pa_nil)))))
      (pss_cons (ps_set (i := 8) sc_allr.nd rfl (.inl rfl) (OM_played.call hr TP.cl (he := pv 5) (ha := pa_cons (pv 2) (pa_nil))))
      (pss_cons (ps_if (PW.pt (pw_or (pt_cmpR op_ne (pe_callB (call_reprQ (K := K) (by exact gu) hu100) (by rfl) hrepr (by decide +kernel) (pa_cons (pv 8) (pa_nil))) (pe_callB (call_reprQ (K := K) (by exact gu) hu100) (by rfl) hrepr (by decide +kernel) (pa_cons (pv 7) (pa_nil))) (nomark _)) (pw_or1 (pt_not (pt_val (OM_is_order.call hr TP.cl (he := pv 5) (ha := pa_cons (pv 2) (pa_nil))))))))
        (pss_one (ps_ret (pe_bl)))
        (pss_nil))
      (pss_one (ps_expr (pe_dclear (pe_ix (ixTK (K := K)) (pv 8) (pe_int) (fun _ _ => rfl)))))))))) 
      (pss_cons (ps_for PassesOwn.never rfl (pi_range1 (by rfl) B.range (pa_cons (pe_int) (pa_nil))) (pg_name (i := 3) sc_allr.nd rfl (.inl rfl))
        (pss_cons (ps_set (i := 9) sc_allr.nd rfl (.inl rfl) (O_law_near_order.call hr (ha := pa_cons (pv 0) (pa_cons (pv 6) (pa_nil)))))
      (pss_cons (ps_set (i := 10) sc_allr.nd rfl (.inl rfl) (pe_callB (call_reprQ (K := K) (by exact gu) hu100) (by rfl) hrepr (by decide +kernel) (pa_cons (pv 9) (pa_nil))))
      (pss_one (ps_if (PW.pt (pw_or (pt_cmpR op_ne (pe_callB (call_reprQ (K := K) (by exact gu) hu100) (by rfl) hrepr (by decide +kernel) (pa_cons (OM_is_orderX.call hr TP.cl (he := pv 5) (ha := pa_cons (pv 9) (pa_nil))) (pa_nil))) (pe_callB (call_reprQ (K := K) (by exact gu) hu100) (by rfl) hrepr (by decide +kernel) (pa_cons (O_law_is_order_due.call hr (ha := pa_cons (pv 9) (pa_cons (pv 6) (pa_nil)))) (pa_nil))) (nomark _)) (pw_or1 (pt_cmpR op_ne (pe_callB (call_reprQ (K := K) (by exact gu) hu100) (by rfl) hrepr (by decide +kernel) (pa_cons (pv 9) (pa_nil))) (pv 10) (nomark _)))))
        (pss_one (ps_ret (pe_bl)))
        (pss_nil))))))
      (pss_cons (ps_set (i := 4) sc_allr.nd rfl (.inl rfl) (O_law_plan_drawn.call hr (ha := pa_cons (pv 0) (pa_cons (pe_int) (pa_cons (pe_int) (pa_cons (pe_int) (pa_nil)))))))
      (pss_cons (ps_if (PW.pt (pw_or (pt_cmpR op_ne (pe_cmpR (op_eqO OS_peq (hr.mono (by decide))) (O_law_plan_of.call hr (ha := pa_cons (pv 4) (pa_nil))) (pv 5) (nomark _)) (pe_cmpR (op_eqParts hu70) (pv 4) (pv 1) (nomark _)) (nomark _)) (pw_or (pt_cmpR (op_eqX OS_peq (hr.mono (by decide))) (pv 5) (pv 1) (nomark _)) (pw_or1 (pt_cmpR (op_eqX OS_peq (hr.mono (by decide))) (pv 5) (OP_kind.get hr TP.cl (he := pv 5)) (nomark _))))))
        (pss_one (ps_ret (pe_bl)))
        (pss_nil))
      (pss_cons (ps_expr (pe_dclear (pe_ix (ixLK (K := K)) (pv 1) (pe_int) (fun _ _ => rfl))))
      (pss_one (ps_ret (pe_cmpR (op_eqPly hu10) (OM_played.call hr TP.cl (he := pv 5) (ha := pa_cons (pe_tup (pa_cons (pe_int) (pa_nil))) (pa_nil))) (OM_played.call hr TP.cl (he := O_law_plan_of.call hr (ha := pa_cons (pe_op op_cat (pe_lst (pa_cons (OP_operations.get hr T.cl (he := OP_kind.get hr TP.cl (he := pv 5))) (pa_nil))) (pe_slice sl_list (pv 1) (po_some (pe_int)) (po_none))) (pa_nil))) (ha := pa_cons (pe_tup (pa_cons (pe_int) (pa_nil))) (pa_nil))) (nomark _)))))))))), ?_⟩
    dsimp only [tSeq]
    refine ⟨_, rfl, l, 5, 3, 4, rfl, hv, by decide, by decide, by decide, by decide, by decide, by decide, fun a d x y p H1 k1 ha na0 nd0 ndl hd hx hy ok lth _ _ => ?_⟩
    have na : a ≠ l := vat_ne hv na0
    have hP : PartsA H1 a d x y p := ⟨ha, hd, hx, hy, ok⟩
    clear ha hd hx hy
    have hv1 := k1.2
    dsimp only [gName]
    try dsimp only [tSeq]
    have few : p.f.length + p.g.length ≤ 6 := ok.few
    have lt : p.th.length = p.f.length + p.g.length := List.length_append
    have okt := hP.2.1.ok.1
    have ndt := hP.2.1.ok.2
    refine par_go (P := fun v H2 => ∃ t1 k, t1.Perm p.t ∧ PlanK C CP H2 v ⟨t1, p.s, p.f, p.g⟩ k ∧ KFresh C H1 H2 k) (P2 := fun v _ => v = .int (p.th.length : Int)) (ev_planofN (ev_is rfl hP.v)) (fun v H2 e2 _ => ev_lenT (K := K) (ev_thP (K := K) (i := 1) rfl (e2 _ _ hP.1) (hP.2.2.1.keep e2) (hP.2.2.2.1.keep e2) few)) (fun v w H2 H3 e2 e3 hv2 hw => ?_)
    subst hw
    obtain ⟨t1, k, pm, pk2, fr2⟩ := hv2
    obtain ⟨pa, hpa⟩ : ∃ pa, v = .ref pa := by
      obtain ⟨pa, _, _, _, _, _, e, _⟩ := id pk2
      exact ⟨pa, e⟩
    subst hpa
    have pk := pk2.keep e3
    have fr : KFresh C H1 H3 k := KFresh.keep pk2.kind (fun _ _ _ h => e3 _ _ h) fr2
    have e13 := e2.trans e3
    have hP3 := hP.keep e13
    have k3 := k1.trans (KL.of k1.2 e13)
    have hd0 : ∃ o, H1 d = some o := by
      obtain ⟨_, kvs, e, h, _⟩ := hP.2.1
      cases e
      exact ⟨_, h⟩
    clear pk2 fr2 e2 e3 hP k1 hv
    try dsimp only [tSeq]
    refine ⟨_, rfl, p.th.length, rfl, lth, fun a4 H4 os e4 ha4 hos => ⟨a4, rfl, ⟨_, SqL.of ha4⟩, ?_⟩⟩
    have pk4 := pk.keep e4
    have hP4 := hP3.keep e4
    have okp : Pl.Ok ⟨t1, p.s, p.f, p.g⟩ := ok.perm okt pm
    have lno := Paired.length hos
    have lt13 : ∀ o : List Nat, (∀ i ∈ o, i < p.th.length) → (playP p.t p.th p.s o).1 < 13 := fun o h => by
      have := play_lt okt ok o h
      have := (ok_facts okt).2.2.2.1
      omega
    refine for_list (K := K) (xs := os) (fun i σ' H' => ∃ o2 o7 o8 o11 o12 o13 : Option V, σ' = [some (.ref l), some (.ref a), o2, none, none, some (.ref pa), some (.int (p.th.length : Int)), o7, o8, none, none, o11, o12, o13] ∧ Same H4 H')
      ⟨_, _, _, _, _, _, rfl, Same.refl _⟩ (fun i σ' H' _ pv => ?_) (fun i x σ' H' hx pv => ?_) (fun σ' H' pv => ?_)
    · obtain ⟨_, _, _, _, _, _, _, e⟩ := pv
      exact SqL.of (e _ _ ha4)
    · obtain ⟨o2, o7, o8, o11, o12, o13, rfl, e5⟩ := pv
      obtain ⟨o, ho, hox⟩ := paired_ix2 hos hx
      obtain ⟨r, rfl, hr4⟩ : OrdV H' x o := hox.mono (tups_of e5)
      obtain ⟨oN, one⟩ := ords_ok o (List.mem_of_getElem? ho)
      have oo : OrdOk p o := ⟨one, oN.1, oN.2⟩
      have oo1 : OrdOk ⟨t1, p.s, p.f, p.g⟩ o := ⟨one, oN.1, oN.2⟩
      have pk5 := pk4.keep e5
      have hP5 := hP4.keep e5
      dsimp only [gName]
      try dsimp only [tSeq, tAsg]
      refine ⟨_, rfl, _, rfl, .ref a, p, r, o, rfl, hP5.v, .inl hr4, oo, fun b db H6 e6 hb hdb => ⟨b, _, rfl, SqL.of hb, rfl, _, _, rfl, ?_⟩⟩
      dsimp only [gName]
      refine ⟨_, _, rfl, ?_⟩
      dsimp only [gName]
      refine ⟨rfl, ?_⟩
      try dsimp only [tSeq]
      have keys := play_keys p.t p.th p.s o
      have ans := play_ans okt ok o oo.lt
      have l13 := lt13 o oo.lt
      have pp := play_perm ndt ok pm o oo.lt
      have ole := oo.len
      generalize playP p.t p.th p.s o = G at hb hdb keys ans l13 pp
      have gl : G.2.length = o.length := by rw [← keys, List.length_map]
      have ndk : (G.2.map (·.1)).Nodup := by rw [keys]; exact oo.nd
      have e46 := e5.trans e6
      have hr6 := e6 _ _ hr4
      have pk6 := pk5.keep e6
      clear e5 e6 hr4 pk5 hP5 hb
      refine asg_go (P := fun v H' => ∃ rd dd ys, v = .ref rd ∧ H' rd = some (.tup [.int (G.1 : Int), .ref dd]) ∧ H' dd = some (.dK (numsK (ansN G.2 ys))) ∧ ys.Perm (iN o) ∧ ys.Pairwise (· ≤ ·)) ?_ fun v7 H7 e7 h7 => ?_
      · refine (ev_tup2 (P := fun v _ => v = .int (G.1 : Int)) (P2 := fun v H' => ∃ dd ys, v = .ref dd ∧ H' dd = some (.dK (numsK (ansN G.2 ys))) ∧ ys.Perm (iN o) ∧ ys.Pairwise (· ≤ ·)) (ev_is rfl rfl) (fun H7 e7 Q q => cb1 ?_) (fun _ _ _ h _ => h) (fun v H1 H2 ⟨dd, ys, h1, h2, h3⟩ e => ⟨dd, ys, h1, e _ _ h2, h3⟩)).imp fun v H8 e8 ⟨r8, x8, y8, ev, hr8, hx8, dd, ys, hy8, h2, h3⟩ => ?_
        · refine lc_bind (P := fun v H8 => ∃ (b : Addr) (ys : List Int), v = .ref b ∧ H8 b = some (.lst (ys.map V.int)) ∧ ys.Perm (iN o) ∧ ys.Pairwise (· ≤ ·)) (fun Q q => ⟨_, rfl, db, _, iN o, rfl, .inl (e7 _ _ hdb), by rw [ansK_keys, keys], by rw [iN, List.length_map]; omega, fun ys b pm up hb => q _ _ (same_new hb) ⟨b, ys, rfl, upd_same, pm, up⟩⟩) fun v8 H8 e8 h8 => ?_
          obtain ⟨b8, ys, rfl, hb8, pmy, upy⟩ := h8
          have ndy : ys.Nodup := pmy.symm.nodup (iN_nd oo.nd)
          refine lc_runL (K := K) (xs := ys.map V.int) (ev_c ⟨b8, rfl, SqL.of hb8⟩) ys (List.length_map ..) (fun _ => true) (fun y v H => PrI G.2 y v H) (by rw [pmy.length_eq, iN, List.length_map]; omega) (by intro _; rfl) pri_mono
            (fun i z x H9 hi hx e9 => ⟨evt_yes, fun _ H10 e10 => ?_⟩) (fun p11 H11 us hp11 e11 hus hP11 => ?_)
          · rw [List.getElem?_map, hi] at hx
            have ex : V.int z = x := Option.some.inj hx
            subst ex
            obtain ⟨n, hn, rfl⟩ := List.mem_map.mp (pmy.mem_iff.mp (List.mem_of_getElem? hi))
            obtain ⟨⟨n', v⟩, hm, en⟩ : ∃ z ∈ G.2, z.1 = n := List.mem_map.mp (by rw [keys]; exact hn)
            have en : n' = n := en
            subst en
            have hg : ∀ {H : Hp}, Same H10 H → DGet H db (.int (n' : Int)) (some (.int v)) := fun {H} e => by
              have hg := DGet.k (k := (Sum.inl (n' : Int) : L2.Key)) ((e7.trans (e8.trans (e9.trans (e10.trans e)))) _ _ hdb)
              rw [val_ans ndk hm] at hg
              exact hg
            refine (ev_tup2 (P := fun v _ => v = .int (n' : Int)) (P2 := fun v _ => v = .int (ansAt G.2 (n' : Int))) (ev_is rfl rfl) (fun H e Q q => ⟨_, rfl, _, rfl, db, _, rfl, hg e, q _ _ (Same.refl _) (by rw [ans_at ndk hm])⟩) (fun _ _ _ h _ => h) (fun _ _ _ h _ => h)).imp fun v H e ⟨r, x, y, ev, hr, hx, hy⟩ => ?_
            subst hx hy
            exact ⟨r, ev, hr⟩
          · rw [filter_all] at hP11
            obtain ⟨ts, rfl, hts⟩ := pairsI_of (K := K) hP11
            refine ⟨p11, ts, _, rfl, SqL.of hus, hts, fun p12 hp12 => ?_⟩
            rw [mergeK_all (ansN_keys ndy)]
            exact q _ _ (e8.trans (e11.trans (same_new hp12))) ⟨p12, ys, rfl, upd_same, pmy, upy⟩
        · subst hx8 hy8
          exact ⟨r8, dd, ys, ev, hr8, h2, h3⟩
      obtain ⟨rd, dd, ys, rfl, hrd, hdd, pmy, upy⟩ := h7
      have pmk : ys.Perm (iN (G.2.map (·.1))) := by rw [keys]; exact pmy
      have fn : FineN (G.1 : Int) (ansN G.2 ys) := fineN_ans l13 pmk (fun z hz => by
        have := oo.lt z.1 (by rw [← keys]; exact List.mem_map.mpr ⟨z, hz, rfl⟩)
        omega) ans (by omega)
      have e47 := e46.trans e7
      have pk7 := pk6.keep e7
      have hr7 := e7 _ _ hr6
      clear e46 e7 pk6 hr6 hdb
      try dsimp only [tSeq]
      refine asg_go (ev_played (C := C) (CP := CP) (p := ⟨t1, p.s, p.f, p.g⟩) (o := o) (ev_is rfl pk7.v) (fun H8 e8 => ev_is rfl ⟨r, rfl, .inl (e8 _ _ hr7)⟩) oo1) fun v8 H8 e8 h8 => ?_
      obtain ⟨rf, df, kvs, rfl, ndf, hrf, hdf, hA⟩ := h8
      have pp' : playP (⟨t1, p.s, p.f, p.g⟩ : Pl).t (⟨t1, p.s, p.f, p.g⟩ : Pl).th (⟨t1, p.s, p.f, p.g⟩ : Pl).s o = G := pp
      rw [pp'] at hrf hA
      obtain rfl := hA.one pmk upy
      have hrd8 := e8 _ _ hrd
      have hdd8 := e8 _ _ hdd
      have pk8 := pk7.keep e8
      have hr8 := e8 _ _ hr7
      have ndf4 := e47.free ndf
      have e48 := e47.trans e8
      clear e47 e8 pk7 hr7 hrd hdd ndf
      try dsimp only [tSeq]
      refine if_goF ?_ fun H9 e9 => ?_
      · refine evt_or (evt_test (ev_neS rfl (ev_reprR (K := K) fn.hs (ev_is rfl (.ply hrf hdf fn.hn fn.hl))) fun H9 e9 => ev_reprR (K := K) fn.hs (ev_is rfl (.ply (e9 _ _ hrd8) (e9 _ _ hdd8) fn.hn fn.hl)))) fun H9 e9 => evt_not (b := true) (evt_val (ev_isord (C := C) (CP := CP) (p := ⟨t1, p.s, p.f, p.g⟩) (ev_is rfl (pk8.keep e9).v) (fun H10 e10 => ev_is rfl ⟨r, rfl, .inl ((e9.trans e10) _ _ hr8)⟩) oo1))
      · try dsimp only [tNext]
        try dsimp only [tSeq]
        refine ⟨_, rfl, rf, _, 1, _, rfl, rfl, SqT.of (e9 _ _ hrf), atI_nat (j := 1) rfl, .inr (.inr (.inl ⟨rfl, .inl ⟨_, e9 _ _ hdf⟩⟩)), df, _, rfl, rfl, e9 _ _ hdf, ?_⟩
        exact ⟨_, _, _, _, _, _, rfl, same_mut (e48.trans e9) ndf4⟩
    · obtain ⟨o2, o7, o8, o11, o12, o13, rfl, e5⟩ := pv
      have hfr4 : KFresh C H1 H4 k := KFresh.keep pk.kind (fun _ _ _ h => e4 _ _ h) fr
      have fr5 : KFresh C H1 H' k := KFresh.keep pk4.kind (fun _ _ _ h => e5 _ _ h) hfr4
      have pk5 := pk4.keep e5
      have hP5 := hP4.keep e5
      have k5 : KL l H H' := k3.trans (KL.of k3.2 (e4.trans e5))
      clear hfr4 fr pk pk4 hP4 hP3 hos ha4 lno e5 e4 k3 lt13 e13
      try dsimp only [tSeq]
      refine ⟨12, rfl, by decide, by decide, ?_⟩
      refine for_range (lo := 0) (fun i σ'' H'' => ∃ o2 o3 o7 o8 o9 o10 o11 o12 o13 : Option V, σ'' = [some (.ref l), some (.ref a), o2, o3, none, some (.ref pa), some (.int (p.th.length : Int)), o7, o8, o9, o10, o11, o12, o13] ∧ KL l H' H'')
        ⟨_, _, _, _, _, _, _, _, _, rfl, KL.of k5.2 (Same.refl _)⟩ (fun i σ'' H6 hi pv => ?_) (fun σ'' H6 pv => ?_)
      · obtain ⟨o2, o3, o7, o8, o9, o10, o11, o12, o13, rfl, k6⟩ := pv
        have pk6 := pk5.kl k5.2 k6
        dsimp only [gName]
        try dsimp only [tSeq]
        refine ⟨_, rfl, _, rfl, l, p.th.length, rfl, k6.2, by have := List.length_pos_iff.mpr ok.f; omega, by omega, fun v H7 k7 nl7 nw => ?_⟩
        obtain ⟨b, dd, hs, tell⟩ := near_told (K := K) nw
        have k57 := k6.trans k7
        have pk7 := pk6.kl k6.2 k7
        dsimp only [gName]
        try dsimp only [tSeq]
        refine asg_go (ev_reprR (K := K) hs (ev_is rfl (tell _ (Same.refl _)).2.2)) fun v8 H8 e8 hv8 => ?_
        subst hv8
        have pk8 := pk7.keep e8
        dsimp only
        refine if_goF ?_ fun H9 e9 => ?_
        · refine evt_or (evt_test (ev_neS rfl (ev_reprR (K := K) (bl_shown b) ((ev_isordX (C := C) (CP := CP) (p := ⟨t1, p.s, p.f, p.g⟩) (u := v) (b := b) (ev_is rfl pk8.v) (fun H10 e10 => ev_is rfl ⟨rfl, (tell _ (e8.trans e10)).1⟩)).imp fun v H e r => by subst r; exact rep_bl b)) fun H9 e9 => ev_reprR (K := K) (bl_shown b) ((ev_ldue (K := K) (m := p.th.length) (u := v) (b := b) (ev_is rfl rfl) (fun H10 e10 => ev_is rfl ⟨rfl, (tell _ (e8.trans (e9.trans e10))).1, (tell _ (e8.trans (e9.trans e10))).2.1⟩) (by omega)).imp fun v H e r => by subst r; exact rep_bl b))) fun H9 e9 => evt_test (ev_neS rfl (ev_reprR (K := K) hs (ev_is rfl (tell _ (e8.trans e9)).2.2)) fun H10 e10 => ev_is rfl rfl)
        · try dsimp only [tNext]
          exact ⟨_, _, _, _, _, _, _, _, _, rfl, k57.trans (KL.of k57.2 (e8.trans e9))⟩
      · obtain ⟨o2, o3, o7, o8, o9, o10, o11, o12, o13, rfl, k6⟩ := pv
        have pk6 := pk5.kl k5.2 k6
        have hP6 := hP5.kl k5.2 k6 na ndl
        have fr6 := fr5.kl k5.2 k6 pk5.kind
        have k06 := k5.trans k6
        try dsimp only [tSeq]
        refine ⟨_, rfl, l, 5, 3, 4, rfl, k06.2, by decide, by decide, by decide, by decide, by decide, by decide, fun a2 d2 x2 y2 p2 H7 k7 ha2 _ _ _ hd2 hx2 hy2 ok2 _ _ _ => ?_⟩
        have hR : PartsV H7 (.ref a2) p2 := ⟨a2, d2, x2, y2, rfl, ha2, hd2, hx2, hy2, ok2⟩
        have pk7 := pk6.kl k06.2 k7
        have hP7 := hP6.kl k06.2 k7 na ndl
        have fr7 := fr6.kl k06.2 k7 pk6.kind
        have k07 := k06.trans k7
        clear pk5 hP5 fr5 pk6 hP6 fr6 k5 k6 k06 k7
        dsimp only [gName]
        try dsimp only [tSeq]
        refine if_goF ?_ fun H8 e8 => ?_
        · refine evt_or (evt_test (ev_neS rfl (fun Q q => ev_planofN (C := C) (CP := CP) (ev_is rfl hR) _ fun v H8 e8 hv8 => ?_) fun H8 e8 => ev_partsEq (p := p2) (r := p) (ev_is rfl (hR.keep e8)) fun H9 e9 => ev_is rfl (hP7.keep (e8.trans e9)).v)) fun H8 e8 => evt_or (evt_test (ev_peqN (C := C) (CP := CP) (p := ⟨t1, p.s, p.f, p.g⟩) nl (ev_is rfl (pk7.keep e8).v) fun H9 e9 => ev_is rfl ⟨_, rfl, .lst ((hP7.keep (e8.trans e9)).1), _, .base (.lst ((hP7.keep (e8.trans e9)).1)), kl⟩)) fun H9 e9 => evt_test (ev_peqN (C := C) (CP := CP) (p := ⟨t1, p.s, p.f, p.g⟩) nC (ev_is rfl (pk7.keep (e8.trans e9)).v) fun H10 e10 => (ev_pkind (C := C) (CP := CP) (p := ⟨t1, p.s, p.f, p.g⟩) (ev_is rfl (pk7.keep (e8.trans (e9.trans e10))).v)).imp fun v H11 e11 hk => ?_)
          · obtain ⟨t2, k2, pm2, pk2, _⟩ := hv8
            exact ev_peqQ (ta := tC v) (p := p2) (r := p) pm2 pm (ev_c pk2.v) (fun H9 e9 => ev_is rfl (pk7.keep (e8.trans e9)).v) _ fun w H9 e9 r => q w H9 (e8.trans e9) r
          · have hk' := kC _ _ _ hk
            obtain ⟨b, dy, _, _, rfl, hb, _⟩ := hk
            exact ⟨b, rfl, .ins hb, hk'⟩
        · try dsimp only [tNext]
          try dsimp only [tSeq]
          have pk8 := pk7.keep e8
          have hP8 := hP7.keep e8
          have fr8 : KFresh C H1 H8 k := KFresh.keep pk7.kind (fun _ _ _ h => e8 _ _ h) fr7
          have k08 := k07.trans (KL.of k07.2 e8)
          obtain ⟨kvd, hdd⟩ : ∃ kvd, H8 d = some (.dK kvd) := by
            obtain ⟨_, kvs, e, h, _⟩ := hP8.2.1
            cases e
            exact ⟨_, h⟩
          obtain ⟨od0, hd0⟩ := hd0
          have pkc : PlanV C CP (upd H8 d (.dK [])) (.ref pa) ⟨t1, p.s, p.f, p.g⟩ := pk8.put fr8 hd0 hdd
          obtain ⟨hac, hxc, hyc⟩ := hP8.put (o := .dK [])
          refine ⟨_, rfl, a, _, 0, _, rfl, rfl, SqL.of hP8.1, atI_nat (j := 0) rfl, .inr (.inr (.inl ⟨rfl, .inl ⟨_, hdd⟩⟩)), d, _, rfl, rfl, hdd, ?_⟩
          have kc : KL l H (upd H8 d (.dK [])) := ⟨fun b o hb n => by
            rw [upd_ne (ne_of_none hb nd0)]
            exact k08.1 b o hb n, k08.2.keepU ndl⟩
          show (fun Hc => _) (upd H8 d (.dK []))
          generalize upd H8 d (.dK []) = Hc at pkc hac hxc hyc kc
          clear pk7 hP7 fr7 k07 pk8 hP8 fr8 k08 hdd hR
          have oo0 : OrdOk p [0] := ⟨by simp, by simp, fun i hi => by rw [List.mem_singleton.mp hi]; have := List.length_pos_iff.mpr ok.f; omega⟩
          have oo1 : OrdOk ⟨t1, p.s, p.f, p.g⟩ [0] := ⟨oo0.1, oo0.2, oo0.3⟩
          have pp := play_perm ndt ok pm [0] oo0.lt
          have keys := play_keys p.t p.th p.s [0]
          have ndk : ((playP p.t p.th p.s [0]).2.map (·.1)).Nodup := by rw [keys]; exact oo0.nd
          have ndt1 : (namesT t1).Nodup := (pm.map (fun e : Str × Row => e.1)).symm.nodup ndt
          have okt1 : okTab t1 = true := ok_perm okt pm
          dsimp only
          refine ret_go (ev_eqPly (G := playP p.t p.th p.s [0]) ndk ?_ fun H9 e9 => ?_) fun v H9 e9 r => by subst r; exact q _ (kc.trans (KL.of kc.2 e9))
          · refine (ev_played (C := C) (CP := CP) (p := ⟨t1, p.s, p.f, p.g⟩) (o := [0]) (ev_is rfl pkc) (fun H e => (ev_oneV (x := .int 0) (ev_c rfl)).imp fun v H e r => r) oo1).imp fun v H e ⟨r, d', kvs, e1, _, h1, h2, h3⟩ => ?_
            have pp' : playP (⟨t1, p.s, p.f, p.g⟩ : Pl).t (⟨t1, p.s, p.f, p.g⟩ : Pl).th (⟨t1, p.s, p.f, p.g⟩ : Pl).s [0] = playP p.t p.th p.s [0] := pp
            rw [pp'] at h1 h3
            exact ⟨r, d', kvs, e1, h1, h2, h3⟩
          · intro Q q
            refine ev_planofN (C := C) (CP := CP) (p := ⟨t1, p.s, p.f, p.g⟩) (fun Q q => ?_) _ fun v H10 e10 ⟨t2, k2, pm2, pk2, _⟩ => ?_
            · refine (ev_lst1 (P := fun v H => DictV H v t1) (ev_ops (C := C) (ev_pkind (C := C) (CP := CP) (p := ⟨t1, p.s, p.f, p.g⟩) (ev_is rfl (pkc.keep e9)))) (fun v H1 H2 h e => h.keep e)) _ fun v1 H1 e1 ⟨al, xd, ev, hal, hxd⟩ => ?_
              refine ev_catL (ta := tC v1) (xs := [xd]) (ys := [.int (p.s : Int), x, y]) (ev_c ⟨al, ev, hal⟩) (fun H2 e2 => ev_tailL (K := K) (xs := [.ref d, .int (p.s : Int), x, y]) (k := 1) (by show 1 ≤ 4; decide) (ev_is rfl ⟨a, rfl, (e9.trans (e1.trans e2)) _ _ hac⟩)) (by show 1 + 3 ≤ 100000; decide) _ fun v3 H3 e3 ⟨ac, ev3, hac3⟩ => ?_
              have hxd3 := hxd.keep e3
              obtain ⟨dd, kvs, rfl, _⟩ := id hxd3
              exact q v3 H3 (e1.trans e3) ⟨ac, dd, x, y, ev3, hac3, hxd3, hxc.keep (e9.trans (e1.trans e3)), hyc.keep (e9.trans (e1.trans e3)), okp⟩
            · refine ev_played (te := tC v) (C := C) (CP := CP) (p := ⟨t2, p.s, p.f, p.g⟩) (o := [0]) (ev_c pk2.v) (fun H e => (ev_oneV (x := .int 0) (ev_c rfl)).imp fun v H e r => r) ⟨oo0.1, oo0.2, oo0.3⟩ _ fun v H11 e11 ⟨r, d', kvs, e1, _, h1, h2, h3⟩ => ?_
              have pp2 := play_perm (p := ⟨t1, p.s, p.f, p.g⟩) ndt1 okp pm2 [0] oo1.lt
              have pp' : playP (⟨t2, p.s, p.f, p.g⟩ : Pl).t (⟨t2, p.s, p.f, p.g⟩ : Pl).th (⟨t2, p.s, p.f, p.g⟩ : Pl).s [0] = playP p.t p.th p.s [0] := pp2.trans pp
              rw [pp'] at h1 h3
              exact q _ _ (e10.trans e11) ⟨r, d', kvs, e1, h1, h2, h3⟩
end
end Tm

set_option maxHeartbeats 2000000
/-! The end of a law whose promise holds where nothing is being told: no table of code objects. -/
namespace TmG
open PySem PySem.Spec PyProof.Rows L2
/-- what is tracked at first: the script where it is no part of what is written -/
def firstH (K : PySem.W.Frag) (a : Addr) (o : Obj) (xs : List V) : Hp := fun b => if b = a ∧ K.lookup a = none then some (.frz o (.lst xs)) else none
section
variable {K : PySem.W.Frag} {a b : Addr} {o : Obj} {xs : List V}
theorem firstH_scr (k : K.lookup a = none) : firstH K a o xs a = some (.frz o (.lst xs)) := if_pos ⟨rfl, k⟩
theorem firstH_is {u : HO} (e : firstH K a o xs b = some u) : b = a ∧ K.lookup a = none ∧ u = .frz o (.lst xs) := by
  unfold firstH at e
  split at e
  · rename_i z
    exact ⟨z.1, z.2, (Option.some.inj e).symm⟩
  · cases e
end
theorem callG {P : Program} {w : World} {K : PySem.W.Frag} {mg mb : Str → Option Value} {k : Nat} {fa a : Addr} {fd : FuncData} {x : Str} {sp : Sp} {t1 : Shared} {vs : List Value} {ns : List Int}
    (KX : K.In t1.heap) (gl : t1.heap.Ns mainGlobals mg) (bl : t1.heap.Ns builtinsNs mb) (boot : ∀ x : Str, x ≠ "__name__" → mb x = bootBuiltins x) (lim : t1.heap.NoLimit) (gen : t1.gens = #[])
    (scr : t1.heap.get? a = some { cls := .type "list", data := .seq vs.toArray }) (nums : IntsAre vs ns) (few : ns.length ≤ sizeLine) (room : Room k callerA)
    (F : ∀ base : Heap, K.In base → base.Ns mainGlobals mg → ∀ (A : Around) (outer : List Env) (s : Shared) (H : Hp) (args : Args) (us : List Value) (vs : List V) (Q : VK) (E : XK), Room k A → A.guards = some [] → Env0 P w K mg base A outer s H →
      BindsTo s fd args (([x] : List Str).zip us) → Vals vs us → sp vs H Q E → codeAny (model P w) A (.call (.ref fa) args) (CR CX0 outer P w H s Q E) s)
    (bind : ∀ (s : Shared) (u : Value), BindsTo s fd ⟨[u], []⟩ [(x, u)]) (hsp : ∀ H : Hp, SqL K H a (ns.map V.int) → sp [.ref a] H (fun v _ => v = .bl true) fun _ _ _ => False) :
    codeAny (model P w) callerA (.call (.ref fa) ⟨[.ref a], []⟩) (fun r s' => r = .ok (.ret (.bool true)) ∧ OldK t1.heap s'.heap ∧ s'.os = t1.os ∧ AllBare s'.gens) t1 := by
  have rv := vals_ints nums
  have lenV := nums.length
  generalize hH : firstH K a { cls := .type "list", data := .seq vs.toArray } (ns.map V.int) = H0
  have tracked : ∀ {b u}, H0 b = some u → b = a ∧ K.lookup a = none ∧ u = .frz { cls := .type "list", data := .seq vs.toArray } (.lst (ns.map V.int)) := fun {b u} e => by
    rw [← hH] at e
    exact firstH_is e
  have plain : ∀ {b : Addr} {ob : Obj}, t1.heap.get? b = some ob → (∀ vs n, ob.data ≠ .seq vs n) → H0 b = none := fun {b ob} e n1 => by
    cases q : H0 b with
    | none => rfl
    | some u =>
      obtain ⟨z, _⟩ := tracked q
      rw [z, scr] at e
      cases e
      exact absurd rfl (n1 _ _)
  have under : ∀ {b : Addr} {ob : Obj}, t1.heap.get? b = some ob → H0 b = none → (hidT t1.heap H0).get? b = some ob := fun e n => hidT_get e n
  have ns_ : ∀ {b : Addr} {m : Str → Option Value}, t1.heap.Ns b m → (hidT t1.heap H0).Ns b m := fun {b m} ⟨ob, es, ep, e, d, r⟩ => ⟨ob, es, ep, under e (plain e fun _ _ z => by rw [d] at z; cases z), d, r⟩
  have inK : K.In (hidT t1.heap H0) := fun b ob e => under (KX b ob e) (by
    cases q : H0 b with
    | none => rfl
    | some u =>
      obtain ⟨z, z2, _⟩ := tracked q
      rw [z, z2] at e
      cases e)
  have md : L2.Mod K mg (hidT t1.heap H0) := ⟨inK, ns_ gl, ⟨mb, ns_ bl, boot⟩, let ⟨mc, l1, l2⟩ := lim; ⟨mc, ns_ l1, l2⟩⟩
  have hok : HOk P w H0 t1.heap := fun b u e => by
    obtain ⟨z, _, z2⟩ := tracked e
    rw [z, z2]
    exact ⟨scr, by rw [List.length_map]; exact few, vs, _, rv, scr⟩
  have sq : SqL K H0 a (ns.map V.int) := by
    cases q : K.lookup a with
    | none => exact .inl (.inr ⟨_, by rw [← hH]; exact firstH_scr q⟩)
    | some ob =>
      have e := KX a ob q
      rw [scr] at e
      cases e
      exact .inr ⟨_, vs.toArray, _, q, rfl, rfl, rfl, by rw [List.size_toArray, lenV]; exact few, by simpa using rv⟩
  have e0 : Env0 P w K mg (hidT t1.heap H0) callerA [] t1 H0 := ⟨rfl, md, fun b ob e => of_hidT e, Nat.le_of_eq (hidT_size _ _), trivial, fun b hb => absurd (show b ∈ ([] : List Addr) from hb) (by simp), hok, .of_eq gen⟩
  refine codeAny_mono (F _ inK (ns_ gl) callerA [] t1 H0 ⟨[.ref a], []⟩ [.ref a] [.ref a] _ _ room rfl e0 (bind t1 (.ref a)) (.cons rfl .nil) (hsp H0 sq)) fun r s' h => ?_
  cases r with
  | error e => exact (show False from h).elim
  | ok fl =>
    cases fl with
    | next => exact False.elim h
    | brk => exact False.elim h
    | cont => exact False.elim h
    | ret u =>
      obtain ⟨v, H', os, bare, un, hok', r', q⟩ := h
      have q' : v = .bl true := q
      subst q'
      obtain rfl : u = Value.bool true := r'
      have same : ∀ b ob, t1.heap.get? b = some ob → s'.heap.get? b = some ob := fun b ob e => by
        cases qq : H0 b with
        | none => exact un.keep b ob e qq (by intro z; exact absurd (show b ∈ ([] : List Addr) from z) (by simp)) (by simp)
        | some u =>
          obtain ⟨z, _, z2⟩ := tracked qq
          rw [z2] at qq
          have f2 := hok' b _ (un.frzs b _ _ qq)
          rw [z, scr] at e
          cases e
          exact f2.1
      exact ⟨rfl, ⟨fun b ob e => .inl (same b ob e), fun b ob e => ⟨ob, same b ob e⟩⟩, os, bare⟩
/-- what is known of the law at the head's heap -/
def LawG (l : PySem.W.OpenLaw) (w : World) (K : PySem.W.Frag) (k n : Nat) (x : Str) (mg : Str → Option Value) (fa : Addr) (h : Heap) : Prop :=
  ∃ (fd : FuncData) (sp : Sp), (∀ (s : Shared) (u : Value), BindsTo s fd ⟨[u], []⟩ [(x, u)]) ∧
    (∀ (H : Hp) (a : Addr) (ns : List Int), ns.length ≤ n → SqL K H a (ns.map V.int) → sp [.ref a] H (fun v _ => v = .bl true) fun _ _ _ => False) ∧
    ∀ base : Heap, K.In base → base.Ns mainGlobals mg → ∀ (A : Around) (outer : List Env) (s : Shared) (H : Hp) (args : Args) (us : List Value) (vs : List V) (Q : VK) (E : XK), Room k A → A.guards = some [] → Env0 l.prog w K mg base A outer s H →
      BindsTo s fd args (([x] : List Str).zip us) → Vals vs us → sp vs H Q E → codeAny (model l.prog w) A (.call (.ref fa) args) (CR CX0 outer l.prog w H s Q E) s
theorem walkG {l : PySem.W.OpenLaw} {n k : Nat} {q : Program} {loose : List Str} {XP : (Str → Option Value) → Heap → Prop} {YP : World → Heap → Prop} {d : DefRec} {x : Str}
    (most : l.most = some n) (line : n ≤ sizeLine) (nodef : d.params.defaults = []) (room : Room k callerA)
    (F : ∀ (w : World) (mg : Str → Option Value) (fa : Addr) (h : Heap), YP w h → h.Ns mainGlobals mg → mg d.name = some (.ref fa) → ∃ K : PySem.W.Frag, K.In h ∧ LawG l w K k n x mg fa h) :
    PySem.W.WalkO q loose XP YP l.row.toRowW d [] (fun f vs => PySem.call f vs) := by
  refine Att.attach_callB most nodef fun w s₀ t1 mg mb fa o pm cd doc a vs ns G Y _ _ _ at_ scr nums few _ gen => ?_
  obtain ⟨K, KX, fd, sp, bind, hsp, hF⟩ := F w mg fa _ Y G.T.g at_
  exact callG KX G.T.g G.T.b G.T.builtins G.T.nolimit gen scr nums (Nat.le_trans few line) room hF bind fun H hS => hsp H a ns few hS
end TmG

set_option maxHeartbeats 4000000
/-! The law (k10), its run. -/
namespace Tm
open PySem PySem.Spec PyProof.Rows L2 TmE TmQ
local macro_rules | `(tactic| walk_at "x") => `(tactic| dsimp only [tNext, tRet, tSeq, tCall, tCB, tC, tCons, tNil, tAsg, tDrop, sFld])
theorem sq_klS {K : PySem.W.Frag} {l a : Addr} {H H1 H2 : Hp} {xs : List V} (h : SqL K H a xs) (hl : H l = none) (e : Same H H1) (k : KL l H1 H2) : SqL K H2 a xs := by
  rcases h with (h | ⟨o, h⟩) | h
  · exact .inl (.inl (k.1 _ _ (e _ _ h) (fun z => by rw [z, hl] at h; cases h)))
  · exact .inl (.inr ⟨o, k.1 _ _ (e _ _ h) (fun z => by rw [z, hl] at h; cases h)⟩)
  · exact .inr h
section
variable {σ : L2.St} {H : Hp} {te ta tb : TE} {t : TA} {K : PySem.W.Frag}
/-- a tuple of constants -/
def tCs : List V → TA
  | [] => tNil
  | v :: vs => tCons (tC v) (tCs vs)
theorem eva_cs : ∀ (vs : List V) (H : Hp), EvA (tCs vs) σ H fun us _ => us = vs
  | [], H => fun Q q => q [] H (Same.refl _) rfl
  | v :: vs, H => fun Q q => eva_cs vs H _ fun us H1 e h => q (v :: us) H1 e (by rw [h])
theorem ev_tupCs (vs : List V) (few : vs.length ≤ 1000) : Ev (tTup (tCs vs)) σ H fun v H1 => TupV H1 v vs := fun Q q =>
  eva_cs vs H _ fun us H1 e h => by
    subst h
    exact ⟨by rw [sizeLine_eq]; omega, fun p hp => q _ _ (e.trans (same_new hp)) ⟨p, rfl, .inl upd_same⟩⟩
theorem ev_teamCs (l : List Str) (few : l.length ≤ 1000) : Ev (tTup (tCs (strV l))) σ H fun v H1 => TeamV H1 v l := ev_tupCs (strV l) (by unfold strV; rw [List.length_map]; exact few)
/-- a dict of constants -/
def tPs (l : List (Int × Int)) : List (TE × TE) := l.map fun z => (tC (.int z.1), tC (.int z.2))
theorem pairs_cs : ∀ (l : List (Int × Int)) (H : Hp) (Q : List (V × V) → Hp → Prop), Q (l.map fun z => (V.int z.1, V.int z.2)) H → tPairs (tPs l) σ H Q
  | [], H, Q, q => q
  | z :: l, H, Q, q => pairs_cs l H _ q
theorem ev_dispCs (l : List (Int × Int)) (nd : (l.map (·.1)).Nodup) (few : l.length ≤ 15) : Ev (tDisp (tPs l)) σ H fun v H1 => ∃ d, v = .ref d ∧ H1 d = some (.dK (numsK l)) := fun Q q p hp => by
  refine pairs_cs l _ _ ⟨upd_same, numsK l, ?_, by unfold numsK; rw [List.length_map]; exact few, ?_⟩
  · unfold numsK
    rw [List.map_map]
    rfl
  · have ndk : ((numsK l).map (·.1)).Nodup := by
      unfold numsK
      rw [List.map_map]
      have : l.map ((fun kv : L2.Key × V => kv.1) ∘ fun z : Int × Int => ((Sum.inl z.1 : L2.Key), V.int z.2)) = (l.map (·.1)).map Sum.inl := by
        rw [List.map_map]
        rfl
      rw [this]
      exact List.pairwise_map.mpr (nd.imp fun h e => h (Sum.inl.inj e))
    rw [mergeK_all ndk]
    exact q _ _ (same_mut (same_new hp) hp) ⟨p, rfl, upd_same⟩
theorem ev_plyCs (n : Int) (l : List (Int × Int)) (nd : (l.map (·.1)).Nodup) (few : l.length ≤ 15) : Ev (tTup (tCons (tC (.int n)) (tCons (tDisp (tPs l)) tNil))) σ H fun v H1 => PlyV H1 v n l :=
  (ev_tup2 (P := fun v _ => v = .int n) (P2 := fun v H1 => ∃ d, v = .ref d ∧ H1 d = some (.dK (numsK l))) (ev_c rfl) (fun H1 e1 => ev_dispCs l nd few) (fun _ _ _ h _ => h) (fun v H1 H2 ⟨d, h1, h2⟩ e => ⟨d, h1, e _ _ h2⟩)).imp fun v H1 e ⟨a, x, y, ev, ha, hx, d, hy, hd⟩ => by
    subst hx hy
    exact ⟨a, d, ev, ha, hd⟩
/-- lists of what is played -/
abbrev PlysV (H : Hp) (vs : List V) (zs : List (Int × List (Int × Int))) : Prop := Paired (fun v z => PlyV H v z.1 z.2) vs zs
theorem eva_ply {z : Int × List (Int × Int)} {zs : List (Int × List (Int × Int))} (h : Ev te σ H fun v H1 => PlyV H1 v z.1 z.2) (h2 : ∀ H1, Same H H1 → EvA t σ H1 fun vs H2 => PlysV H2 vs zs) : EvA (tCons te t) σ H fun vs H1 => PlysV H1 vs (z :: zs) := fun Q q =>
  h _ fun v H1 e1 hv => h2 H1 e1 _ fun vs H2 e2 hvs => q _ _ (e1.trans e2) (.cons (hv.keep e2) hvs)
theorem eva_ply0 : EvA tNil σ H fun vs H1 => PlysV H1 vs [] := fun Q q => q _ _ (Same.refl _) .nil
theorem ev_plys {zs : List (Int × List (Int × Int))} (few : zs.length ≤ 1000) (h : EvA t σ H fun vs H1 => PlysV H1 vs zs) : Ev (tLst t) σ H fun v H1 => ∃ a vs, v = .ref a ∧ H1 a = some (.lst vs) ∧ PlysV H1 vs zs := fun Q q =>
  h _ fun vs H1 e hvs => ⟨by have := Paired.length hvs; rw [sizeLine_eq]; omega, fun p hp => q _ _ (e.trans (same_new hp)) ⟨p, vs, rfl, upd_same, Paired.mapP hvs fun _ _ z => z.keep (same_new hp)⟩⟩
theorem plys_two {H : Hp} : ∀ {zs : List (Int × List (Int × Int))} {vs us : List V}, (∀ z ∈ zs, (z.2.map (·.1)).Nodup) → PlysV H vs zs → PlysV H us zs → Paired (fun x y => ∃ n l, (l.map (·.1)).Nodup ∧ PlyV H x n l ∧ PlyV H y n l) vs us
  | [], _, _, _, .nil, .nil => .nil
  | z :: zs, _, _, nd, .cons a1 a2, .cons b1 b2 => .cons ⟨z.1, z.2, nd z List.mem_cons_self, a1, b1⟩ (plys_two (fun y hy => nd y (List.mem_cons_of_mem _ hy)) a2 b2)
theorem ev_plysEq {zs : List (Int × List (Int × Int))} (nd : ∀ z ∈ zs, (z.2.map (·.1)).Nodup) (h : Ev ta σ H fun v H1 => ∃ a vs, v = .ref a ∧ H1 a = some (.lst vs) ∧ PlysV H1 vs zs) (h2 : ∀ H1, Same H H1 → Ev tb σ H1 fun v H2 => ∃ a vs, v = .ref a ∧ H2 a = some (.lst vs) ∧ PlysV H2 vs zs) : Ev (tOp (rEqPlys K) ta tb) σ H fun v _ => v = .bl true := fun Q q =>
  h _ fun v H1 e1 ⟨a, vs, ev, ha, hv⟩ => h2 H1 e1 _ fun u H2 e2 ⟨b, us, eu, hb, hu⟩ =>
    ⟨a, b, vs, us, ev, eu, SqL.of (e2 _ _ ha), SqL.of hb, plys_two nd (Paired.mapP hv fun _ _ z => z.keep e2) hu, q _ _ (e1.trans e2) rfl⟩
theorem ev_eqSame {d : PyData} {n : Nat} (nc : Nice n d) (n64 : n ≤ 64) (h : Ev ta σ H fun v H1 => DpS K H1 v d) (h2 : ∀ H1, Same H H1 → Ev tb σ H1 fun v H2 => DpS K H2 v d) : Ev (tOp (rEqD K) ta tb) σ H fun v _ => v = .bl true := fun Q q =>
  h _ fun v H1 e1 hv => h2 H1 e1 _ fun u H2 e2 hu => ⟨d, d, hv H2 e2, hu.dp, nc.shaped n64, nc.shaped n64, by rw [nc.eqv]; exact q _ _ (e1.trans e2) rfl⟩
theorem ev_madeK {C : Addr} {T : Nat → Tab} {lo hi n : Nat} (h1 : lo ≤ n) (h2 : n ≤ hi) (h : Ev te σ H fun v _ => v = .int (n : Int)) : Ev (tCall (sp_made C lo hi T) [] E0 (tCons te tNil)) σ H fun v H1 => ∃ t, KindV C H1 v t ∧ t.Perm (T n) := fun Q q =>
  h _ fun v H1 e1 hv => ⟨n, by rw [hv]; rfl, h1, h2, fun v' H' t' e' hk pm => q _ _ (e1.trans e') ⟨t', hk, pm⟩⟩
theorem par3_go {D : Ends} {i j l : Nat} {tc : TE} {P P2 P3 : V → Hp → Prop} (h : Ev ta σ H P) (h2 : ∀ H1, Same H H1 → Ev tb σ H1 P2) (h3 : ∀ H1, Same H H1 → Ev tc σ H1 P3) (k : ∀ u v w H1 H2 H3, Same H H1 → Same H1 H2 → Same H2 H3 → P u H1 → P2 v H2 → P3 w H3 → D.nx (((σ.set i (some u)).set j (some v)).set l (some w)) H3) : tPar3 i j l (tCons ta (tCons tb (tCons tc tNil))) D σ H :=
  h _ fun u H1 e1 p1 => h2 H1 e1 _ fun v H2 e2 p2 => h3 H2 (e1.trans e2) _ fun w H3 e3 p3 => ⟨u, v, w, rfl, k u v w H1 H2 H3 e1 e2 e3 p1 p2 p3⟩
end
/-- a plan outlives what is put in the place of a list -/
theorem PlanV.putL {C CP : Addr} {H : Hp} {v : V} {p : Pl} {d : Addr} {o : HO} {xs : List V} (h : PlanV C CP H v p) (hd : H d = some (.lst xs)) : PlanV C CP (upd H d o) v p := by
  obtain ⟨a, dx, k, tm, p1, p2, th, rfl, ha, hk, htm, h1, h2, hth, ok⟩ := h
  have st : ∀ {b : Addr} {u : HO}, H b = some u → (∀ l, u ≠ .lst l) → upd H d o b = some u := fun {b u} e n => by
    have : b ≠ d := fun z => by
      rw [z, hd] at e
      cases e
      exact n _ rfl
    rw [upd_ne this]
    exact e
  have tv : ∀ {u : V} {l : List Str}, TeamV H u l → TeamV (upd H d o) u l := fun ⟨r, e, h⟩ => ⟨r, e, h.imp (fun e => st e fun _ z => nomatch z) fun ⟨w, e⟩ => ⟨w, st e fun _ z => nomatch z⟩⟩
  refine ⟨a, dx, k, tm, p1, p2, th, rfl, st ha (fun _ z => nomatch z), ?_, st htm (fun _ z => nomatch z), tv h1, tv h2, st hth (fun _ z => nomatch z), ok⟩
  obtain ⟨b, dy, kd, kkv, rfl, hb, hkd, ht, okk⟩ := hk
  exact ⟨b, dy, kd, kkv, rfl, st hb (fun _ z => nomatch z), st hkd (fun _ z => nomatch z), ht.mono (fun c xs hc => st hc (fun _ z => nomatch z)), okk⟩
/-- what the law plays: a plan over any order of a table -/
theorem played_is {t T : Tab} {s : Nat} {f g : List Str} {o : List Nat} {zn : Nat} {zl : List (Nat × Int)} (okT : okTab T = true) (ndT : (namesT T).Nodup) (pm : t.Perm T) (ok : Pl.Ok ⟨T, s, f, g⟩) (h : ∀ i ∈ o, i < (f ++ g).length) (e : playP T (f ++ g) s o = (zn, zl)) : playP t (f ++ g) s o = (zn, zl) := by
  rw [← e]
  exact play_perm (p := ⟨T, s, f, g⟩) ndT ok pm o h
end Tm

/-! The law (k10), its run. -/
namespace Tm
open PySem PySem.Spec PyProof.Rows L2 TmE TmQ
local macro_rules | `(tactic| walk_at "x") => `(tactic| dsimp only [tNext, tRet, tSeq, tCall, tCB, tC, tCons, tNil, tAsg, tDrop, sFld])
section
variable {C CP : Addr} {σ : L2.St} {H : Hp} {te ta : TE}
theorem ev_playedN {t T : Tab} {s : Nat} {f g : List Str} {o : List Nat} {zn : Nat} {zl : List (Nat × Int)} {ys : List Int} {l : List (Int × Int)} (okT : okTab T = true) (ndT : (namesT T).Nodup) (pm : t.Perm T) (ok : Pl.Ok ⟨T, s, f, g⟩) (oo : OrdOk ⟨T, s, f, g⟩ o) (e : playP T (f ++ g) s o = (zn, zl)) (pmy : ys.Perm (iN (zl.map (·.1)))) (up : ys.Pairwise (· ≤ ·)) (el : ansN zl ys = l)
    (h : Ev te σ H fun v H1 => PlanV C CP H1 v ⟨t, s, f, g⟩) (h2 : ∀ H1, Same H H1 → Ev ta σ H1 fun v H2 => ∃ r, v = .ref r ∧ Rd H2 r (.tup (natV o))) : Ev (tMeth CP "played" (sp_played C CP) [] E0 te (tCons ta tNil)) σ H fun v H1 => PlyV H1 v (zn : Int) l :=
  (ev_played (p := ⟨t, s, f, g⟩) (o := o) h h2 ⟨oo.1, oo.2, oo.3⟩).imp fun v H1 e1 ⟨r, d, kvs, ev, _, hr, hd, hA⟩ => by
    have ee : playP (⟨t, s, f, g⟩ : Pl).t (⟨t, s, f, g⟩ : Pl).th (⟨t, s, f, g⟩ : Pl).s o = (zn, zl) := played_is okT ndT pm ok oo.3 e
    rw [ee] at hr hA
    rw [hA.one pmy up, el] at hd
    exact ⟨r, d, ev, hr, hd⟩
end
section
variable {C CP : Addr} {σ : L2.St} {H : Hp} {te ta : TE} {c1 c2 : TT} {t u : TS}
theorem if_orF {D : Ends} (h1 : EvT c1 σ H false) (k : ∀ H1, Same H H1 → tIfS c2 t u D σ H1) : tIfS (tOr c1 c2) t u D σ H := h1 _ fun H1 e1 => by
  rw [if_neg (by decide)]
  exact k H1 e1
theorem cons1 {Q : List V → Hp → Prop} (h : te σ H fun v H1 => Q [v] H1) : tCons te tNil σ H Q := h
theorem ev_told {p : Pl} (h : Ev te σ H fun v H1 => ∃ t1, t1.Perm p.t ∧ PlanV C CP H1 v ⟨t1, p.s, p.f, p.g⟩) (h2 : ∀ H1, Same H H1 → Ev ta σ H1 fun v H2 => PartsV H2 v p) : Ev (tCallG (sp_told C CP) E0 (tCons te (tCons ta tNil))) σ H fun v _ => v = .bl true := fun Q q =>
  h _ fun v H1 e1 ⟨t1, pm, hv⟩ => h2 H1 e1 _ fun u H2 e2 hu => ⟨v, u, p, t1, rfl, pm, hv.keep e2, hu, fun H3 e3 => q _ _ (e1.trans (e2.trans e3)) rfl⟩
end
def fS : List Str := ["seta", "setb"]
def gS : List Str := ["setb"]
def fF : List Str := ["seta"]
def gF : List Str := ["setb", "seta"]
def fQ : List Str := ["joina", "joinb", "leave"]
def gQ : List Str := ["joinb", "joina", "leave"]
theorem ok_S : Pl.Ok ⟨slotT 2, 0, fS, gS⟩ := ⟨by decide +kernel, by decide +kernel, by decide +kernel, by decide +kernel, by decide +kernel⟩
theorem ok_F : Pl.Ok ⟨fadeT 2, 0, fF, gF⟩ := ⟨by decide +kernel, by decide +kernel, by decide +kernel, by decide +kernel, by decide +kernel⟩
theorem ok_Q : Pl.Ok ⟨queueT 2, 0, fQ, gQ⟩ := ⟨by decide +kernel, by decide +kernel, by decide +kernel, by decide +kernel, by decide +kernel⟩
theorem oo_S : OrdOk ⟨slotT 2, 0, fS, gS⟩ [1, 0, 2] := ⟨by decide +kernel, by decide +kernel, by decide +kernel⟩
theorem oo_F : OrdOk ⟨fadeT 2, 0, fF, gF⟩ [1, 2, 0] := ⟨by decide +kernel, by decide +kernel, by decide +kernel⟩
theorem oo_Q : OrdOk ⟨queueT 2, 0, fQ, gQ⟩ [0, 3, 1, 2, 5, 4] := ⟨by decide +kernel, by decide +kernel, by decide +kernel⟩
theorem pl_S : playP (slotT 2) (fS ++ gS) 0 [1, 0, 2] = (2, [(1, 2), (0, 2), (2, 2)]) := by decide +kernel
theorem pl_F : playP (fadeT 2) (fF ++ gF) 0 [1, 2, 0] = (5, [(1, 0), (2, 0), (0, 0)]) := by decide +kernel
theorem pl_Q : playP (queueT 2) (fQ ++ gQ) 0 [0, 3, 1, 2, 5, 4] = (1, [(0, 0), (3, 0), (1, 0), (2, 1), (5, 2), (4, 0)]) := by decide +kernel
def lS : List (Int × Int) := [(0, 2), (1, 2), (2, 2)]
def lF : List (Int × Int) := [(0, 0), (1, 0), (2, 0)]
def lQ : List (Int × Int) := [(0, 0), (1, 0), (2, 1), (3, 0), (4, 0), (5, 2)]
abbrev zsL : List (Int × List (Int × Int)) := [(((2 : Nat) : Int), lS), (((5 : Nat) : Int), lF), (((1 : Nat) : Int), lQ)]
theorem an_S : ansN [(1, 2), (0, 2), (2, 2)] [0, 1, 2] = lS := by decide +kernel
theorem an_F : ansN [(1, 0), (2, 0), (0, 0)] [0, 1, 2] = lF := by decide +kernel
theorem an_Q : ansN [(0, 0), (3, 0), (1, 0), (2, 1), (5, 2), (4, 0)] [0, 1, 2, 3, 4, 5] = lQ := by decide +kernel
theorem pm_S : ([0, 1, 2] : List Int).Perm (iN (([(1, 2), (0, 2), (2, 2)] : List (Nat × Int)).map (·.1))) := by decide +kernel
theorem pm_F : ([0, 1, 2] : List Int).Perm (iN (([(1, 0), (2, 0), (0, 0)] : List (Nat × Int)).map (·.1))) := by decide +kernel
theorem pm_Q : ([0, 1, 2, 3, 4, 5] : List Int).Perm (iN (([(0, 0), (3, 0), (1, 0), (2, 1), (5, 2), (4, 0)] : List (Nat × Int)).map (·.1))) := by decide +kernel
theorem nd_L : ∀ z ∈ zsL, (z.2.map (·.1)).Nodup := by decide +kernel
theorem so_Q : gQ.all PyData.strOk = true := by decide +kernel
section
variable {P : Program} {w : World} {K : PySem.W.Frag} {mg : Str → Option Value} {base : Heap} {C CP : Addr}
abbrev s_law : Stmt := top 51
abbrev NLaw : List Str := ["_law_script", "_law_spot", "_law_plans", "_law_told", "_law_due", "_law_purse", "_law_turn", "_law_slot", "_law_fade", "_law_line", "_law_parts"]
theorem sc_law : FnScope NLaw ["_law_script"] (defScope s_law) := ⟨rfl, rfl, rfl, by decide +kernel, rfl, by decide +kernel, by decide +kernel⟩
def sp_law (K : PySem.W.Frag) : Sp := fun vs H Q _ => ∃ (a : Addr) (xs : List Int), vs = [.ref a] ∧ SqL K H a (xs.map V.int) ∧ xs.length ≤ 63 ∧ ∀ H', Q (.bl true) H'
theorem run_law {f : Addr} {fd : FuncData} (B : Bt mg) (TP : Kp K CP) (hM : GV mg "MAX_THREADS" (.int 6)) (OC_Plan : OkC P w K mg base "Plan" CP 4 ["self", "kind", "start", "first", "second"] (sp_pinit C CP)) (OM_played : OkM P w K mg base CP "played" 4 ["self", "order"] (sp_played C CP)) (OP_teams : OkP P w K mg base CP "teams" 1 (sp_pteams C CP))
    (O_slot_kind : Ok P w K mg base "slot_kind" 8 ["many"] (sp_made C 1 6 slotT)) (O_fading_kind : Ok P w K mg base "fading_kind" 8 ["many"] (sp_made C 1 5 fadeT)) (O_queue_kind : Ok P w K mg base "queue_kind" 8 ["many"] (sp_made C 1 2 queueT))
    (O_law_purse_of : Ok P w K mg base "_law_purse_of" 1 ["_law_script", "_law_at"] (sp_vat K)) (O_law_plan_drawn : Ok P w K mg base "_law_plan_drawn" 4 ["_law_purse", "_law_size", "_law_few", "_law_threads"] sp_pdrawn) (O_law_plan_of : Ok P w K mg base "_law_plan_of" 7 ["_law_parts"] (sp_planof C CP))
    (O_law_is_told : OkG P w K mg base "_law_is_told" 9 (sp_told C CP)) (O_law_all_right : OkG P w K mg base "_law_all_right" 9 sp_allr)
    (F : Fun K "law" "law" s_law f fd) : ∀ (A : Around) (outer : List Env) (s : Shared) (H : Hp) (args : Args) (us : List Value) (vs : List V) (Q : VK) (E : XK), Room 11 A → A.guards = some [] → Env0 P w K mg base A outer s H → BindsTo s fd args ((["_law_script"] : List Str).zip us) → Vals vs us → sp_law K vs H Q E →
      codeAny (model P w) A (.call (.ref f) args) (CR CX0 outer P w H s Q E) s := by
  obtain ⟨oc, od, kV, doc, pm, an, cdv, ct, osl, rfl, lk, hcd⟩ := F.ex
  refine fnG_of (CX := CX0) (k := 10) lk hcd sc_law (fun vs H Q E h => ?_) (fun A outer s H vs Q E hr gu h => ?_)
  · obtain ⟨a, xs, rfl, _⟩ := h
    rfl
  · obtain ⟨a, xs, rfl, hs, hlen, q⟩ := h
    have hun := hr.un
    have hu64 : (A.deeper (envOfC "law" (defScope s_law) s.heap.objs.size f cdv)).units + 64 < cLine := by omega
    have hu20 : (A.deeper (envOfC "law" (defScope s_law) s.heap.objs.size f cdv)).units + 20 < cLine := by omega
    have hgu : (A.deeper (envOfC "law" (defScope s_law) s.heap.objs.size f cdv)).guards = some [] := gu
    have body : ∃ t, PSs (cxOf CX0 P w K mg base NLaw "law" (defScope s_law) f cdv A outer s H E).nox (defBody s_law) t ∧ t { nx := fun _ H' => Q .non H', rt := Q } (L2.start NLaw [.ref a]) H := by
      refine ⟨_, pss_cons (ps_for PassesOwn.never rfl (pi_range1 (by rfl) B.range (pa_cons (pe_callB (call_max2 rfl) (by rfl) B.max (by decide +kernel) (pa_cons (pe_int) (pa_cons (pe_callB (call_min2 rfl) (by rfl) B.min (by decide +kernel) (pa_cons (pe_int) (pa_cons (pe_callB (lenK (K := K)) (by rfl) B.len (by decide +kernel) (pa_cons (pv 0) (pa_nil))) (pa_nil)))) (pa_nil)))) (pa_nil))) (pg_name (i := 1) sc_law.nd rfl (.inl rfl))
        (pss_cons (ps_set (i := 5) sc_law.nd rfl (.inl rfl) (O_law_purse_of.call hr (ha := pa_cons (pv 0) (pa_cons (pv 1) (pa_nil)))))
      (pss_one (ps_for PassesOwn.never rfl (pi_range1 (by rfl) B.range (pa_cons (pe_int) (pa_nil))) (pg_name (i := 6) sc_law.nd rfl (.inl rfl))
        (pss_cons (ps_set (i := 10) sc_law.nd rfl (.inl rfl) (O_law_plan_drawn.call hr (ha := pa_cons (pv 5) (pa_cons (pe_int) (pa_cons (pe_int) (pa_cons (pe_int) (pa_nil)))))))
      (pss_one (ps_if (PW.pt (pw_or (pt_not (pt_val (O_law_is_told.call hgu hr (by decide) (pa_cons (O_law_plan_of.call hr (ha := pa_cons (pv 10) (pa_nil))) (pa_cons (pv 10) (pa_nil)))))) (pw_or1 (pt_not (pt_val (O_law_all_right.call hgu hr (by decide) (pa_cons (pv 5) (pa_nil))))))))
        (pss_one (ps_ret (pe_bl)))
        (pss_nil))))))))
      (pss_cons (ps_par3 (i := 7) (j := 8) (l := 9) (by rfl) sc_law.nd rfl rfl rfl (by decide) (by decide) (by decide) rfl rfl rfl (pa_cons (O_slot_kind.call hr (ha := pa_cons (pe_int) (pa_nil))) (pa_cons (O_fading_kind.call hr (ha := pa_cons (pe_int) (pa_nil))) (pa_cons (O_queue_kind.call hr (ha := pa_cons (pe_int) (pa_nil))) (pa_nil)))) (by rfl))
      (pss_cons (ps_set (i := 2) sc_law.nd rfl (.inl rfl) (pe_lst (pa_cons (OC_Plan.make hr (ha := pa_cons (pv 7) (pa_cons (pe_int) (pa_cons (pe_tup (pa_cons (pe_str) (pa_cons (pe_str) (pa_nil)))) (pa_cons (pe_tup (pa_cons (pe_str) (pa_nil))) (pa_nil)))))) (pa_cons (OC_Plan.make hr (ha := pa_cons (pv 8) (pa_cons (pe_int) (pa_cons (pe_tup (pa_cons (pe_str) (pa_nil))) (pa_cons (pe_tup (pa_cons (pe_str) (pa_cons (pe_str) (pa_nil)))) (pa_nil)))))) (pa_nil)))))
      (pss_cons (ps_expr (pe_bm PySem.F.plainAttrs_list PySem.F.slot_list_append PySem.F.type_list_append mt_append (pv 2) (pa_cons (OC_Plan.make hr (ha := pa_cons (pv 9) (pa_cons (pe_int) (pa_cons (pe_tup (pa_cons (pe_str) (pa_cons (pe_str) (pa_cons (pe_str) (pa_nil))))) (pa_cons (pe_tup (pa_cons (pe_str) (pa_cons (pe_str) (pa_cons (pe_str) (pa_nil))))) (pa_nil)))))) (pa_nil))))
      (pss_cons (ps_set (i := 3) sc_law.nd rfl (.inl rfl) (pe_lst (pa_cons (OM_played.call hr TP.cl (he := pe_ix (ixLK (K := K)) (pv 2) (pe_int) (fun _ _ => rfl)) (ha := pa_cons (pe_tup (pa_cons (pe_int) (pa_cons (pe_int) (pa_cons (pe_int) (pa_nil))))) (pa_nil))) (pa_cons (OM_played.call hr TP.cl (he := pe_ix (ixLK (K := K)) (pv 2) (pe_int) (fun _ _ => rfl)) (ha := pa_cons (pe_tup (pa_cons (pe_int) (pa_cons (pe_int) (pa_cons (pe_int) (pa_nil))))) (pa_nil))) (pa_cons (OM_played.call hr TP.cl (he := pe_ix (ixLK (K := K)) (pv 2) (pe_int) (fun _ _ => rfl)) (ha := pa_cons (pe_tup (pa_cons (pe_int) (pa_cons (pe_int) (pa_cons (pe_int) (pa_cons (pe_int) (pa_cons (pe_int) (pa_cons (pe_int) (pa_nil)))))))) (pa_nil))) (pa_nil))))))
      (pss_cons (ps_set (i := 4) sc_law.nd rfl (.inl rfl) (pe_lst (pa_cons (pe_tup (pa_cons (pe_int) (pa_cons (pe_disp (pps_cons (pe_int) (pe_int) (pps_cons (pe_int) (pe_int) (pps_cons (pe_int) (pe_int) (pps_nil)))) (by rfl) (by rfl) (fun z => by cases z) (by decide)) (pa_nil)))) (pa_cons (pe_tup (pa_cons (pe_int) (pa_cons (pe_disp (pps_cons (pe_int) (pe_int) (pps_cons (pe_int) (pe_int) (pps_cons (pe_int) (pe_int) (pps_nil)))) (by rfl) (by rfl) (fun z => by cases z) (by decide)) (pa_nil)))) (pa_cons (pe_tup (pa_cons (pe_int) (pa_cons (pe_disp (pps_cons (pe_int) (pe_int) (pps_cons (pe_int) (pe_int) (pps_cons (pe_int) (pe_int) (pps_cons (pe_int) (pe_int) (pps_cons (pe_int) (pe_int) (pps_cons (pe_int) (pe_int) (pps_nil))))))) (by rfl) (by rfl) (fun z => by cases z) (by decide)) (pa_nil)))) (pa_nil))))))
      (pss_one (ps_ret (pe_and (pe_cmpR (op_eqPlys hu20) (pv 3) (pv 4) (nomark _)) (pe_and (pe_cmpR op_eq hM.pe (pe_int) (nomark _)) (pe_one (pe_cmpR (op_eqD hu64) (pe_ix (ixTK (K := K)) (OP_teams.get hr TP.cl (he := pe_ix (ixLK (K := K)) (pv 2) (pe_int) (fun _ _ => rfl))) (pe_int) (fun _ _ => rfl)) (pe_tup (pa_cons (pe_str) (pa_cons (pe_str) (pa_cons (pe_str) (pa_nil))))) (nomark _)))))))))))), ?_⟩
      refine ⟨_, rfl, a, _, rfl, .inl hs, _, _, rfl, _, _, rfl, ?_⟩
      rw [List.length_map]
      obtain ⟨m, hm, hm4⟩ : ∃ m : Nat, (if (if (xs.length : Int) < 6 then (xs.length : Int) else 6) > 1 then (if (xs.length : Int) < 6 then (xs.length : Int) else 6) else 1) = (m : Int) ∧ m ≤ 6 := by
        refine ⟨(if (if (xs.length : Int) < 6 then (xs.length : Int) else 6) > 1 then (if (xs.length : Int) < 6 then (xs.length : Int) else 6) else 1).toNat, ?_, ?_⟩
        · repeat' split
          all_goals omega
        · repeat' split
          all_goals omega
      refine ⟨_, rfl, ?_⟩
      rw [hm]
      refine ⟨by omega, by omega, ?_⟩
      refine for_range (lo := 0) (fun i σ' H' => ∃ o1 o5 o6 o10 : Option V, σ' = [some (.ref a), o1, none, none, none, o5, o6, none, none, none, o10] ∧ SqL K H' a (xs.map V.int)) ⟨none, none, none, none, rfl, hs⟩ (fun i σ' H' hi p => ?_) (fun σ' H' p => ?_)
      · obtain ⟨o1, o5, o6, o10, rfl, hs'⟩ := p
        dsimp only [gName]
        dsimp only [tSeq]
        refine ⟨_, rfl, _, rfl, a, xs, i, ?_, hs', by omega, fun l x y z hl => ?_⟩
        · show [V.ref a, V.int ((0 : Int) + (i : Int))] = _
          rw [Int.zero_add]
        · have e1 : Same H' (upd H' l (.lst [.int x, .int y, .int z])) := same_new hl
          have g1 : KL l (upd H' l (.lst [.int x, .int y, .int z])) (upd H' l (.lst [.int x, .int y, .int z])) := KL.of ⟨x, y, z, upd_same⟩ (Same.refl _)
          generalize hH1 : upd H' l (.lst [.int x, .int y, .int z]) = H1 at e1 g1
          refine ⟨2, rfl, by omega, by omega, ?_⟩
          refine for_range (lo := 0) (fun j σ2 H2 => ∃ o1 o6 o10 : Option V, σ2 = [some (.ref a), o1, none, none, none, some (.ref l), o6, none, none, none, o10] ∧ KL l H1 H2) ⟨_, _, _, rfl, g1⟩ (fun j σ2 H2 hj p => ?_) (fun σ2 H2 p => ?_)
          · obtain ⟨o1, o6, o10, rfl, g⟩ := p
            dsimp only [gName]
            dsimp only [tSeq]
            refine ⟨_, rfl, l, 5, 3, 6, rfl, g.2, by decide, by decide, by decide, by decide, by decide, by decide, fun a0 d v1 v2 p H3 k3 hl3 _ _ _ hd3 h1 h2 ok _ _ _ => ?_⟩
            have hP : PartsV H3 (.ref a0) p := ⟨a0, d, v1, v2, rfl, hl3, hd3, h1, h2, ok⟩
            have g3 := g.trans k3
            dsimp only [gName]
            try dsimp only [tSeq]
            refine if_orF (evt_not (b := true) (evt_val (ev_told (C := C) (CP := CP) (p := p) (ev_planof (ev_is rfl hP)) fun H4 e4 => ev_is rfl (hP.keep e4)))) fun H4 e4 => ?_
            have g4 := g3.trans (KL.of g3.2 e4)
            refine ⟨_, rfl, l, rfl, g4.2, fun H5 k5 => ⟨_, rfl, ifF rfl ?_⟩⟩
            exact ⟨_, _, _, rfl, g4.trans k5⟩
          · obtain ⟨o1, o6, o10, rfl, g⟩ := p
            exact ⟨_, _, _, _, rfl, sq_klS hs' hl e1 g⟩
      · obtain ⟨o1, o5, o6, o10, rfl, hs'⟩ := p
        try dsimp only [tNext]
        try dsimp only [tSeq]
        refine par3_go (P := fun v H => ∃ t, KindV C H v t ∧ t.Perm (slotT 2)) (P2 := fun v H => ∃ t, KindV C H v t ∧ t.Perm (fadeT 2)) (P3 := fun v H => ∃ t, KindV C H v t ∧ t.Perm (queueT 2)) (ev_madeK (n := 2) (by decide) (by decide) (ev_c rfl)) (fun H1 e1 => ev_madeK (n := 2) (by decide) (by decide) (ev_c rfl)) (fun H1 e1 => ev_madeK (n := 2) (by decide) (by decide) (ev_c rfl)) (fun ks kf kq H1 H2 H3 e1 e2 e3 h1 h2 h3 => ?_)
        obtain ⟨tS, hkS, pmS⟩ := h1
        obtain ⟨tF, hkF, pmF⟩ := h2
        obtain ⟨tQ, hkQ, pmQ⟩ := h3
        have hkS := hkS.keep (e2.trans e3)
        have hkF := hkF.keep e3
        have okS := slot_ok 2 (by decide) (by decide)
        have okF := fade_ok 2 (by decide) (by decide)
        have okQ := queue_ok 2 (by decide) (by decide)
        have opS : Pl.Ok ⟨tS, 0, fS, gS⟩ := ok_S.perm okS.1 pmS
        have opF : Pl.Ok ⟨tF, 0, fF, gF⟩ := ok_F.perm okF.1 pmF
        have opQ : Pl.Ok ⟨tQ, 0, fQ, gQ⟩ := ok_Q.perm okQ.1 pmQ
        try dsimp only [tSeq]
        refine asg_go (ev_lst2 (P := fun v H => PlanV C CP H v ⟨tS, 0, fS, gS⟩) (P2 := fun v H => PlanV C CP H v ⟨tF, 0, fF, gF⟩) (ev_plan (p := ⟨tS, 0, fS, gS⟩) (ev_is rfl hkS) (fun H e => ev_c rfl) (fun H e => ev_teamCs fS (by decide)) (fun H e => ev_teamCs gS (by decide)) opS) (fun H4 e4 => ev_plan (p := ⟨tF, 0, fF, gF⟩) (ev_is rfl (hkF.keep e4)) (fun H e => ev_c rfl) (fun H e => ev_teamCs fF (by decide)) (fun H e => ev_teamCs gF (by decide)) opF) (fun v H1 H2 h e => h.keep e) (fun v H1 H2 h e => h.keep e)) fun vl H4 e4 h4 => ?_
        obtain ⟨lp, p1, p2, rfl, hlp, hp1, hp2⟩ := h4
        have hkQ4 := hkQ.keep e4
        try dsimp only [tSeq]
        refine ⟨_, rfl, .inl ⟨rfl, _, SqL.of hlp⟩, ?_⟩
        refine cons1 (ev_plan (C := C) (p := ⟨tQ, 0, fQ, gQ⟩) (ev_is rfl hkQ4) (fun H e => ev_c rfl) (fun H e => ev_teamCs fQ (by decide)) (fun H e => ev_teamCs gQ (by decide)) opQ _ fun p3 H5 e5 hp3 => ?_)
        refine ⟨lp, [p1, p2], p3, rfl, rfl, e5 _ _ hlp, by show 2 < sizeLine; decide, ?_⟩
        have q1 : PlanV C CP (upd H5 lp (.lst ([p1, p2] ++ [p3]))) p1 ⟨tS, 0, fS, gS⟩ := (hp1.keep e5).putL (e5 _ _ hlp)
        have q2 : PlanV C CP (upd H5 lp (.lst ([p1, p2] ++ [p3]))) p2 ⟨tF, 0, fF, gF⟩ := (hp2.keep e5).putL (e5 _ _ hlp)
        have q3 : PlanV C CP (upd H5 lp (.lst ([p1, p2] ++ [p3]))) p3 ⟨tQ, 0, fQ, gQ⟩ := hp3.putL (e5 _ _ hlp)
        have al : upd H5 lp (.lst ([p1, p2] ++ [p3])) lp = some (.lst [p1, p2, p3]) := upd_same
        show (fun H6 => _) (upd H5 lp (.lst ([p1, p2] ++ [p3])))
        generalize upd H5 lp (.lst ([p1, p2] ++ [p3])) = H6 at q1 q2 q3 al
        clear hp1 hp2 hp3 hlp e5 e4 hkQ4 hkQ hkF hkS e1 e2 e3 hs' hs
        dsimp only
        try dsimp only [tSeq]
        refine asg_go (ev_plys (zs := zsL) (by decide) (eva_ply (ev_playedN (C := C) (CP := CP) (o := [1, 0, 2]) okS.1 okS.2 pmS ok_S oo_S pl_S pm_S (by decide) an_S ((ev_ixA (K := K) (j := 0) rfl al rfl).imp fun v H e r => by subst r; exact q1.keep e) fun H e => ev_tupCs (natV [1, 0, 2]) (by decide)) fun H7 e7 => eva_ply (ev_playedN (C := C) (CP := CP) (o := [1, 2, 0]) okF.1 okF.2 pmF ok_F oo_F pl_F pm_F (by decide) an_F ((ev_ixA (K := K) (j := 1) rfl (e7 _ _ al) rfl).imp fun v H e r => by subst r; exact q2.keep (e7.trans e)) fun H e => ev_tupCs (natV [1, 2, 0]) (by decide)) fun H8 e8 => eva_ply (ev_playedN (C := C) (CP := CP) (o := [0, 3, 1, 2, 5, 4]) okQ.1 okQ.2 pmQ ok_Q oo_Q pl_Q pm_Q (by decide) an_Q ((ev_ixA (K := K) (j := 2) rfl ((e7.trans e8) _ _ al) rfl).imp fun v H e r => by subst r; exact q3.keep ((e7.trans e8).trans e)) fun H e => ev_tupCs (natV [0, 3, 1, 2, 5, 4]) (by decide)) fun H9 e9 => eva_ply0)) fun vt H7 e7 h7 => ?_
        obtain ⟨lt, vts, rfl, hlt, hvt⟩ := h7
        have q3 := q3.keep e7
        have al := e7 _ _ al
        clear q1 q2 e7
        try dsimp only [tSeq]
        refine asg_go (ev_plys (zs := zsL) (by decide) (eva_ply (ev_plyCs 2 lS (by decide) (by decide)) fun H8 e8 => eva_ply (ev_plyCs 5 lF (by decide) (by decide)) fun H9 e9 => eva_ply (ev_plyCs 1 lQ (by decide) (by decide)) fun H10 e10 => eva_ply0)) fun vd H8 e8 h8 => ?_
        obtain ⟨ld, vds, rfl, hld, hvd⟩ := h8
        have q3 := q3.keep e8
        have al := e8 _ _ al
        have hlt := e8 _ _ hlt
        have hvt : PlysV H8 vts zsL := Paired.mapP hvt fun _ _ z => z.keep e8
        dsimp only
        refine ret_go (P := fun v _ => v = .bl true) ?_ fun v H9 e9 r => by subst r; exact q _
        refine ev_andV (a := true) (b := true) (ev_plysEq (K := K) nd_L (ev_is rfl ⟨lt, vts, rfl, hlt, hvt⟩) fun H9 e9 => ev_is rfl ⟨ld, vds, rfl, e9 _ _ hld, Paired.mapP hvd fun _ _ z => z.keep e9⟩) fun _ H9 e9 => ev_andV (a := true) (b := true) (ev_eqS rfl (ev_c rfl) fun H e => ev_c rfl) fun _ H10 e10 => ?_
        refine ev_eqSame (K := K) (nice_team so_Q) (by decide) (fun Q q => (ev_pteams (C := C) (CP := CP) (p := ⟨tQ, 0, fQ, gQ⟩) ((ev_ixA (K := K) (j := 2) rfl ((e9.trans e10) _ _ al) rfl).imp fun v H e r => by subst r; exact q3.keep ((e9.trans e10).trans e))) _ fun v H11 e11 ⟨tm, w1, w2, ev, htm, hw1, hw2⟩ => ⟨tm, _, 1, w2, ev, rfl, SqT.of htm, atI_nat (j := 1) rfl, q _ _ e11 hw2.dps⟩) fun H11 e11 => (ev_teamCs gQ (by decide)).imp fun v H e r => TeamV.dps r
    obtain ⟨t, ht, q⟩ := body
    exact ⟨t, ht.nox, q⟩
end
end Tm

set_option maxHeartbeats 2000000
namespace TmH
open PySem PySem.Spec PyProof.Rows L2 LamX He Tm
section
variable {P : Program} {w : World} {K : PySem.W.Frag} {h : Heap} {mg : Str → Option Value}
theorem mkDf (X : K.In h) (G : h.Ns mainGlobals mg) (c : SaysY fa ds tf exP h K) (x : Str) (st : Stmt) (ps : List Str) (i : Nat) (hi : ds[i]? = some ⟨fun K => ga K x, x, x, st⟩) (hf : Fa.glo x ∈ fa)
    (hb : ∀ (kV doc pm : Value) (an : Option Addr) (cdv ct : Value) (us : List Value), us.length = ps.length → bindArgs (PySem.W.fnOf x x (defArgs st) (defBody st) (defScope st) .none kV doc pm an cdv ct) ⟨us, []⟩ = pure (ps.zip us)) : Df K mg x st ps := by
  have F := c.def_ i hi
  obtain ⟨fd, f⟩ := F.fun_
  exact ⟨_, fd, glo_ok X G (c.fact hf), F.kp, f, f.binds hb⟩
theorem mkDfM (c : SaysY fa ds tf exP h K) (m q : Str) (st : Stmt) (ps : List Str) (i : Nat) (hi : ds[i]? = some ⟨fun K => ma K (ga K "Kind") m, m, q, st⟩) (hf : Fa.meth "Kind" m ∈ fa)
    (hb : ∀ (kV doc pm : Value) (an : Option Addr) (cdv ct : Value) (us : List Value), us.length = ps.length → bindArgs (PySem.W.fnOf m q (defArgs st) (defBody st) (defScope st) .none kV doc pm an cdv ct) ⟨us, []⟩ = pure (ps.zip us)) : DfM K (ga K "Kind") m q st ps := by
  obtain ⟨fd, f⟩ := (c.def_ i hi).fun_
  exact ⟨_, fd, meth_ok (c.fact hf), f, f.binds hb⟩
theorem mkBt (X : K.In h) (G : h.Ns mainGlobals mg) (c : SaysY fa ds tf exP h K) : Bt mg := by
  have f : ∀ x, Fa.free x ∈ fa → mg x = none := fun x hx => free_ok X G (c.fact hx)
  refine ⟨f _ ?_, f _ ?_, f _ ?_, f _ ?_, f _ ?_, f _ ?_, f _ ?_, f _ ?_, f _ ?_, f _ ?_, f _ ?_, f _ ?_, f _ ?_, f _ ?_, f _ ?_⟩ <;> (unfold fa; simp)
theorem mkInt (X : K.In h) (G : h.Ns mainGlobals mg) (c : SaysY fa ds tf exP h K) {x : Str} {i : Int} (hf : Fa.int x i ∈ fa) : GV mg x (.int i) := by
  obtain ⟨t, e⟩ := int_ok X G (c.fact hf)
  exact ⟨_, e, t, rfl⟩
theorem mkStr (X : K.In h) (G : h.Ns mainGlobals mg) (c : SaysY fa ds tf exP h K) {x z : Str} (hf : Fa.str x z ∈ fa) : GV mg x (.str z) := by
  obtain ⟨t, e⟩ := str_ok X G (c.fact hf)
  exact ⟨_, e, t, rfl⟩
theorem mkDfS (c : SaysY fa ds tf exP h K) (m q : Str) (st : Stmt) (ps : List Str) (i : Nat) (hi : ds[i]? = some ⟨fun K => ma K (ga K "Kind") m, m, q, st⟩) (hf : Fa.meth "Kind" m ∈ fa)
    (hb : ∀ (kV doc pm : Value) (an : Option Addr) (cdv ct : Value) (us : List Value), us.length = ps.length → bindArgs (PySem.W.fnOf m q (defArgs st) (defBody st) (defScope st) .none kV doc pm an cdv ct) ⟨us, []⟩ = pure (ps.zip us)) : DfS K (ga K "Kind") m q st ps := by
  obtain ⟨fd, F⟩ := (c.def_ i hi).fun_
  have m1 := meth_ok (c.fact hf)
  exact ⟨_, fd, ⟨m1.at_, m1.fn⟩, F, F.binds hb⟩
theorem mkDfP (c : SaysY fa ds tf exP h K) (m q : Str) (st : Stmt) (i : Nat) (hi : ds[i]? = some ⟨fun K => getP K m, m, q, st⟩) (hp : propB K m = true)
    (hb : ∀ (kV doc pm : Value) (an : Option Addr) (cdv ct : Value) (us : List Value), us.length = (["self"] : List Str).length → bindArgs (PySem.W.fnOf m q (defArgs st) (defBody st) (defScope st) .none kV doc pm an cdv ct) ⟨us, []⟩ = pure ((["self"] : List Str).zip us)) : DfP K (ga K "Kind") m q st := by
  obtain ⟨x1, e1⟩ := ba hp
  obtain ⟨x2, e2⟩ := ba e1
  obtain ⟨x3, x4⟩ := ba e2
  obtain ⟨fd, F⟩ := (c.def_ i hi).fun_
  refine ⟨ma K (ga K "Kind") m, getP K m, fd, ⟨eqO_ok x1, eqO_ok x2, of_decide_eq_true x3, ?_⟩, F, F.binds hb⟩
  unfold getP
  split at x4
  · rename_i g rest e
    exact ⟨rest, by rw [e]⟩
  · cases x4
theorem mkDfMC (c : SaysY fa ds tf exP h K) (cl m q : Str) (st : Stmt) (ps : List Str) (i : Nat) (hi : ds[i]? = some ⟨fun K => ma K (ga K cl) m, m, q, st⟩) (hf : Fa.meth cl m ∈ fa)
    (hb : ∀ (kV doc pm : Value) (an : Option Addr) (cdv ct : Value) (us : List Value), us.length = ps.length → bindArgs (PySem.W.fnOf m q (defArgs st) (defBody st) (defScope st) .none kV doc pm an cdv ct) ⟨us, []⟩ = pure (ps.zip us)) : DfM K (ga K cl) m q st ps := by
  obtain ⟨fd, f⟩ := (c.def_ i hi).fun_
  exact ⟨_, fd, meth_ok (c.fact hf), f, f.binds hb⟩
theorem mkDfSC (c : SaysY fa ds tf exP h K) (cl m q : Str) (st : Stmt) (ps : List Str) (i : Nat) (hi : ds[i]? = some ⟨fun K => ma K (ga K cl) m, m, q, st⟩) (hf : Fa.meth cl m ∈ fa)
    (hb : ∀ (kV doc pm : Value) (an : Option Addr) (cdv ct : Value) (us : List Value), us.length = ps.length → bindArgs (PySem.W.fnOf m q (defArgs st) (defBody st) (defScope st) .none kV doc pm an cdv ct) ⟨us, []⟩ = pure (ps.zip us)) : DfS K (ga K cl) m q st ps := by
  obtain ⟨fd, F⟩ := (c.def_ i hi).fun_
  have m1 := meth_ok (c.fact hf)
  exact ⟨_, fd, ⟨m1.at_, m1.fn⟩, F, F.binds hb⟩
theorem mkDfPC (c : SaysY fa ds tf exP h K) (cl m q : Str) (st : Stmt) (i : Nat) (hi : ds[i]? = some ⟨fun K => getPC K cl m, m, q, st⟩) (hp : propC K cl m = true)
    (hb : ∀ (kV doc pm : Value) (an : Option Addr) (cdv ct : Value) (us : List Value), us.length = (["self"] : List Str).length → bindArgs (PySem.W.fnOf m q (defArgs st) (defBody st) (defScope st) .none kV doc pm an cdv ct) ⟨us, []⟩ = pure ((["self"] : List Str).zip us)) : DfP K (ga K cl) m q st := by
  obtain ⟨x1, e1⟩ := ba hp
  obtain ⟨x2, e2⟩ := ba e1
  obtain ⟨x3, x4⟩ := ba e2
  obtain ⟨fd, F⟩ := (c.def_ i hi).fun_
  refine ⟨ma K (ga K cl) m, getPC K cl m, fd, ⟨eqO_ok x1, eqO_ok x2, of_decide_eq_true x3, ?_⟩, F, F.binds hb⟩
  unfold getPC
  split at x4
  · rename_i g rest e
    exact ⟨rest, by rw [e]⟩
  · cases x4
theorem facts (X : K.In h) (G : h.Ns mainGlobals mg) (c : SaysY fa ds tf exP h K) {f : Addr} (hfa : mg ("law" : Str) = some (.ref f)) :
    ∃ fd : FuncData, (∀ (s : Shared) (u : Value), BindsTo s fd ⟨[u], []⟩ [("_law_script", u)]) ∧ ∀ base : Heap, K.In base → base.Ns mainGlobals mg → ∀ (A : Around) (outer : List Env) (s : Shared) (H : Hp) (args : Args) (us : List Value) (vs : List V) (Q : VK) (E : XK), Room 11 A → A.guards = some [] → Env0 P w K mg base A outer s H → BindsTo s fd args ((["_law_script"] : List Str).zip us) → Vals vs us → sp_law K vs H Q E →
        codeAny (model P w) A (.call (.ref f) args) (CR CX0 outer P w H s Q E) s := by
  have B := mkBt X G c
  have d_is_number_in : Df K mg "is_number_in" s_num ["value", "least", "most"] := mkDf X G c "is_number_in" s_num ["value", "least", "most"] 0 rfl (by unfold fa; simp) fun _ _ _ _ _ _ us hl => match us, hl with | [_, _, _], _ => rfl
  have d_need_number : Df K mg "need_number" s_need ["value", "least", "most"] := mkDf X G c "need_number" s_need ["value", "least", "most"] 1 rfl (by unfold fa; simp) fun _ _ _ _ _ _ us hl => match us, hl with | [_, _, _], _ => rfl
  have d_is_name : Df K mg "is_name" s_name ["value"] := mkDf X G c "is_name" s_name ["value"] 2 rfl (by unfold fa; simp) fun _ _ _ _ _ _ us hl => match us, hl with | [_], _ => rfl
  have d_need_kind : Df K mg "need_kind" s_needkind ["value"] := mkDf X G c "need_kind" s_needkind ["value"] 3 rfl (by unfold fa; simp) fun _ _ _ _ _ _ us hl => match us, hl with | [_], _ => rfl
  have d_is_pair : Df K mg "_is_pair" s_pair ["value", "size"] := mkDf X G c "_is_pair" s_pair ["value", "size"] 4 rfl (by unfold fa; simp) fun _ _ _ _ _ _ us hl => match us, hl with | [_, _], _ => rfl
  have d_is_row : Df K mg "_is_row" s_row ["value", "size"] := mkDf X G c "_is_row" s_row ["value", "size"] 5 rfl (by unfold fa; simp) fun _ _ _ _ _ _ us hl => match us, hl with | [_, _], _ => rfl
  have d_is_table : Df K mg "_is_table" s_table ["value"] := mkDf X G c "_is_table" s_table ["value"] 6 rfl (by unfold fa; simp) fun _ _ _ _ _ _ us hl => match us, hl with | [_], _ => rfl
  have d_is_team : Df K mg "_is_team" s_team ["value", "kind"] := mkDf X G c "_is_team" s_team ["value", "kind"] 7 rfl (by unfold fa; simp) fun _ _ _ _ _ _ us hl => match us, hl with | [_, _], _ => rfl
  have d_lettered : Df K mg "_lettered" s_lettered ["word", "rows"] := mkDf X G c "_lettered" s_lettered ["word", "rows"] 8 rfl (by unfold fa; simp) fun _ _ _ _ _ _ us hl => match us, hl with | [_, _], _ => rfl
  have d_slot_kind : Df K mg "slot_kind" s_slot ["many"] := mkDf X G c "slot_kind" s_slot ["many"] 9 rfl (by unfold fa; simp) fun _ _ _ _ _ _ us hl => match us, hl with | [_], _ => rfl
  have d_fading_kind : Df K mg "fading_kind" s_fading ["many"] := mkDf X G c "fading_kind" s_fading ["many"] 10 rfl (by unfold fa; simp) fun _ _ _ _ _ _ us hl => match us, hl with | [_], _ => rfl
  have d_faded : Df K mg "_faded" s_faded ["state", "many"] := mkDf X G c "_faded" s_faded ["state", "many"] 11 rfl (by unfold fa; simp) fun _ _ _ _ _ _ us hl => match us, hl with | [_, _], _ => rfl
  have d_queue_kind : Df K mg "queue_kind" s_queue ["many"] := mkDf X G c "queue_kind" s_queue ["many"] 12 rfl (by unfold fa; simp) fun _ _ _ _ _ _ us hl => match us, hl with | [_], _ => rfl
  have d_join_row : Df K mg "_join_row" s_join ["words", "many", "letter"] := mkDf X G c "_join_row" s_join ["words", "many", "letter"] 13 rfl (by unfold fa; simp) fun _ _ _ _ _ _ us hl => match us, hl with | [_, _, _], _ => rfl
  have d_law_purse_of : Df K mg "_law_purse_of" s_purse ["_law_script", "_law_at"] := mkDf X G c "_law_purse_of" s_purse ["_law_script", "_law_at"] 14 rfl (by unfold fa; simp) fun _ _ _ _ _ _ us hl => match us, hl with | [_, _], _ => rfl
  have d_law_coin : Df K mg "_law_coin" s_coin ["_law_purse", "_law_total"] := mkDf X G c "_law_coin" s_coin ["_law_purse", "_law_total"] 15 rfl (by unfold fa; simp) fun _ _ _ _ _ _ us hl => match us, hl with | [_, _], _ => rfl
  have d_law_pick : Df K mg "_law_pick" s_lpick ["_law_purse", "_law_items"] := mkDf X G c "_law_pick" s_lpick ["_law_purse", "_law_items"] 16 rfl (by unfold fa; simp) fun _ _ _ _ _ _ us hl => match us, hl with | [_, _], _ => rfl
  have d_law_some_of : Df K mg "_law_some_of" s_someof ["_law_purse", "_law_items", "_law_size"] := mkDf X G c "_law_some_of" s_someof ["_law_purse", "_law_items", "_law_size"] 17 rfl (by unfold fa; simp) fun _ _ _ _ _ _ us hl => match us, hl with | [_, _, _], _ => rfl
  have d_law_table_drawn : Df K mg "_law_table_drawn" s_tdrawn ["_law_purse", "_law_size", "_law_few"] := mkDf X G c "_law_table_drawn" s_tdrawn ["_law_purse", "_law_size", "_law_few"] 18 rfl (by unfold fa; simp) fun _ _ _ _ _ _ us hl => match us, hl with | [_, _, _], _ => rfl
  have d_law_plan_drawn : Df K mg "_law_plan_drawn" s_pdrawn ["_law_purse", "_law_size", "_law_few", "_law_threads"] := mkDf X G c "_law_plan_drawn" s_pdrawn ["_law_purse", "_law_size", "_law_few", "_law_threads"] 19 rfl (by unfold fa; simp) fun _ _ _ _ _ _ us hl => match us, hl with | [_, _, _, _], _ => rfl
  have d_law_plan_of : Df K mg "_law_plan_of" s_planof ["_law_parts"] := mkDf X G c "_law_plan_of" s_planof ["_law_parts"] 20 rfl (by unfold fa; simp) fun _ _ _ _ _ _ us hl => match us, hl with | [_], _ => rfl
  have d_law_play : Df K mg "_law_play" s_lplay ["_law_parts", "_law_order"] := mkDf X G c "_law_play" s_lplay ["_law_parts", "_law_order"] 21 rfl (by unfold fa; simp) fun _ _ _ _ _ _ us hl => match us, hl with | [_, _], _ => rfl
  have d_law_orders : Df K mg "_law_orders" s_lords ["_law_size"] := mkDf X G c "_law_orders" s_lords ["_law_size"] 22 rfl (by unfold fa; simp) fun _ _ _ _ _ _ us hl => match us, hl with | [_], _ => rfl
  have d_law_is_told : Df K mg "_law_is_told" s_told ["_law_told", "_law_parts"] := mkDf X G c "_law_is_told" s_told ["_law_told", "_law_parts"] 23 rfl (by unfold fa; simp) fun _ _ _ _ _ _ us hl => match us, hl with | [_, _], _ => rfl
  have d_law_near_order : Df K mg "_law_near_order" s_lnear ["_law_purse", "_law_size"] := mkDf X G c "_law_near_order" s_lnear ["_law_purse", "_law_size"] 24 rfl (by unfold fa; simp) fun _ _ _ _ _ _ us hl => match us, hl with | [_, _], _ => rfl
  have d_law_is_order_due : Df K mg "_law_is_order_due" s_ldue ["_law_value", "_law_size"] := mkDf X G c "_law_is_order_due" s_ldue ["_law_value", "_law_size"] 25 rfl (by unfold fa; simp) fun _ _ _ _ _ _ us hl => match us, hl with | [_, _], _ => rfl
  have d_law_all_right : Df K mg "_law_all_right" s_allr ["_law_purse"] := mkDf X G c "_law_all_right" s_allr ["_law_purse"] 26 rfl (by unfold fa; simp) fun _ _ _ _ _ _ us hl => match us, hl with | [_], _ => rfl
  have gb : Gb mg := ⟨mkInt X G c (by unfold fa; simp), mkInt X G c (by unfold fa; simp), mkInt X G c (by unfold fa; simp), mkInt X G c (by unfold fa; simp), mkStr X G c (by unfold fa; simp)⟩
  have T : Kc K (ga K "Kind") := ⟨cls_ok (c.fact (f := .cls "Kind") (by unfold fa; simp)), noat_ok (c.fact (f := .noat "Kind" "_table") (by unfold fa; simp)), noat_ok (c.fact (f := .noat "Kind" "_size") (by unfold fa; simp))⟩
  have gC : mg "Kind" = some (.ref (ga K "Kind")) := glo_ok X G (c.fact (by unfold fa; simp))
  have di : DfC K mg "Kind" (ga K "Kind") "Kind.__init__" s_init ["self", "operations"] := by
    obtain ⟨fd, F⟩ := (c.def_ 28 (d := ⟨fun K => ma K (ga K "Kind") "__init__", "__init__", "Kind.__init__", s_init⟩) rfl).fun_
    exact ⟨_, fd, gC, mkr_ok (c.fact (f := .mkr "Kind") (by unfold fa; simp)), F, F.binds fun _ _ _ _ _ _ us hl => match us, hl with | [_, _], _ => rfl⟩
  have m_after : DfM K (ga K "Kind") "after" "Kind.after" s_after ["self", "state", "name"] := mkDfM c "after" "Kind.after" s_after ["self", "state", "name"] 29 rfl (by unfold fa; simp) fun _ _ _ _ _ _ us hl => match us, hl with | [_, _, _], _ => rfl
  have m_need_operation : DfM K (ga K "Kind") "_need_operation" "Kind._need_operation" s_needop ["self", "name"] := mkDfM c "_need_operation" "Kind._need_operation" s_needop ["self", "name"] 30 rfl (by unfold fa; simp) fun _ _ _ _ _ _ us hl => match us, hl with | [_, _], _ => rfl
  have m_contains : DfIn K (ga K "Kind") "Kind.__contains__" s_cont ["self", "x"] := by
    obtain ⟨fd, F⟩ := (c.def_ 31 (d := ⟨fun K => ma K (ga K "Kind") "__contains__", "__contains__", "Kind.__contains__", s_cont⟩) rfl).fun_
    have m := meth_ok (c.fact (f := .meth "Kind" "__contains__") (by unfold fa; simp))
    exact ⟨_, fd, ⟨m.at_, m.fn⟩, F, F.binds fun _ _ _ _ _ _ us hl => match us, hl with | [_, _], _ => rfl⟩
  have m_eq : DfS K (ga K "Kind") "__eq__" "Kind.__eq__" s_keq ["self", "other"] := mkDfS c "__eq__" "Kind.__eq__" s_keq ["self", "other"] 32 rfl (by unfold fa; simp) fun _ _ _ _ _ _ us hl => match us, hl with | [_, _], _ => rfl
  obtain ⟨x1, e1⟩ := ba c.more
  obtain ⟨x2, e2⟩ := ba e1
  obtain ⟨Px1, Pe1⟩ := ba e2
  obtain ⟨Px2, Pe2⟩ := ba Pe1
  obtain ⟨Px3, Pe3⟩ := ba Pe2
  obtain ⟨Px4, Pe4⟩ := ba Pe3
  obtain ⟨Px5, Pe5⟩ := ba Pe4
  obtain ⟨z1, ze1⟩ := ba Pe5
  obtain ⟨z2, ze2⟩ := ba ze1
  obtain ⟨z3, ze3⟩ := ba ze2
  obtain ⟨z4, ze4⟩ := ba ze3
  obtain ⟨z5, ze5⟩ := ba ze4
  obtain ⟨y1, f1⟩ := ba ze5
  obtain ⟨y2, f2⟩ := ba f1
  obtain ⟨y3, f3⟩ := ba f2
  obtain ⟨y4, f4⟩ := ba f3
  obtain ⟨y5, y6⟩ := ba f4
  have EQ : EqM K (ga K "Kind") := ⟨eqO_ok y1, of_decide_eq_true y2⟩
  have TE : KcE K (ga K "Kind") := ⟨of_decide_eq_true y3, eqO_ok y4, eqO_ok y5, of_decide_eq_true y6, of_decide_eq_true y2⟩
  have p_operations : DfP K (ga K "Kind") "operations" "Kind.operations" s_ops := mkDfP c "operations" "Kind.operations" s_ops 33 rfl x1 fun _ _ _ _ _ _ us hl => match us, hl with | [_], _ => rfl
  have p_size : DfP K (ga K "Kind") "size" "Kind.size" s_size := mkDfP c "size" "Kind.size" s_size 34 rfl x2 fun _ _ _ _ _ _ us hl => match us, hl with | [_], _ => rfl
  have PC : Kp K (ga K "Plan") := ⟨cls_ok (c.fact (f := .cls "Plan") (by unfold fa; simp)), noat_ok (c.fact (f := .noat "Plan" "_kind") (by unfold fa; simp)), noat_ok (c.fact (f := .noat "Plan" "_start") (by unfold fa; simp)), noat_ok (c.fact (f := .noat "Plan" "_teams") (by unfold fa; simp)), noat_ok (c.fact (f := .noat "Plan" "_threads") (by unfold fa; simp))⟩
  have PG : mg "Plan" = some (.ref (ga K "Plan")) := glo_ok X G (c.fact (by unfold fa; simp))
  have PI : DfC K mg "Plan" (ga K "Plan") "Plan.__init__" s_pinit ["self", "kind", "start", "first", "second"] := by
    obtain ⟨fd, F⟩ := (c.def_ 35 (d := ⟨fun K => ma K (ga K "Plan") "__init__", "__init__", "Plan.__init__", s_pinit⟩) rfl).fun_
    exact ⟨_, fd, PG, mkr_ok (c.fact (f := .mkr "Plan") (by unfold fa; simp)), F, F.binds fun _ _ _ _ _ _ us hl => match us, hl with | [_, _, _, _, _], _ => rfl⟩
  have Pm_team_of : DfM K (ga K "Plan") "team_of" "Plan.team_of" s_teamof ["self", "thread"] := mkDfMC c "Plan" "team_of" "Plan.team_of" s_teamof ["self", "thread"] 36 rfl (by unfold fa; simp) fun _ _ _ _ _ _ us hl => match us, hl with | [_, _], _ => rfl
  have Pm_is_order : DfM K (ga K "Plan") "is_order" "Plan.is_order" s_isord ["self", "value"] := mkDfMC c "Plan" "is_order" "Plan.is_order" s_isord ["self", "value"] 37 rfl (by unfold fa; simp) fun _ _ _ _ _ _ us hl => match us, hl with | [_, _], _ => rfl
  have Pm_played : DfM K (ga K "Plan") "played" "Plan.played" s_played ["self", "order"] := mkDfMC c "Plan" "played" "Plan.played" s_played ["self", "order"] 38 rfl (by unfold fa; simp) fun _ _ _ _ _ _ us hl => match us, hl with | [_, _], _ => rfl
  have Pm_len : DfS K (ga K "Plan") "__len__" "Plan.__len__" s_plen ["self"] := mkDfSC c "Plan" "__len__" "Plan.__len__" s_plen ["self"] 39 rfl (by unfold fa; simp) fun _ _ _ _ _ _ us hl => match us, hl with | [_], _ => rfl
  have Pm_eq : DfS K (ga K "Plan") "__eq__" "Plan.__eq__" s_peq ["self", "other"] := mkDfSC c "Plan" "__eq__" "Plan.__eq__" s_peq ["self", "other"] 40 rfl (by unfold fa; simp) fun _ _ _ _ _ _ us hl => match us, hl with | [_, _], _ => rfl
  have Pm_str : DfS K (ga K "Plan") "__str__" "Plan.__str__" s_pstr ["self"] := mkDfSC c "Plan" "__str__" "Plan.__str__" s_pstr ["self"] 41 rfl (by unfold fa; simp) fun _ _ _ _ _ _ us hl => match us, hl with | [_], _ => rfl
  obtain ⟨Py1, Pf1⟩ := ba Px5
  obtain ⟨Py2, Pf2⟩ := ba Pf1
  obtain ⟨Py3, Pf3⟩ := ba Pf2
  obtain ⟨Py4, Pf4⟩ := ba Pf3
  obtain ⟨Py5, Py6⟩ := ba Pf4
  have PEQ : EqM K (ga K "Plan") := ⟨eqO_ok Py1, of_decide_eq_true Py2⟩
  have PTE : KcE K (ga K "Plan") := ⟨of_decide_eq_true Py3, eqO_ok Py4, eqO_ok Py5, of_decide_eq_true Py6, of_decide_eq_true Py2⟩
  have Pp_kind : DfP K (ga K "Plan") "kind" "Plan.kind" s_pkind := mkDfPC c "Plan" "kind" "Plan.kind" s_pkind 42 rfl Px1 fun _ _ _ _ _ _ us hl => match us, hl with | [_], _ => rfl
  have Pp_start : DfP K (ga K "Plan") "start" "Plan.start" s_pstart := mkDfPC c "Plan" "start" "Plan.start" s_pstart 43 rfl Px2 fun _ _ _ _ _ _ us hl => match us, hl with | [_], _ => rfl
  have Pp_teams : DfP K (ga K "Plan") "teams" "Plan.teams" s_pteams := mkDfPC c "Plan" "teams" "Plan.teams" s_pteams 44 rfl Px3 fun _ _ _ _ _ _ us hl => match us, hl with | [_], _ => rfl
  have Pp_threads : DfP K (ga K "Plan") "threads" "Plan.threads" s_pthreads := mkDfPC c "Plan" "threads" "Plan.threads" s_pthreads 45 rfl Px4 fun _ _ _ _ _ _ us hl => match us, hl with | [_], _ => rfl
  have i_MAX_THREADS : GV mg "MAX_THREADS" (.int 6) := mkInt X G c (by unfold fa; simp)
  have gm : Gm mg := ⟨mkStr X G c (by unfold fa; simp)⟩
  have gq : GT K mg "QUEUE_WORDS" QW := ⟨_, glo_ok X G (c.fact (by unfold fa; simp)), fun H => tupB_ok z5 H⟩
  have kC : ∀ H k t, KindV (ga K "Kind") H k t → NoPlan K (ga K "Plan") H k := fun H k t hk => by
    obtain ⟨a, dx, _, _, rfl, ha, _⟩ := hk
    exact ⟨_, .base (.ins ha T.cl TE.cla TE.cg TE.ct TE.mr), of_decide_eq_true z4⟩
  have Bs : mg "set" = none := free_ok X G (c.fact (f := .free "set") (by unfold fa; simp))
  have Br : mg "repr" = none := free_ok X G (c.fact (f := .free "repr") (by unfold fa; simp))
  have FA := c.def_ 27 (d := ⟨fun K => ga K "law", "law", "law", s_law⟩) rfl
  obtain ⟨oc, od, kV, doc, pm, an, cdv, ct, osl, l, ci⟩ := FA.ex
  have FL := fun_mk (st := s_law) l ci FA.kp
  have hl := hfa.symm.trans (glo_ok X G (c.fact (f := .glo "law") (by unfold fa; simp)))
  have ef : f = ga K "law" := by
    cases hl
    rfl
  refine ⟨PySem.W.fnOf "law" "law" (defArgs s_law) (defBody s_law) (defScope s_law) .none kV doc pm an cdv ct, fun s u => .of_eq rfl, fun base _ _ => ?_⟩
  rw [ef]
  have o_num := ok_num (P := P) (w := w) (base := base) B d_is_number_in
  have o_need := ok_need o_num d_need_number
  have o_name := ok_name (P := P) (w := w) (base := base) B gb d_is_name
  have o_pair := ok_pair B gb o_num d_is_pair
  have o_row := ok_row B gb o_pair d_is_row
  have o_table := ok_table B gb o_name o_row d_is_table
  have o_init := ok_init B T o_table di
  have o_initN := ok_initN B T o_table di
  have o_cont := ok_cont (P := P) (w := w) (mg := mg) (base := base) B T m_contains
  have o_needop := ok_needop o_cont m_need_operation
  have o_after := ok_after B T o_need o_needop m_after
  have o_size := ok_size (P := P) (w := w) (mg := mg) (base := base) T p_size
  have o_ops := ok_ops (P := P) (w := w) (mg := mg) (base := base) B T p_operations
  have o_eq := ok_keq (P := P) (w := w) (mg := mg) (base := base) B T TE gC m_eq
  have o_needkind := ok_needkind (P := P) (w := w) (mg := mg) (base := base) B T TE gC d_need_kind
  have o_team := ok_team B o_cont d_is_team
  have o_pinit := ok_pinit B i_MAX_THREADS T PC o_needkind o_num o_size o_team PI
  have o_pinitK := ok_pinitK B i_MAX_THREADS T PC o_needkind o_num o_size o_team PI
  have o_pkind := ok_pkind (C := ga K "Kind") (P := P) (w := w) (mg := mg) (base := base) PC Pp_kind
  have o_pstart := ok_pstart (C := ga K "Kind") (P := P) (w := w) (mg := mg) (base := base) PC Pp_start
  have o_pteams := ok_pteams (C := ga K "Kind") (P := P) (w := w) (mg := mg) (base := base) PC Pp_teams
  have o_pthr := ok_pthreads (C := ga K "Kind") (P := P) (w := w) (mg := mg) (base := base) PC Pp_threads
  have o_plen := ok_plen (C := ga K "Kind") (P := P) (w := w) (mg := mg) (base := base) B PC Pm_len
  have o_pstr := ok_pstr (C := ga K "Kind") (P := P) (w := w) (mg := mg) (base := base) B PC Pm_str
  have o_peq := ok_peqX B PC PTE PG o_eq Pm_eq
  have o_teamof := ok_teamof (C := ga K "Kind") B PC o_need Pm_team_of
  have o_isord := ok_isord (C := ga K "Kind") B Bs PC o_num Pm_is_order
  have o_numV := ok_numV (P := P) (w := w) (base := base) B d_is_number_in
  have o_isordX := ok_isordX (C := ga K "Kind") B Bs PC o_numV Pm_is_order
  have o_played := ok_played B T PC o_isord o_after Pm_played
  have o_lettered := ok_lettered B gm o_init d_lettered
  have o_slot := ok_slot B o_need o_lettered d_slot_kind
  have o_faded := ok_faded (P := P) (w := w) (base := base) B d_faded
  have o_fading := ok_fading B o_need o_faded o_lettered d_fading_kind
  have o_join := ok_join (P := P) (w := w) (base := base) B d_join_row
  have o_queue := ok_queue B gq o_need o_join o_init d_queue_kind
  have o_purse := ok_purse (P := P) (w := w) (base := base) B d_law_purse_of
  have o_coin := ok_coin (P := P) (w := w) (base := base) B d_law_coin
  have o_pick := ok_pick B o_coin d_law_pick
  have o_someof := ok_someof B o_coin d_law_some_of
  have o_tdrawn := ok_tdrawn B o_coin o_someof o_pick d_law_table_drawn
  have o_pdrawn := ok_pdrawn B o_coin o_pick o_tdrawn d_law_plan_drawn
  have o_planof := ok_planof o_init o_pinit d_law_plan_of
  have o_planofN := ok_planofN o_initN o_pinitK d_law_plan_of
  have o_lplay := ok_lplay (P := P) (w := w) (base := base) B d_law_play
  have o_lords := ok_lords (P := P) (w := w) (base := base) B d_law_orders
  have o_told := ok_told B T PC EQ PEQ Br o_eq o_peq o_plen o_pstr o_pkind o_pstart o_pteams o_pthr o_init o_teamof o_planof d_law_is_told
  have o_lnear := ok_lnear B o_coin o_pick o_someof d_law_near_order
  have o_ldue := ok_ldue (P := P) (w := w) (base := base) B Bs d_law_is_order_due
  have o_allr := ok_allr B T PC Br z1 z2 (of_decide_eq_true z3) kC o_peq o_pkind o_ops o_isord o_isordX o_played o_pdrawn o_planofN o_lords o_lplay o_lnear o_ldue d_law_all_right
  exact run_law B PC i_MAX_THREADS o_pinit o_played o_pteams o_slot o_fading o_queue o_purse o_pdrawn o_planof o_told o_allr FL
end
end TmH
open PySem PySem.W PySem.Calls PyProof.Rows
theorem PySem.Challenge.cw_teamtells_k10_plans_told_holds : PySem.Challenge.rw_teamtells_k10_plans_told.Holds := by
  w_on; o_law
  refine HandSHeadRun.head_any (r := OpenLaw.row PySem.Challenge.rw_teamtells_k10_plans_told) (q := view (OpenLaw.row PySem.Challenge.rw_teamtells_k10_plans_told).prog [51]) (H := TmH.hk) (ob := TmH.ob) (M := 6000) (loose := TmH.loose) (d := HandSHeadRun.topDef (OpenLaw.row PySem.Challenge.rw_teamtells_k10_plans_told).prog 51) (kwd := []) TmH.ob_eq
    (by kernel_rfl) (fun s => by kernel_rfl) TmH.run (by kernel_rfl) (by kernel_rfl) (by kernel_rfl) (by rfl) (by first | assumption | decide +kernel) (by decide +kernel) ⟨rfl, rfl, rfl, rfl, rfl, by decide +kernel⟩ ?hw ?hc
  case hw => w_witness2
  case hc =>
    refine TmG.walkG (l := PySem.Challenge.rw_teamtells_k10_plans_told) (n := 63) (k := 11) (x := "_law_script") rfl (by decide) (by kernel_rfl) ⟨rfl, by decide, by decide⟩ ?F
    intro w mg fa h Y G hmg0
    obtain ⟨K, KX, c⟩ := Y
    have hmg : mg ("law" : PySem.Str) = some (.ref fa) := by
      have e : (HandSHeadRun.topDef (OpenLaw.row PySem.Challenge.rw_teamtells_k10_plans_told).prog 51).name = ("law" : PySem.Str) := by kernel_rfl
      rw [← e]
      exact hmg0
    obtain ⟨fd, hb, hF⟩ := TmH.facts (P := (PySem.Challenge.rw_teamtells_k10_plans_told).prog) (w := w) KX G c hmg
    exact ⟨K, KX, fd, Tm.sp_law K, hb, fun H a ns hl hS => ⟨a, ns, rfl, hS, hl, fun _ => rfl⟩, fun base k1 k2 => hF base k1 k2⟩

