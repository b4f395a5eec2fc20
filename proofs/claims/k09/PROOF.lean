import PyProof.Rows.All
import Wide.All
import OpenK.AllK
import Wide.FinOn
import KE.KDictList
import PyProof.ExcBaseAll.IndexError
import KE.KExcInit
import KE.KCallOwn
import PyProof.InstEq
import KE.KFmtOwn
import PyProof.JoinWalk
import PyProof.CollectIter
import PyProof.DictWalks
import PyProof.ReprRoads
import PyProof.CallFns
import HandS.ForMost
import HandS.More
import HandS.IsInst
import HandS.DictComp
import HandS.Property
import HandS.Star
import HandS.TupMul
import HandS.TupAny
import HandS.Deep
import HandS.Wide
import HandS.Walk
import HandS.Conv
import HandS.Replace
import HandS.ExcInit
import HandS.ForSpec
import HandS.WordsExc
import HandS.FStr
import HandS.DeepEq
import HandS.Exc
import HandS.Nested
import HandS.NestedK
import HandS.EndTab
import HandS.Finally
import HandS.Head0
import HandS.Head1
import HandS.Head2
import HandS.HeadHook1
import HandS.HeadHook2
import HandS.HeadHook3
import HandS.HeadHook4
import HandS.HeadWalk
import PySem.Challenge.RW_teamtells_k09_errors_of_made_kinds
set_option Elab.async false
set_option linter.all false
set_option maxRecDepth 100000
set_option maxHeartbeats 2000000
/-! Rules of my own beside the hand layer. -/
namespace Tm
open PySem PySem.Spec PyProof.Rows L2

/-! ### v in o, v not in o: the class has a method for it -/
structure InM (K : PySem.W.Frag) (C f : Addr) : Prop where
  fnd : PySem.W.findIn K (.ref C) "__contains__" = some (some (.ref f))
  isf : PySem.W.isFn K (.ref f) = true
def rInO (C : Addr) (sp : Sp) (E : XK) (neg : Bool) : R2 := fun x y H Q => ∃ a dx fs, y = .ref a ∧ H a = some (.ins C dx fs) ∧
  sp [.ref a, x] H (fun v H' => ∃ b : Bool, v = .bl b ∧ Q (.bl (if neg then !b else b)) H') E
section
variable {X : Cx} {CX : CXT} {k : Nat} {C f : Addr} {fd : FuncData} {ps : List Str} {sp : Sp} {E : XK}
theorem in_run (M : InM X.K C f) (F : FnOk X.prog X.w X.K X.mg X.base CX k f fd ps sp) (hr : Room k X.A) (hb : Binds X.K fd ps []) (hx : Passes CX X E)
    {pins : List (Addr × Obj)} {σ : L2.St} {H : Hp} {s : Shared} {x : V} {v : Value} {a dx : Addr} {fs : List (Str × V)} {Q : Bool → VK} (I : Inv X pins σ H s) (rx : RelV x v) (ha : H a = some (.ins C dx fs))
    (g : Bool → Bool) (hq : sp [.ref a, x] H (fun v H' => ∃ b : Bool, v = .bl b ∧ Q b (.bl (g b)) H') E) :
    wpAny (model X.prog X.w) X.A (call (.ref f) [.ref a, v]) (fun r s' => wpAny (model X.prog X.w) X.A (truthy r) (fun b => EP X pins σ (Q b) (.bool (g b))) X.xe s') X.xe s := by
  have hv : Vals [V.ref a, x] [Value.ref a, v] := .cons rfl (.cons rx .nil)
  have run := run_fn (us := [.ref a, v]) (vs := [.ref a, x]) (Q := fun v H' => ∃ b : Bool, v = .bl b ∧ Q b (.bl (g b)) H') F hr hb .nil hx I hv (by simpa using hq)
  refine wpAny_mono run (fun r s' z => ?_) fun _ _ z => z
  obtain ⟨w, H', I', rw', b, ew, q⟩ := z
  subst ew
  have e : r = Value.bool b := rw'
  subst e
  exact wpAny_truthy_bool ⟨.bl (g b), H', I', rfl, q⟩
theorem op_inO (M : InM X.K C f) (F : FnOk X.prog X.w X.K X.mg X.base CX k f fd ps sp) (hr : Room k X.A) (hb : Binds X.K fd ps []) (hx : Passes CX X E) : OpR X (compareOp .In) (rInO C sp E false) := by
  intro pins s σ H x y v u Q I rx ry h
  obtain ⟨a, dx, fs, ey, ha, hq⟩ := h
  subst ey
  cases ry
  obtain ⟨mA, O, _⟩ := ins_get I.hok ha
  obtain ⟨od, J, _⟩ := O.look
  obtain ⟨m, hF⟩ := I.fr
  exact PySem.W.in_K hF I.ok.mod.kin J M.fnd M.isf (in_run (Q := fun _ => Q) M F hr hb hx I rx ha (fun b => b) (by simpa using hq))
theorem op_notInO (M : InM X.K C f) (F : FnOk X.prog X.w X.K X.mg X.base CX k f fd ps sp) (hr : Room k X.A) (hb : Binds X.K fd ps []) (hx : Passes CX X E) : OpR X (compareOp .NotIn) (rInO C sp E true) := by
  intro pins s σ H x y v u Q I rx ry h
  obtain ⟨a, dx, fs, ey, ha, hq⟩ := h
  subst ey
  cases ry
  obtain ⟨mA, O, _⟩ := ins_get I.hok ha
  obtain ⟨od, J, _⟩ := O.look
  obtain ⟨m, hF⟩ := I.fr
  exact PySem.W.notIn_K hF I.ok.mod.kin J M.fnd M.isf (in_run (Q := fun _ => Q) M F hr hb hx I rx ha (fun b => !b) (by simpa using hq))
end
/-! ### list(e.values()) -/
def tListVals (te : TE) : TE := fun σ H Q => te σ H fun x H1 => ∃ (d : Addr) (kvs : List (L2.Key × V)), x = .ref d ∧ H1 d = some (.dK kvs) ∧ ∀ p, H1 p = none → Q (.ref p) (upd H1 p (.lst (kvs.map (·.2))))
theorem kvals_map : ∀ {kvs : List (L2.Key × V)} {vs : List (L2.Key × Value)}, KV kvs vs → Vals (kvs.map (·.2)) (vs.map (·.2))
  | _, _, .nil => .nil
  | _, _, .cons r t => .cons r.2 (kvals_map t)
theorem vals_of_ix {vs : List (L2.Key × Value)} (acc : List Value) (hl : acc.length = vs.length) (h : ∀ (i : Nat) (v : Value), acc[i]? = some v → ∃ k : L2.Key, vs[i]? = some (k, v)) : acc = vs.map (·.2) := by
  apply List.ext_getElem?
  intro i
  rw [List.getElem?_map]
  cases e : acc[i]? with
  | none =>
    have : vs.length ≤ i := by rw [← hl]; exact List.getElem?_eq_none_iff.mp e
    rw [List.getElem?_eq_none_iff.mpr this]; rfl
  | some v =>
    obtain ⟨k, hk⟩ := h i v e
    rw [hk]; rfl
section
variable {X : Cx} {e : Expr} {te : TE} {p apos cpos pos : Pos}
theorem pe_listVals (hc : X.calm = true) (he : PE X e te) (hg : Gl X "list") (hm : X.mg "list" = none)
    (hb : attributeBase e "values" X.env (eval e X.env) = eval e X.env := by rfl) (hli : (apos.endLine == cpos.line) = true := by rfl)
    (hst : starEach [.Call (.Attribute e "values" apos) [] [] cpos] X.env = (false, eval (.Call (.Attribute e "values" apos) [] [] cpos) X.env) :: starEach [] X.env := by rfl) :
    PE X (.Call (.Name "list" p) [.Call (.Attribute e "values" apos) [] [] cpos] [] pos) (tListVals te) := by
  refine ⟨fun pins s σ H Q I hq => ?_⟩
  have hv : bootBuiltins "list" = some (.type "list") := by decide +kernel
  refine wpAny_Call_Name_kw (ld_blt I hg hm hv ?_)
  refine PyProof.Rows.callWith_type1 ?_ hst rfl
  rw [hst]
  show wpAny _ _ (spliced ((false, eval (.Call (.Attribute e "values" apos) [] [] cpos) X.env) :: backTo pos (starEach [] X.env))) _ _ s
  refine Calls.spliced_cons ?_
  have evd := he.run pins s σ H _ I hq
  refine wpAny_Call_method (T := "dict") (id := "dict.values") hb rfl hli F.plainAttrs_dict F.slot_dict_values F.type_dict_values (thn evd fun u s1 z => ?_)
  obtain ⟨x, H1, I1, rx, d, kvs, ex, hd, q⟩ := z
  subst ex
  have eu : u = Value.ref d := rx
  subst eu
  obtain ⟨hz, sys, vs, kv, hdo⟩ := I1.hok d _ hd
  obtain ⟨ep, hat⟩ := hdo.dictAt
  have lk : kvs.length = vs.length := Paired.length kv
  generalize hview : ({ cls := .type "dict_values", data := .fields #[.ref d] } : Obj) = view
  have I2 : Inv X pins σ H1 { s1 with heap := s1.heap.push view } := I1.kept (t' := s1.toks) fun b ob q => Heap.get?_push_of_some _ q
  refine ⟨hdo.typeIs, hdo.mapOf.noDict, ?_⟩
  show wpAny _ _ (callWith cpos (.builtin "dict.values") [.ref d] [] []) _ X.xe s1
  refine method_meetsIn F.slot_dict_values F.entry_dict_values rfl (PySem.evalArgs_none ⟨rfl, hdo.typeIs, F.args_dict_values_1 _, _, meets_dict_values (mixKind X.prog X.w) d sys, ⟨vs, hdo⟩, ?_⟩)
  subst hview
  refine Calls.spliced_nil ?_
  refine PySem.W.kdl_call (PySem.W.kdl_values (knd := mixKind X.prog X.w) (kvs := vs) (ep := ep)) (I1.ok.hd hc) ⟨⟨_, Heap.get?_push_size _ rfl, rfl, rfl⟩, hat.push _⟩ (by rw [← lk]; exact hz) fun h' tk acc c hk hS hacc => ?_
  have new : H1 (s1.heap.push ({ cls := .type "dict_values", data := .fields #[.ref d] } : Obj)).objs.size = none := I2.hok.fresh (Nat.le_refl _)
  have ea : acc.toList = vs.map (·.2) := vals_of_ix acc.toList (by rw [Array.length_toList]; exact hacc.1) fun i v hv' => hacc.2 i v (by rw [← Array.getElem?_toList]; exact hv')
  refine ⟨.ref _, _, I2.laid (t' := tk) (o := .lst (kvs.map (·.2))) hk (Nat.le_refl _) ⟨by rw [List.length_map]; exact hz, acc.toList, c, ?_, ?_⟩, rfl, q _ new⟩
  · rw [ea]; exact kvals_map kv
  · rw [Array.toArray_toList]; exact hS
end
end Tm

namespace Tm
open PySem PySem.Spec PyProof.Rows L2

/-! ### calls by name: a def of the top, a method, a property, the class -/
section
variable (P : Program) (w : World) (K : PySem.W.Frag) (mg : Str → Option Value) (base : Heap)
/-- the name x of the top stands for a def that keeps its promise -/
structure Ok (x : Str) (k : Nat) (ps : List Str) (sp : Sp) : Prop where
  ex : ∃ (f : Addr) (fd : FuncData), mg x = some (.ref f) ∧ PySem.W.keepIn K (.ref f) = true ∧ FnOk P w K mg base CX0 k f fd ps sp ∧ Binds K fd ps []
structure OkM (C : Addr) (m : Str) (k : Nat) (ps : List Str) (sp : Sp) : Prop where
  ex : ∃ (f : Addr) (fd : FuncData), Meth K C m f ∧ FnOk P w K mg base CX0 k f fd ps sp ∧ Binds K fd ps []
structure OkP (C : Addr) (m : Str) (k : Nat) (sp : Sp) : Prop where
  ex : ∃ (p g : Addr) (fd : FuncData), PropOf K C m p g ∧ FnOk P w K mg base CX0 k g fd ["self"] sp ∧ Binds K fd ["self"] []
structure OkC (x : Str) (C : Addr) (k : Nat) (ps : List Str) (sp : Sp) : Prop where
  ex : ∃ (f : Addr) (fd : FuncData), mg x = some (.ref C) ∧ Mk K C f ∧ FnOk P w K mg base CX0 k f fd ps sp ∧ Binds K fd ps []
structure OkIn (C : Addr) (k : Nat) (ps : List Str) (sp : Sp) : Prop where
  ex : ∃ (f : Addr) (fd : FuncData), InM K C f ∧ FnOk P w K mg base CX0 k f fd ps sp ∧ Binds K fd ps []
end
section
variable {X : Cx} {x m : Str} {k j : Nat} {C : Addr} {ps : List Str} {sp : Sp} {o e : Expr} {es : List Expr} {ta : TE} {t : TA} {p apos pos : Pos}
theorem Ok.call (O : Ok X.prog X.w X.K X.mg X.base x k ps sp) (hr : Room j X.A) (hk : k ≤ j := by decide) (ha : PA X (e :: es) t) (hg : Gl X x := by rfl) (hdb : (x == ("__debug__" : Str)) = false := by decide)
    (he : starEach (e :: es) X.env = (false, eval e X.env) :: starEach es X.env := by rfl) (hpl : (backTo pos (starEach es X.env)).any (·.1) = false := by rfl) :
    PE X (.Call (.Name x p) (e :: es) [] pos) (tCall sp [] E0 t) := by
  obtain ⟨f, fd, h1, h2, h3, h4⟩ := O.ex
  exact pe_call h3 (hr.mono hk) hg h1 h2 h4 .nil pass0 ha hdb he hpl
theorem Ok.call0 (O : Ok X.prog X.w X.K X.mg X.base x k ps sp) (hr : Room j X.A) (hk : k ≤ j := by decide) (hg : Gl X x := by rfl) (hdb : (x == ("__debug__" : Str)) = false := by decide) :
    PE X (.Call (.Name x p) [] [] pos) (tCall sp [] E0 tNil) := by
  obtain ⟨f, fd, h1, h2, h3, h4⟩ := O.ex
  exact pe_call0 h3 (hr.mono hk) hg h1 h2 h4 .nil pass0 hdb
theorem OkM.call {pl : Sem Bool} (O : OkM X.prog X.w X.K X.mg X.base C m k ps sp) (hr : Room j X.A) (c : Cls X.K C) (hk : k ≤ j := by decide) (he : PE X o ta) (ha : PA X (e :: es) t)
    (hst : starEach (e :: es) X.env = (false, eval e X.env) :: starEach es X.env := by rfl) (hpl : (backTo pos (starEach es X.env)).any (·.1) = false := by rfl)
    (ht : eval (.Call (.Attribute o m apos) (e :: es) [] pos) X.env = (do
      let v ← eval o X.env
      standAt apos.atName
      let (g, one) ← holding [v] (getMethod v m pl)
      callWith pos g one (backTo pos (starEach (e :: es) X.env)) (backToKw pos (keywordEach [] X.env))) := by rfl) :
    PE X (.Call (.Attribute o m apos) (e :: es) [] pos) (tMeth C m sp [] E0 ta t) := by
  obtain ⟨f, fd, h1, h2, h3⟩ := O.ex
  exact pe_meth he c h1 h2 (hr.mono hk) h3 .nil pass0 ha hst hpl ht
theorem OkP.get (O : OkP X.prog X.w X.K X.mg X.base C m k sp) (hr : Room j X.A) (c : Cls X.K C) (hk : k + 1 ≤ j := by decide) (he : PE X e ta) (hab : attributeBase e m X.env (eval e X.env) = eval e X.env := by rfl) :
    PE X (.Attribute e m pos) (tProp C sp [] E0 ta) := by
  obtain ⟨p, g, fd, h1, h2, h3⟩ := O.ex
  exact pe_prop he c h1 h2 (hr.mono hk) h3 .nil pass0 hab
theorem OkC.make (O : OkC X.prog X.w X.K X.mg X.base x C k ps sp) (hr : Room j X.A) (hk : k + 1 ≤ j := by decide) (ha : PA X (e :: es) t) (hg : Gl X x := by rfl) (hdb : (x == ("__debug__" : Str)) = false := by decide)
    (he : starEach (e :: es) X.env = (false, eval e X.env) :: starEach es X.env := by rfl) (hpl : (backTo pos (starEach es X.env)).any (·.1) = false := by rfl) :
    PE X (.Call (.Name x p) (e :: es) [] pos) (tMake C sp [] E0 t) := by
  obtain ⟨f, fd, h1, h2, h3, h4⟩ := O.ex
  exact pe_make h2 h3 (hr.mono hk) hg h1 h4 .nil pass0 ha hdb he hpl
theorem OkIn.isIn (O : OkIn X.prog X.w X.K X.mg X.base C k ps sp) (hr : Room j X.A) (hk : k ≤ j := by decide) : OpR X (compareOp .In) (rInO C sp E0 false) := by
  obtain ⟨f, fd, h1, h2, h3⟩ := O.ex
  exact op_inO h1 h2 (hr.mono hk) h3 pass0
theorem OkIn.notIn (O : OkIn X.prog X.w X.K X.mg X.base C k ps sp) (hr : Room j X.A) (hk : k ≤ j := by decide) : OpR X (compareOp .NotIn) (rInO C sp E0 true) := by
  obtain ⟨f, fd, h1, h2, h3⟩ := O.ex
  exact op_notInO h1 h2 (hr.mono hk) h3 pass0
end
/-! ### heaps that keep their tuples -/
def TupS (H H' : Hp) : Prop := ∀ a xs, H a = some (.tup xs) → H' a = some (.tup xs)
theorem tups_of {H H' : Hp} (e : Same H H') : TupS H H' := fun a xs h => e a _ h
theorem TupS.trans {H H1 H2 : Hp} (a : TupS H H1) (b : TupS H1 H2) : TupS H H2 := fun c xs h => b c xs (a c xs h)
theorem TupS.refl (H : Hp) : TupS H H := fun _ _ h => h
theorem tups_upd {H : Hp} {p : Addr} {o u : HO} (h : H p = some u) (hu : ∀ xs, u ≠ .tup xs) : TupS H (upd H p o) := fun a xs e => by
  rw [upd_ne (ne_of e h (fun z => hu xs z.symm))]; exact e
theorem same_new {H : Hp} {p : Addr} {o : HO} (h : H p = none) : Same H (upd H p o) := fun a u e => by
  rw [upd_ne (ne_of_none e h)]; exact e
theorem same_mut {H H' : Hp} {p : Addr} {o : HO} (e : Same H H') (h : H p = none) : Same H (upd H' p o) := fun a u ha => by
  rw [upd_ne (ne_of_none ha h)]; exact e a u ha
theorem sz_le {n : Nat} (h : n ≤ 100000) : n ≤ sizeLine := Nat.le_trans h (by decide)
theorem sz_lt {n : Nat} (h : n < 100000) : n < sizeLine := Nat.lt_of_lt_of_le h (by decide)

/-! ### what a reading gives, all that was tracked kept -/
def Ev (te : TE) (σ : L2.St) (H : Hp) (P : V → Hp → Prop) : Prop := ∀ Q : VK, (∀ v H', Same H H' → P v H' → Q v H') → te σ H Q
def EvT (t : TT) (σ : L2.St) (H : Hp) (b : Bool) : Prop := ∀ Q : Bool → Hp → Prop, (∀ H', Same H H' → Q b H') → t σ H Q
def EvA (t : TA) (σ : L2.St) (H : Hp) (P : List V → Hp → Prop) : Prop := ∀ Q : List V → Hp → Prop, (∀ vs H', Same H H' → P vs H' → Q vs H') → t σ H Q
section
variable {σ : L2.St} {H : Hp} {te ta tb : TE} {t : TA} {v x y : V} {P : V → Hp → Prop}
theorem Ev.imp {P' : V → Hp → Prop} (h : Ev te σ H P) (i : ∀ v H', Same H H' → P v H' → P' v H') : Ev te σ H P' := fun Q q => h Q fun v H' e p => q v H' e (i v H' e p)
theorem Ev.go {Q : VK} (h : Ev te σ H P) (q : ∀ v H', Same H H' → P v H' → Q v H') : te σ H Q := h Q q
theorem ev_is {i : Nat} (h : σ[i]? = some (some v)) (p : P v H) : Ev (tVar i) σ H P := fun Q q => ⟨v, h, q v H (Same.refl H) p⟩
theorem ev_c (p : P v H) : Ev (tC v) σ H P := fun Q q => q v H (Same.refl H) p
theorem eva_nil : EvA tNil σ H (fun vs _ => vs = []) := fun Q q => q [] H (Same.refl H) rfl
theorem eva_cons {P : V → Hp → Prop} {P2 : V → List V → Hp → Prop} (h : Ev te σ H P) (k : ∀ v H1, Same H H1 → P v H1 → EvA t σ H1 (P2 v)) : EvA (tCons te t) σ H (fun vs H' => ∃ v r H1, vs = v :: r ∧ Same H1 H' ∧ P v H1 ∧ P2 v r H') := fun Q q =>
  h _ fun v H1 e1 p1 => k v H1 e1 p1 _ fun r H2 e2 p2 => q (v :: r) H2 (e1.trans e2) ⟨v, r, H1, rfl, e2, p1, p2⟩
end
/-! ### comprehensions over any walk -/
/-- what the list at D is so far -/
def LcInv {α : Type} (H1 : Hp) (D : Addr) (zs : List α) (b : α → Bool) (R : α → V → Hp → Prop) (i : Nat) (H : Hp) : Prop :=
  H1 D = none ∧ Same H1 H ∧ ∃ ys, H D = some (.lst ys) ∧ Paired (fun v z => R z v H) ys ((zs.take i).filter b)
theorem take_one {α : Type} : ∀ {l : List α} {i : Nat} {x : α}, l[i]? = some x → l.take (i + 1) = l.take i ++ [x]
  | [], i, x, h => by simp at h
  | a :: l, 0, x, h => by
    have e : a = x := by simpa using h
    subst e; rfl
  | a :: l, i + 1, x, h => by
    have ih := take_one (l := l) (i := i) (x := x) (by simpa using h)
    show a :: l.take (i + 1) = (a :: l.take i) ++ [x]
    rw [ih]; rfl
theorem paired_app {α β : Type} {F : α → β → Prop} : ∀ {xs : List α} {ys : List β} {x : α} {y : β}, Paired F xs ys → F x y → Paired F (xs ++ [x]) (ys ++ [y])
  | _, _, _, _, .nil, h => .cons h .nil
  | _, _, _, _, .cons r t, h => .cons r (paired_app t h)
theorem lcinv_step {α : Type} {H1 H H2 : Hp} {D : Addr} {zs : List α} {b : α → Bool} {R : α → V → Hp → Prop} {i : Nat} {z : α} {σ2 : L2.St} {tt : TT} {te : TE}
    (hR : ∀ z v H H', TupS H H' → R z v H → R z v H') (hz : zs.length ≤ 100000) (hi : zs[i]? = some z) (p : LcInv H1 D zs b R i H) (e2 : Same H H2)
    (ht : EvT tt σ2 H2 (b z)) (he : b z = true → ∀ H3, Same H2 H3 → Ev te σ2 H3 (R z)) :
    tt σ2 H2 fun c H3 => if c = true then te σ2 H3 fun y H4 => ∃ acc, H4 D = some (.lst acc) ∧ acc.length < sizeLine ∧ LcInv H1 D zs b R (i + 1) (upd H4 D (.lst (acc ++ [y]))) else LcInv H1 D zs b R (i + 1) H3 := by
  obtain ⟨hD, e, ys, hys, hp⟩ := p
  refine ht _ fun H3 e3 => ?_
  cases hb : b z with
  | false =>
    rw [if_neg (by decide)]
    refine ⟨hD, e.trans (e2.trans e3), ys, e3 _ _ (e2 _ _ hys), ?_⟩
    rw [take_one hi, List.filter_append, List.filter_cons, if_neg (by rw [hb]; decide)]
    show Paired _ ys (_ ++ [])
    rw [List.append_nil]
    exact Paired.mapP hp fun v z r => hR _ _ _ _ (tups_of (e2.trans e3)) r
  | true =>
    rw [if_pos rfl]
    refine he hb H3 e3 _ fun y H4 e4 ry => ?_
    have hD4 : H4 D = some (.lst ys) := e4 _ _ (e3 _ _ (e2 _ _ hys))
    have hlt : ys.length < 100000 := by
      have l1 := Paired.length hp
      have l2 := List.length_filter_le b (zs.take i)
      have l3 := List.length_take_le i zs
      have l4 : i < zs.length := (List.getElem?_eq_some_iff.mp hi).1
      rw [List.length_take] at l2
      omega
    have tu : TupS H4 (upd H4 D (.lst (ys ++ [y]))) := tups_upd hD4 (fun xs z => by cases z)
    refine ⟨ys, hD4, sz_lt hlt, hD, same_mut (e.trans (e2.trans (e3.trans e4))) hD, ys ++ [y], upd_same, ?_⟩
    rw [take_one hi, List.filter_append, List.filter_cons, if_pos hb]
    exact paired_app (Paired.mapP hp fun v z r => hR _ _ _ _ ((tups_of (e2.trans (e3.trans e4))).trans tu) r) (hR _ _ _ _ tu ry)
/-- a list comprehension, over any walk -/
theorem lc_go {α : Type} {J : It} {n : Nat} {G : Hp → Prop} {Y : Nat → Hp → V → Hp → Prop} (w : Walk J n G Y) {g : TG} {tt : TT} {te : TE} {vs : List Nat} {σ : L2.St} {H1 : Hp} {Q : VK}
    (zs : List α) (b : α → Bool) (R : α → V → Hp → Prop) (hn : zs.length = n) (hz : n ≤ 100000) (hR : ∀ z v H H', TupS H H' → R z v H → R z v H') (hG : ∀ H, Same H1 H → G H)
    (hs : ∀ (i : Nat) z x H H', zs[i]? = some z → Same H1 H → Y i H x H' → ∀ Qg : L2.St → Hp → Prop, (∀ σ2 H2, wipe σ2 vs = wipe σ vs → Same H H2 → EvT tt σ2 H2 (b z) → (b z = true → ∀ H3, Same H2 H3 → Ev te σ2 H3 (R z)) → Qg σ2 H2) → g x (wipe σ vs) H' Qg)
    (hq : ∀ p H ys, H1 p = none → Same H1 H → H p = some (.lst ys) → Paired (fun v z => R z v H) ys (zs.filter b) → Q (.ref p) H) :
    ∀ D, H1 D = none → ∃ W : Nat → Nat → Hp → Prop, (∃ m, W 0 m (upd H1 D (.lst []))) ∧ ∀ i m H, W i m H → (J.stop i H ∧ Q (.ref D) H) ∨ (J.go i H ∧ ∃ Nx : Hp → Prop, (∀ H', Nx H' → ∃ m', m' < m ∧ W (i + 1) m' H') ∧
      ∀ x H', J.yld i H x H' → g x (wipe σ vs) H' fun σ2 H2 => wipe σ2 vs = wipe σ vs ∧ tt σ2 H2 fun b H3 => if b = true then te σ2 H3 fun y H4 => ∃ acc, H4 D = some (.lst acc) ∧ acc.length < sizeLine ∧ Nx (upd H4 D (.lst (acc ++ [y]))) else Nx H3) := by
  intro D hD
  refine lc_it w (LcInv H1 D zs b R) ⟨hD, same_new hD, [], upd_same, .nil⟩ (fun i H _ p => hG H p.2.1) (fun i x H H' hi p y => ?_) (fun H p => ?_)
  · obtain ⟨z, hz'⟩ : ∃ z, zs[i]? = some z := ⟨zs[i]'(by omega), List.getElem?_eq_getElem (by omega)⟩
    exact hs i z x H H' hz' p.2.1 y _ fun σ2 H2 hw e2 ht he => ⟨hw, lcinv_step hR (by omega) hz' p e2 ht he⟩
  · obtain ⟨_, e, ys, hys, hp⟩ := p
    rw [← hn, List.take_length] at hp
    exact hq D H ys hD e hys hp
/-- .. each item given to one name -/
theorem lc_name {α : Type} {J : It} {G : Hp → Prop} {Y : Nat → Hp → V → Hp → Prop} {n j : Nat} (w : Walk J n G Y) {tt : TT} {te : TE} {vs : List Nat} {σ : L2.St} {H1 : Hp} {Q : VK}
    (zs : List α) (b : α → Bool) (R : α → V → Hp → Prop) (hn : zs.length = n) (hz : n ≤ 100000) (hw : ∀ x, wipe ((wipe σ vs).set j (some x)) vs = wipe σ vs) (hR : ∀ z v H H', TupS H H' → R z v H → R z v H') (hG : ∀ H, Same H1 H → G H)
    (hY : ∀ i H x H', Y i H x H' → Same H H')
    (hs : ∀ (i : Nat) z x H H', zs[i]? = some z → Same H1 H → Y i H x H' → EvT tt ((wipe σ vs).set j (some x)) H' (b z) ∧ (b z = true → ∀ H3, Same H' H3 → Ev te ((wipe σ vs).set j (some x)) H3 (R z)))
    (hq : ∀ p H ys, H1 p = none → Same H1 H → H p = some (.lst ys) → Paired (fun v z => R z v H) ys (zs.filter b) → Q (.ref p) H) :
    ∀ D, H1 D = none → ∃ W : Nat → Nat → Hp → Prop, (∃ m, W 0 m (upd H1 D (.lst []))) ∧ ∀ i m H, W i m H → (J.stop i H ∧ Q (.ref D) H) ∨ (J.go i H ∧ ∃ Nx : Hp → Prop, (∀ H', Nx H' → ∃ m', m' < m ∧ W (i + 1) m' H') ∧
      ∀ x H', J.yld i H x H' → gName j x (wipe σ vs) H' fun σ2 H2 => wipe σ2 vs = wipe σ vs ∧ tt σ2 H2 fun b H3 => if b = true then te σ2 H3 fun y H4 => ∃ acc, H4 D = some (.lst acc) ∧ acc.length < sizeLine ∧ Nx (upd H4 D (.lst (acc ++ [y]))) else Nx H3) :=
  lc_go w zs b R hn hz hR hG (fun i z x H H' hi e y Qg q => q _ _ (hw x) (hY i H x H' y) (hs i z x H H' hi e y).1 (hs i z x H H' hi e y).2) hq
theorem evt_yes {σ : L2.St} {H : Hp} : EvT tYes σ H true := fun Q q => q H (Same.refl H)
theorem filter_all {α : Type} : ∀ (l : List α), l.filter (fun _ => true) = l
  | [] => rfl
  | a :: l => by rw [List.filter_cons, if_pos rfl, filter_all l]
end Tm

namespace Tm
open PySem PySem.Spec PyProof.Rows L2

/-! ### dict comprehensions over any walk: keys that differ -/
def DcInv {α : Type} (H1 : Hp) (D : Addr) (zs : List α) (b : α → Bool) (key : α → L2.Key) (R : α → V → Hp → Prop) (i : Nat) (H : Hp) : Prop :=
  H1 D = none ∧ Same H1 H ∧ ∃ kvs, H D = some (.dK kvs) ∧ Paired (fun kv z => kv.1 = key z ∧ R z kv.2 H) kvs ((zs.take i).filter b)
theorem valV_no {kvs : List (L2.Key × V)} {k : L2.Key} (h : k ∉ kvs.map (·.1)) : valV kvs k = none := by
  unfold valV
  rw [List.find?_eq_none.mpr fun kv hkv => by
    simp only [decide_eq_true_eq]
    intro e
    exact h (List.mem_map.mpr ⟨kv, hkv, e⟩)]
  rfl
theorem paired_keys {α : Type} {key : α → L2.Key} {F : L2.Key × V → α → Prop} (hF : ∀ kv z, F kv z → kv.1 = key z) : ∀ {kvs : List (L2.Key × V)} {zs : List α}, Paired F kvs zs → kvs.map (·.1) = zs.map key
  | _, _, .nil => rfl
  | _, _, .cons r t => by
    rw [List.map_cons, List.map_cons, paired_keys hF t, hF _ _ r]
theorem nd_split {α : Type} {l : List α} {i : Nat} {x : α} (h : l.Nodup) (hi : l[i]? = some x) : x ∉ l.take i := fun hm => by
  obtain ⟨j, hj, e⟩ := List.mem_iff_getElem.mp hm
  rw [List.length_take] at hj
  rw [List.getElem_take] at e
  obtain ⟨h1, e1⟩ := List.getElem?_eq_some_iff.mp hi
  have := (List.getElem_inj h).mp (e.trans e1.symm)
  omega
theorem dcinv_step {α : Type} {H1 H H2 : Hp} {D : Addr} {zs : List α} {b : α → Bool} {key : α → L2.Key} {R : α → V → Hp → Prop} {i : Nat} {z : α} {σ2 : L2.St} {tt : TT} {tk tv : TE}
    (hR : ∀ z v H H', TupS H H' → R z v H → R z v H') (hz : zs.length ≤ 100000) (nd : (zs.map key).Nodup) (hi : zs[i]? = some z) (p : DcInv H1 D zs b key R i H) (e2 : Same H H2)
    (ht : EvT tt σ2 H2 (b z)) (hk : b z = true → ∀ H3, Same H2 H3 → Ev tk σ2 H3 (fun v _ => v = kV (key z))) (he : b z = true → ∀ H3, Same H2 H3 → Ev tv σ2 H3 (R z)) :
    tt σ2 H2 fun c H3 => if c = true then tk σ2 H3 fun y H4 => tv σ2 H4 fun v H5 => ∃ kvs k, y = kV k ∧ H5 D = some (.dK kvs) ∧ kvs.length < sizeLine ∧ DcInv H1 D zs b key R (i + 1) (upd H5 D (.dK (putK kvs k v))) else DcInv H1 D zs b key R (i + 1) H3 := by
  obtain ⟨hD, e, kvs, hys, hp⟩ := p
  refine ht _ fun H3 e3 => ?_
  cases hb : b z with
  | false =>
    rw [if_neg (by decide)]
    refine ⟨hD, e.trans (e2.trans e3), kvs, e3 _ _ (e2 _ _ hys), ?_⟩
    rw [take_one hi, List.filter_append, List.filter_cons, if_neg (by rw [hb]; decide)]
    show Paired _ kvs (_ ++ [])
    rw [List.append_nil]
    exact Paired.mapP hp fun v z r => ⟨r.1, hR _ _ _ _ (tups_of (e2.trans e3)) r.2⟩
  | true =>
    rw [if_pos rfl]
    refine hk hb H3 e3 _ fun y H4 e4 ey => ?_
    refine he hb H4 (e3.trans e4) _ fun v H5 e5 rv => ?_
    have hD5 : H5 D = some (.dK kvs) := e5 _ _ (e4 _ _ (e3 _ _ (e2 _ _ hys)))
    have hlt : kvs.length < 100000 := by
      have l1 := Paired.length hp
      have l2 := List.length_filter_le b (zs.take i)
      have l4 : i < zs.length := (List.getElem?_eq_some_iff.mp hi).1
      rw [List.length_take] at l2
      omega
    have hno : key z ∉ kvs.map (·.1) := by
      rw [paired_keys (fun kv z h => h.1) hp]
      intro hm
      obtain ⟨z', hz', e'⟩ := List.mem_map.mp hm
      have h1 := (List.mem_filter.mp hz').1
      have h2 : key z ∉ (zs.map key).take i := nd_split nd (by rw [List.getElem?_map, hi]; rfl)
      rw [← List.map_take] at h2
      exact h2 (List.mem_map.mpr ⟨z', h1, e'⟩)
    have ep : putK kvs (key z) v = kvs ++ [(key z, v)] := putK_new _ (valV_no hno)
    have tu : ∀ o, TupS H5 (upd H5 D o) := fun o => tups_upd hD5 (fun xs z => by cases z)
    refine ⟨kvs, key z, ey, hD5, sz_lt hlt, hD, same_mut (e.trans (e2.trans (e3.trans (e4.trans e5)))) hD, kvs ++ [(key z, v)], by rw [ep]; exact upd_same, ?_⟩
    rw [take_one hi, List.filter_append, List.filter_cons, if_pos hb]
    exact paired_app (Paired.mapP hp fun v z r => ⟨r.1, hR _ _ _ _ ((tups_of (e2.trans (e3.trans (e4.trans e5)))).trans (tu _)) r.2⟩) ⟨rfl, hR _ _ _ _ (tu _) rv⟩
theorem dc_go {α : Type} {J : It} {n : Nat} {G : Hp → Prop} {Y : Nat → Hp → V → Hp → Prop} (w : Walk J n G Y) {g : TG} {tt : TT} {tk tv : TE} {vs : List Nat} {σ : L2.St} {H1 : Hp} {Q : VK}
    (zs : List α) (b : α → Bool) (key : α → L2.Key) (R : α → V → Hp → Prop) (hn : zs.length = n) (hz : n ≤ 100000) (nd : (zs.map key).Nodup) (hR : ∀ z v H H', TupS H H' → R z v H → R z v H') (hG : ∀ H, Same H1 H → G H)
    (hs : ∀ (i : Nat) z x H H', zs[i]? = some z → Same H1 H → Y i H x H' → ∀ Qg : L2.St → Hp → Prop, (∀ σ2 H2, wipe σ2 vs = wipe σ vs → Same H H2 → EvT tt σ2 H2 (b z) →
      (b z = true → ∀ H3, Same H2 H3 → Ev tk σ2 H3 (fun v _ => v = kV (key z))) → (b z = true → ∀ H3, Same H2 H3 → Ev tv σ2 H3 (R z)) → Qg σ2 H2) → g x (wipe σ vs) H' Qg)
    (hq : ∀ p H kvs, H1 p = none → Same H1 H → H p = some (.dK kvs) → Paired (fun kv z => kv.1 = key z ∧ R z kv.2 H) kvs (zs.filter b) → Q (.ref p) H) :
    ∀ D, H1 D = none → ∃ W : Nat → Nat → Hp → Prop, (∃ m, W 0 m (upd H1 D (.dK []))) ∧ ∀ i m H, W i m H → (J.stop i H ∧ Q (.ref D) H) ∨ (J.go i H ∧ ∃ Nx : Hp → Prop, (∀ H', Nx H' → ∃ m', m' < m ∧ W (i + 1) m' H') ∧
      ∀ x H', J.yld i H x H' → g x (wipe σ vs) H' fun σ2 H2 => wipe σ2 vs = wipe σ vs ∧ tt σ2 H2 fun b H3 => if b = true then tk σ2 H3 fun y H4 => tv σ2 H4 fun z H5 => ∃ kvs k, y = kV k ∧ H5 D = some (.dK kvs) ∧ kvs.length < sizeLine ∧ Nx (upd H5 D (.dK (putK kvs k z))) else Nx H3) := by
  intro D hD
  refine ⟨fun i m H => m = n - i ∧ i ≤ n ∧ DcInv H1 D zs b key R i H, ⟨n, by simp, Nat.zero_le _, hD, same_new hD, [], upd_same, .nil⟩, ?_⟩
  rintro i m H ⟨em, hi, p⟩
  have q := hG H p.2.1
  by_cases hlt : i < n
  · refine .inr ⟨w.goes i H hlt q, DcInv H1 D zs b key R (i + 1), fun H' p' => ⟨n - (i + 1), by omega, rfl, hlt, p'⟩, fun x H' y => ?_⟩
    obtain ⟨z, hz'⟩ : ∃ z, zs[i]? = some z := ⟨zs[i]'(by omega), List.getElem?_eq_getElem (by omega)⟩
    exact hs i z x H H' hz' p.2.1 (w.yields i H x H' hlt q y) _ fun σ2 H2 hw e2 ht hk he => ⟨hw, dcinv_step hR (by omega) nd hz' p e2 ht hk he⟩
  · have e : i = n := by omega
    subst e
    obtain ⟨_, e, kvs, hys, hp⟩ := p
    rw [← hn, List.take_length] at hp
    exact .inl ⟨w.stops H q, hq D H kvs hD e hys hp⟩
/-! ### a pair unpacked into two names -/
theorem pair_names {K : PySem.W.Frag} {i j : Nat} {σ : L2.St} {H : Hp} {T : Addr} {x y : V} {Q : L2.St → Hp → Prop} (hT : SqT K H T [x, y]) (q : Q ((σ.set i (some x)).set j (some y)) H) :
    gTup K 2 (gCons (gName i) (gCons (gName j) gNil)) (.ref T) σ H Q := ⟨T, [x, y], rfl, hT, rfl, x, [y], rfl, y, [], rfl, rfl, q⟩

/-! ### pairs, rows, tables -/
abbrev Row := List (Int × Int)
abbrev Tab := List (Str × Row)
def PairV (H : Hp) (v : V) (p : Int × Int) : Prop := ∃ a, v = .ref a ∧ H a = some (.tup [.int p.1, .int p.2])
def RowV (H : Hp) (v : V) (r : Row) : Prop := ∃ a vs, v = .ref a ∧ H a = some (.tup vs) ∧ Paired (PairV H) vs r
def TabV (H : Hp) (kvs : List (L2.Key × V)) (t : Tab) : Prop := Paired (fun kv e => kv.1 = Sum.inr e.1 ∧ RowV H kv.2 e.2) kvs t
theorem PairV.mono {H H' : Hp} {v : V} {p : Int × Int} (e : TupS H H') (h : PairV H v p) : PairV H' v p := by
  obtain ⟨a, e1, e2⟩ := h
  exact ⟨a, e1, e a _ e2⟩
theorem RowV.mono {H H' : Hp} {v : V} {r : Row} (e : TupS H H') (h : RowV H v r) : RowV H' v r := by
  obtain ⟨a, vs, e1, e2, e3⟩ := h
  exact ⟨a, vs, e1, e a _ e2, Paired.mapP e3 fun _ _ h => h.mono e⟩
theorem TabV.mono {H H' : Hp} {kvs : List (L2.Key × V)} {t : Tab} (e : TupS H H') (h : TabV H kvs t) : TabV H' kvs t :=
  Paired.mapP h fun _ _ h => ⟨h.1, h.2.mono e⟩
theorem paired_ix {α β : Type} {F : α → β → Prop} : ∀ {xs : List α} {ys : List β} {i : Nat} {y : β}, Paired F xs ys → ys[i]? = some y → ∃ x, xs[i]? = some x ∧ F x y
  | _, _, i, y, .nil, h => by simp at h
  | _, _, 0, y, .cons r t, h => by
    simp at h
    subst h
    exact ⟨_, rfl, r⟩
  | _, _, i + 1, y, .cons r t, h => by
    obtain ⟨x, h1, h2⟩ := paired_ix (i := i) t (by simpa using h)
    exact ⟨x, by simpa using h1, h2⟩
theorem paired_ix2 {α β : Type} {F : α → β → Prop} : ∀ {xs : List α} {ys : List β} {i : Nat} {x : α}, Paired F xs ys → xs[i]? = some x → ∃ y, ys[i]? = some y ∧ F x y
  | _, _, i, y, .nil, h => by simp at h
  | _, _, 0, y, .cons r t, h => by
    simp at h
    subst h
    exact ⟨_, rfl, r⟩
  | _, _, i + 1, y, .cons r t, h => by
    obtain ⟨x, h1, h2⟩ := paired_ix2 (i := i) t (by simpa using h)
    exact ⟨x, by simpa using h1, h2⟩
/-! ### what a right table is -/
def okName (x : Str) : Bool := decide (1 ≤ x.length) && decide (x.length ≤ 8) && x.cps.toList.all fun c => decide (97 ≤ c) && decide (c ≤ 122)
def okPair (n : Nat) (p : Int × Int) : Bool := decide (0 ≤ p.1) && decide (p.1 ≤ (n : Int) - 1) && decide (0 ≤ p.2) && decide (p.2 ≤ 99)
def okRow (n : Nat) (r : Row) : Bool := decide (r.length = n) && r.all (okPair n)
def sizeT (t : Tab) : Nat := match t with
  | [] => 0
  | e :: _ => e.2.length
def okTab (t : Tab) : Bool := decide (1 ≤ t.length) && decide (t.length ≤ 6) && decide (1 ≤ sizeT t) && decide (sizeT t ≤ 12) && t.all fun e => okName e.1 && okRow (sizeT t) e.2
theorem pe_ty {X : Cx} {n : String} {x : Str} {pos : Pos} (hg : Gl X x) (hm : X.mg x = none) (hv : bootBuiltins x = some (.type n)) (hn : x ≠ "__name__" := by decide) (hd : (x == ("__debug__" : Str)) = false := by decide) : PE X (.Name x pos) (tC (.ty n)) := pe_bltn (v := .ty n) hg hm hv rfl hn hd
/-- a constant of the top -/
structure GV (mg : Str → Option Value) (x : Str) (v : V) : Prop where
  ex : ∃ u, mg x = some u ∧ RelV v u
theorem GV.pe {X : Cx} {x : Str} {v : V} {pos : Pos} (g : GV X.mg x v) (hg : Gl X x := by rfl) (hd : (x == ("__debug__" : Str)) = false := by decide) : PE X (.Name x pos) (tC v) := by
  obtain ⟨u, h1, h2⟩ := g.ex
  exact pe_glob hg h1 h2 hd
theorem ifT {c : Bool} {A B : Prop} (hc : c = true) (h : A) : if c = true then A else B := by
  rw [if_pos hc]; exact h
theorem ifF {c : Bool} {A B : Prop} (hc : c = false) (h : B) : if c = true then A else B := by
  rw [hc, if_neg (by decide)]; exact h
/-- constants of the program's own modules -/
structure Gb (mg : Str → Option Value) : Prop where
  MAX_LETTERS : GV mg "MAX_LETTERS" (.int 8)
  MAX_STATES : GV mg "MAX_STATES" (.int 12)
  MAX_OPERATIONS : GV mg "MAX_OPERATIONS" (.int 6)
  MAX_ANSWER : GV mg "MAX_ANSWER" (.int 99)
  ALPHABET : GV mg "ALPHABET" (.str (PySem.Str.ofString "abcdefghijklmnopqrstuvwxyz"))
theorem bools_all {α : Type} (f : α → Bool) : ∀ {ys : List V} {zs : List α}, Paired (fun v z => v = V.bl (f z)) ys zs → ys = (zs.map f).map V.bl
  | _, _, .nil => rfl
  | _, _, .cons r t => by rw [r, bools_all f t]; rfl
theorem all_id_map {α : Type} (f : α → Bool) (zs : List α) : (zs.map f).all id = zs.all f := by
  rw [List.all_map]; rfl
theorem alpha_in {c : Nat} (h : (decide (97 ≤ c) && decide (c ≤ 122)) = true) : decide (c ∈ (PySem.Str.ofString "abcdefghijklmnopqrstuvwxyz").cps.toList) = true := by
  rw [Bool.and_eq_true, decide_eq_true_eq, decide_eq_true_eq] at h
  have e : (PySem.Str.ofString "abcdefghijklmnopqrstuvwxyz").cps.toList = (List.range 26).map (97 + ·) := by decide +kernel
  rw [e, decide_eq_true_eq, List.mem_map]
  exact ⟨c - 97, List.mem_range.mpr (by omega), by omega⟩
theorem same_seqT {K : PySem.W.Frag} {H H' : Hp} {a : Addr} {xs : List V} (e : Same H H') (h : SqT K H a xs) : SqT K H' a xs := by
  rcases h with (h | ⟨o, h⟩) | h
  · exact .inl (.inl (e _ _ h))
  · exact .inl (.inr ⟨o, e _ _ h⟩)
  · exact .inr h
theorem lc_runL {α : Type} {K : PySem.W.Frag} {σ : L2.St} {H : Hp} {Q : VK} {j : Nat} {tt : TT} {te : TE} {vs : List Nat} {tl : TE} {xs : List V} (hl : Ev tl σ H fun v H1 => ∃ a, v = .ref a ∧ SqL K H1 a xs) (zs : List α) (hlen : xs.length = zs.length)
    (b : α → Bool) (R : α → V → Hp → Prop) (hz : zs.length ≤ 100000) (hw : ∀ x, wipe ((wipe σ vs).set j (some x)) vs = wipe σ vs) (hR : ∀ z v H H', TupS H H' → R z v H → R z v H')
    (hs : ∀ (i : Nat) z x H1, zs[i]? = some z → xs[i]? = some x → Same H H1 → EvT tt ((wipe σ vs).set j (some x)) H1 (b z) ∧ (b z = true → ∀ H3, Same H1 H3 → Ev te ((wipe σ vs).set j (some x)) H3 (R z)))
    (hq : ∀ p H1 ys, H p = none → Same H H1 → H1 p = some (.lst ys) → Paired (fun v z => R z v H1) ys (zs.filter b) → Q (.ref p) H1) : tLc (iList K tl) (gName j) tt te vs σ H Q := by
  refine hl _ fun v H1 e h => ?_
  obtain ⟨a, ea, hs'⟩ := h
  refine ⟨a, ea, ⟨xs, hs'⟩, lc_name (Q := Q) (walk_list) zs b R (hlen.symm) (by omega) hw hR (fun H2 e2 => e2.seq hs') (fun i H v H' y => by rw [y.1]; exact Same.refl _) (fun i z x H2 H' hz' e2 y => ?_) (fun p H2 ys hp e2 => hq p H2 ys (e.free hp) (e.trans e2))⟩
  obtain ⟨e3, y⟩ := y
  subst e3
  exact hs i z x _ hz' y (e.trans e2)
theorem lc_runT {α : Type} {K : PySem.W.Frag} {σ : L2.St} {H : Hp} {Q : VK} {j : Nat} {tt : TT} {te : TE} {vs : List Nat} {tl : TE} {xs : List V} (hl : Ev tl σ H fun v H1 => ∃ a, v = .ref a ∧ SqT K H1 a xs) (zs : List α) (hlen : xs.length = zs.length)
    (b : α → Bool) (R : α → V → Hp → Prop) (hz : zs.length ≤ 100000) (hw : ∀ x, wipe ((wipe σ vs).set j (some x)) vs = wipe σ vs) (hR : ∀ z v H H', TupS H H' → R z v H → R z v H')
    (hs : ∀ (i : Nat) z x H1, zs[i]? = some z → xs[i]? = some x → Same H H1 → EvT tt ((wipe σ vs).set j (some x)) H1 (b z) ∧ (b z = true → ∀ H3, Same H1 H3 → Ev te ((wipe σ vs).set j (some x)) H3 (R z)))
    (hq : ∀ p H1 ys, H p = none → Same H H1 → H1 p = some (.lst ys) → Paired (fun v z => R z v H1) ys (zs.filter b) → Q (.ref p) H1) : tLc (iTup K tl) (gName j) tt te vs σ H Q := by
  refine hl _ fun v H1 e h => ?_
  obtain ⟨a, ea, hs'⟩ := h
  refine ⟨a, ea, ⟨xs, hs'⟩, lc_name (Q := Q) (walk_tup) zs b R (hlen.symm) (by omega) hw hR (fun H2 e2 => same_seqT e2 hs') (fun i H v H' y => by rw [y.1]; exact Same.refl _) (fun i z x H2 H' hz' e2 y => ?_) (fun p H2 ys hp e2 => hq p H2 ys (e.free hp) (e.trans e2))⟩
  obtain ⟨e3, y⟩ := y
  subst e3
  exact hs i z x _ hz' y (e.trans e2)
theorem lc_runR {α : Type} {σ : L2.St} {H : Hp} {Q : VK} {j : Nat} {tt : TT} {te : TE} {vs : List Nat} {ta : TA} {n : Int} (h : EvA ta σ H fun l _ => l = [.int n]) (hn : -100000 ≤ n ∧ n ≤ 100000) (zs : List α) (hlen : zs.length = n.toNat)
    (b : α → Bool) (R : α → V → Hp → Prop) (hz : zs.length ≤ 100000) (hw : ∀ x, wipe ((wipe σ vs).set j (some x)) vs = wipe σ vs) (hR : ∀ z v H H', TupS H H' → R z v H → R z v H')
    (hs : ∀ (i : Nat) z x H1, zs[i]? = some z → x = .int (i : Int) → Same H H1 → EvT tt ((wipe σ vs).set j (some x)) H1 (b z) ∧ (b z = true → ∀ H3, Same H1 H3 → Ev te ((wipe σ vs).set j (some x)) H3 (R z)))
    (hq : ∀ p H1 ys, H p = none → Same H H1 → H1 p = some (.lst ys) → Paired (fun v z => R z v H1) ys (zs.filter b) → Q (.ref p) H1) : tLc (iRng1 ta) (gName j) tt te vs σ H Q := by
  refine h _ fun l H1 e el => ⟨n, el, by omega, by omega, lc_name (Q := Q) (walk_range) zs b R (hlen) (by omega) hw hR (fun _ _ => trivial) (fun i H v H' y => by rw [y.1]; exact Same.refl _) (fun i z x H2 H' hz' e2 y => ?_) (fun p H2 ys hp e2 => hq p H2 ys (e.free hp) (e.trans e2))⟩
  obtain ⟨e3, y⟩ := y
  subst e3
  exact hs i z x _ hz' (by rw [y]; show V.int (0 + (i : Int)) = _; rw [Int.zero_add]) (e.trans e2)
theorem lc_runR2 {α : Type} {σ : L2.St} {H : Hp} {Q : VK} {j : Nat} {tt : TT} {te : TE} {vs : List Nat} {ta : TA} {lo n : Int} (h : EvA ta σ H fun l _ => l = [.int lo, .int n]) (hn : -100000 ≤ lo ∧ lo ≤ 100000 ∧ -100000 ≤ n ∧ n ≤ 100000) (zs : List α) (hlen : zs.length = (n - lo).toNat)
    (b : α → Bool) (R : α → V → Hp → Prop) (hz : zs.length ≤ 100000) (hw : ∀ x, wipe ((wipe σ vs).set j (some x)) vs = wipe σ vs) (hR : ∀ z v H H', TupS H H' → R z v H → R z v H')
    (hs : ∀ (i : Nat) z x H1, zs[i]? = some z → x = .int (lo + (i : Int)) → Same H H1 → EvT tt ((wipe σ vs).set j (some x)) H1 (b z) ∧ (b z = true → ∀ H3, Same H1 H3 → Ev te ((wipe σ vs).set j (some x)) H3 (R z)))
    (hq : ∀ p H1 ys, H p = none → Same H H1 → H1 p = some (.lst ys) → Paired (fun v z => R z v H1) ys (zs.filter b) → Q (.ref p) H1) : tLc (iRng2 ta) (gName j) tt te vs σ H Q := by
  refine h _ fun l H1 e el => ⟨lo, n, el, by omega, lc_name (Q := Q) (walk_range) zs b R (hlen) (by omega) hw hR (fun _ _ => trivial) (fun i H v H' y => by rw [y.1]; exact Same.refl _) (fun i z x H2 H' hz' e2 y => ?_) (fun p H2 ys hp e2 => hq p H2 ys (e.free hp) (e.trans e2))⟩
  obtain ⟨e3, y⟩ := y
  subst e3
  exact hs i z x _ hz' y (e.trans e2)
theorem lc_runS {α : Type} {σ : L2.St} {H : Hp} {Q : VK} {j : Nat} {tt : TT} {te : TE} {vs : List Nat} {te0 : TE} {x0 : Str} (h : Ev te0 σ H fun v _ => v = .str x0) (zs : List α) (hlen : zs.length = x0.cps.size)
    (b : α → Bool) (R : α → V → Hp → Prop) (hz : zs.length ≤ 100000) (hw : ∀ x, wipe ((wipe σ vs).set j (some x)) vs = wipe σ vs) (hR : ∀ z v H H', TupS H H' → R z v H → R z v H')
    (hs : ∀ (i : Nat) z x H1, zs[i]? = some z → (∃ c, x0.cps[i]? = some c ∧ x = .str ⟨#[c]⟩) → Same H H1 → EvT tt ((wipe σ vs).set j (some x)) H1 (b z) ∧ (b z = true → ∀ H3, Same H1 H3 → Ev te ((wipe σ vs).set j (some x)) H3 (R z)))
    (hq : ∀ p H1 ys, H p = none → Same H H1 → H1 p = some (.lst ys) → Paired (fun v z => R z v H1) ys (zs.filter b) → Q (.ref p) H1) : tLc (iStr te0) (gName j) tt te vs σ H Q := by
  refine h _ fun v H1 e ev => ⟨x0, ev, lc_name (Q := Q) (walk_str) zs b R (hlen) (by omega) hw hR (fun _ _ => trivial) (fun i H v H' y => by rw [y.1]; exact Same.refl _) (fun i z x H2 H' hz' e2 y => ?_) (fun p H2 ys hp e2 => hq p H2 ys (e.free hp) (e.trans e2))⟩
  obtain ⟨e3, y⟩ := y
  subst e3
  exact hs i z x _ hz' y (e.trans e2)
end Tm

namespace Tm
open PySem PySem.Spec PyProof.Rows L2

section
variable {α : Type} {K : PySem.W.Frag} {σ : L2.St} {H : Hp} {Q : VK} {i j : Nat} {tt : TT} {te tk tv : TE} {vs : List Nat}
/-- a comprehension over the items of a locked dict -/
theorem lc_runI {td : TE} {d : Addr} {o : Obj} {kvs : List (L2.Key × V)} (hd : Ev td σ H fun v _ => v = .ref d) (hf : H d = some (.frz o (.dK kvs))) (zs : List α) (hlen : zs.length = kvs.length) (b : α → Bool) (R : α → V → Hp → Prop) (hz : zs.length ≤ 100000)
    (hw : ∀ x y, wipe (((wipe σ vs).set i (some x)).set j (some y)) vs = wipe σ vs) (hR : ∀ z v H H', TupS H H' → R z v H → R z v H')
    (hs : ∀ (k : Nat) z kv H1, zs[k]? = some z → kvs[k]? = some kv → Same H H1 → EvT tt (((wipe σ vs).set i (some (kV kv.1))).set j (some kv.2)) H1 (b z) ∧ (b z = true → ∀ H3, Same H1 H3 → Ev te (((wipe σ vs).set i (some (kV kv.1))).set j (some kv.2)) H3 (R z)))
    (hq : ∀ p H1 ys, H p = none → Same H H1 → H1 p = some (.lst ys) → Paired (fun v z => R z v H1) ys (zs.filter b) → Q (.ref p) H1) :
    tLc (iItems td) (gTup K 2 (gCons (gName i) (gCons (gName j) gNil))) tt te vs σ H Q := by
  refine hd _ fun v H1 e ev => ⟨d, o, kvs, ev, e _ _ hf, ?_⟩
  refine lc_go (Q := Q) walk_items zs b R hlen (by omega) hR (fun H2 e2 => e2 _ _ (e _ _ hf)) (fun k z x H2 H' hz' e2 y Qg qg => ?_) (fun p H2 ys hp e2 => hq p H2 ys (e.free hp) (e.trans e2))
  obtain ⟨T, x', y', rfl, hT, rfl, hx, hy⟩ := y
  replace hx : kvs[k]?.map (fun kv => kV kv.1) = some x' := hx
  replace hy : kvs[k]?.map Prod.snd = some y' := hy
  cases hk : kvs[k]? with
  | none =>
    rw [hk] at hx
    cases hx
  | some kv =>
    rw [hk] at hx hy
    have ex : kV kv.1 = x' := Option.some.inj hx
    have ey : kv.2 = y' := Option.some.inj hy
    subst ex ey
    have e3 : Same H2 (upd H2 T (.tup [kV kv.1, kv.2])) := same_new hT
    refine pair_names (SqT.of upd_same) (qg _ _ (hw _ _) e3 (hs k z kv _ hz' hk (e.trans (e2.trans e3))).1 (hs k z kv _ hz' hk (e.trans (e2.trans e3))).2)
/-- a dict comprehension over a list, one name -/
theorem dc_runL {tl : TE} {xs : List V} (hl : Ev tl σ H fun v H1 => ∃ a, v = .ref a ∧ SqL K H1 a xs) (zs : List α) (hlen : xs.length = zs.length) (b : α → Bool) (key : α → L2.Key) (R : α → V → Hp → Prop) (hz : zs.length ≤ 100000) (nd : (zs.map key).Nodup)
    (hw : ∀ x, wipe ((wipe σ vs).set j (some x)) vs = wipe σ vs) (hR : ∀ z v H H', TupS H H' → R z v H → R z v H')
    (hs : ∀ (k : Nat) z x H1, zs[k]? = some z → xs[k]? = some x → Same H H1 → EvT tt ((wipe σ vs).set j (some x)) H1 (b z) ∧ (b z = true → ∀ H3, Same H1 H3 → Ev tk ((wipe σ vs).set j (some x)) H3 (fun v _ => v = kV (key z))) ∧ (b z = true → ∀ H3, Same H1 H3 → Ev tv ((wipe σ vs).set j (some x)) H3 (R z)))
    (hq : ∀ p H1 kvs, H p = none → Same H H1 → H1 p = some (.dK kvs) → Paired (fun kv z => kv.1 = key z ∧ R z kv.2 H1) kvs (zs.filter b) → Q (.ref p) H1) : tDc (iList K tl) (gName j) tt tk tv vs σ H Q := by
  refine hl _ fun v H1 e h => ?_
  obtain ⟨a, ea, hs'⟩ := h
  refine ⟨a, ea, ⟨xs, hs'⟩, dc_go (Q := Q) walk_list zs b key R hlen.symm (by omega) nd hR (fun H2 e2 => e2.seq hs') (fun k z x H2 H' hz' e2 y Qg qg => ?_) (fun p H2 ys hp e2 => hq p H2 ys (e.free hp) (e.trans e2))⟩
  obtain ⟨e3, y⟩ := y
  subst e3
  obtain ⟨h1, h2, h3⟩ := hs k z x _ hz' y (e.trans e2)
  exact qg _ _ (hw x) (Same.refl _) h1 h2 h3
/-- .. over enumerate of a list -/
theorem dc_runE {ta : TA} {xs : List V} (hl : EvA ta σ H fun l H1 => ∃ a, l = [.ref a] ∧ SqL K H1 a xs) (zs : List α) (hlen : xs.length = zs.length) (b : α → Bool) (key : α → L2.Key) (R : α → V → Hp → Prop) (hz : zs.length ≤ 100000) (nd : (zs.map key).Nodup)
    (hw : ∀ x y, wipe (((wipe σ vs).set i (some x)).set j (some y)) vs = wipe σ vs) (hR : ∀ z v H H', TupS H H' → R z v H → R z v H')
    (hs : ∀ (k : Nat) z x H1, zs[k]? = some z → xs[k]? = some x → Same H H1 → EvT tt (((wipe σ vs).set i (some (.int (k : Int)))).set j (some x)) H1 (b z) ∧ (b z = true → ∀ H3, Same H1 H3 → Ev tk (((wipe σ vs).set i (some (.int (k : Int)))).set j (some x)) H3 (fun v _ => v = kV (key z))) ∧
      (b z = true → ∀ H3, Same H1 H3 → Ev tv (((wipe σ vs).set i (some (.int (k : Int)))).set j (some x)) H3 (R z)))
    (hq : ∀ p H1 kvs, H p = none → Same H H1 → H1 p = some (.dK kvs) → Paired (fun kv z => kv.1 = key z ∧ R z kv.2 H1) kvs (zs.filter b) → Q (.ref p) H1) : tDc (iEnum K ta) (gTup K 2 (gCons (gName i) (gCons (gName j) gNil))) tt tk tv vs σ H Q := by
  refine hl _ fun v H1 e h => ?_
  obtain ⟨a, ea, hs'⟩ := h
  refine ⟨a, xs, ea, hs', dc_go (Q := Q) walk_enum zs b key R hlen.symm (by omega) nd hR (fun H2 e2 => e2.seq hs') (fun k z x H2 H' hz' e2 y Qg qg => ?_) (fun p H2 ys hp e2 => hq p H2 ys (e.free hp) (e.trans e2))⟩
  obtain ⟨T, x', y', rfl, hT, rfl, hx, hy⟩ := y
  have ex : V.int (k : Int) = x' := Option.some.inj hx
  subst ex
  have e3 : Same H2 (upd H2 T (.tup [V.int (k : Int), y'])) := same_new hT
  obtain ⟨h1, h2, h3⟩ := hs k z y' _ hz' hy (e.trans (e2.trans e3))
  exact pair_names (SqT.of upd_same) (qg _ _ (hw _ _) e3 h1 h2 h3)
/-- .. over the items of a locked dict -/
theorem dc_runI {td : TE} {d : Addr} {o : Obj} {kvs : List (L2.Key × V)} (hd : Ev td σ H fun v _ => v = .ref d) (hf : H d = some (.frz o (.dK kvs))) (zs : List α) (hlen : zs.length = kvs.length) (b : α → Bool) (key : α → L2.Key) (R : α → V → Hp → Prop) (hz : zs.length ≤ 100000) (nd : (zs.map key).Nodup)
    (hw : ∀ x y, wipe (((wipe σ vs).set i (some x)).set j (some y)) vs = wipe σ vs) (hR : ∀ z v H H', TupS H H' → R z v H → R z v H')
    (hs : ∀ (k : Nat) z kv H1, zs[k]? = some z → kvs[k]? = some kv → Same H H1 → EvT tt (((wipe σ vs).set i (some (kV kv.1))).set j (some kv.2)) H1 (b z) ∧ (b z = true → ∀ H3, Same H1 H3 → Ev tk (((wipe σ vs).set i (some (kV kv.1))).set j (some kv.2)) H3 (fun v _ => v = kV (key z))) ∧
      (b z = true → ∀ H3, Same H1 H3 → Ev tv (((wipe σ vs).set i (some (kV kv.1))).set j (some kv.2)) H3 (R z)))
    (hq : ∀ p H1 kvs', H p = none → Same H H1 → H1 p = some (.dK kvs') → Paired (fun kv z => kv.1 = key z ∧ R z kv.2 H1) kvs' (zs.filter b) → Q (.ref p) H1) :
    tDc (iItems td) (gTup K 2 (gCons (gName i) (gCons (gName j) gNil))) tt tk tv vs σ H Q := by
  refine hd _ fun v H1 e ev => ⟨d, o, kvs, ev, e _ _ hf, ?_⟩
  refine dc_go (Q := Q) walk_items zs b key R hlen (by omega) nd hR (fun H2 e2 => e2 _ _ (e _ _ hf)) (fun k z x H2 H' hz' e2 y Qg qg => ?_) (fun p H2 ys hp e2 => hq p H2 ys (e.free hp) (e.trans e2))
  obtain ⟨T, x', y', rfl, hT, rfl, hx, hy⟩ := y
  replace hx : kvs[k]?.map (fun kv => kV kv.1) = some x' := hx
  replace hy : kvs[k]?.map Prod.snd = some y' := hy
  cases hk : kvs[k]? with
  | none =>
    rw [hk] at hx
    cases hx
  | some kv =>
    rw [hk] at hx hy
    have ex : kV kv.1 = x' := Option.some.inj hx
    have ey : kv.2 = y' := Option.some.inj hy
    subst ex ey
    have e3 : Same H2 (upd H2 T (.tup [kV kv.1, kv.2])) := same_new hT
    obtain ⟨h1, h2, h3⟩ := hs k z kv _ hz' hk (e.trans (e2.trans e3))
    exact pair_names (SqT.of upd_same) (qg _ _ (hw _ _) e3 h1 h2 h3)
end
/-! ### a locked dict: what is within, what is behind -/
theorem lock_in {H : Hp} {d : Addr} {u : HO} {o : Obj} (h : H d = some u) (hu : ∀ xs, u ≠ .tup xs) : TupS H (upd H d (.frz o u)) := tups_upd h hu
theorem lock_out {H H' : Hp} {d : Addr} {u : HO} {o : Obj} (h : H d = some u) (e : Same (upd H d (.frz o u)) H') : Same H (upd H' d u) := fun b v hb => by
  by_cases hd : b = d
  · subst hd
    rw [upd_same, ← h]
    exact hb
  · rw [upd_ne hd]
    exact e b v (by rw [upd_ne hd]; exact hb)
/-! ### rules whose reading speaks of the written part, the same in a comprehension's block -/
section
variable {X : Cx} {K : PySem.W.Frag}
theorem lenK (hK : X.K = K := by rfl) : CallR X (.builtin "len") (fun xs H Q => ∃ p ys, xs = [.ref p] ∧ (SqL K H p ys ∨ SqT K H p ys) ∧ Q (.int ys.length) H) := by subst hK; exact call_len_seq
theorem ixTK (hK : X.K = K := by rfl) : IxR X (rIxT K) := by subst hK; exact ix_tup
theorem ixLK (hK : X.K = K := by rfl) : IxR X (rIxL K) := by subst hK; exact ix_list
theorem allK (hc : X.calm = true := by rfl) (hK : X.K = K := by rfl) : CallR X (.builtin "all") (rAll K) := by subst hK; exact cr_all hc
theorem tupleK (hK : X.K = K := by rfl) : CallR X (.type "tuple") (fun xs H Q => ∃ p ys, xs = [.ref p] ∧ ((SqL K H p ys ∧ ∀ l, H l = none → Q (.ref l) (upd H l (.tup ys))) ∨ (SqT K H p ys ∧ Q (.ref p) H))) := by subst hK; exact call_tuple_of
theorem isiK (hK : X.K = K := by rfl) : CallR X (.builtin "isinstance") (rIsi K) := by subst hK; exact call_isi
theorem repTK (hK : X.K = K := by rfl) : OpR X (binaryOp .Mult) (rRepT K) := by subst hK; exact op_repT
theorem pa_starK {e : Expr} {es : List Expr} {te : TE} {t : TA} {p : Pos} (he : PE X e te) (hr : PA X es t) (hK : X.K = K := by rfl) (hs : starEach (.Starred e p :: es) X.env = (true, eval e X.env) :: starEach es X.env := by rfl) : PA X (.Starred e p :: es) (StX.tStar K te t) := by subst hK; exact StX.pa_star he hr hs
theorem indexK (hK : X.K = K := by rfl) (hu : X.A.units + 65 < cLine) : MtR X "list.index" (rIndexD K) := by subst hK; exact mt_indexD hu
end
/-! ### what is walked, made first -/
section
variable {K : PySem.W.Frag} {tl : TE} {g : TG} {tt : TT} {te tk tv : TE} {vs : List Nat} {σ : L2.St} {H : Hp} {Q : VK} {P : V → Hp → Prop}
theorem dc_bind (hl : Ev tl σ H P) (k : ∀ v H1, Same H H1 → P v H1 → tDc (iList K (tC v)) g tt tk tv vs σ H1 Q) : tDc (iList K tl) g tt tk tv vs σ H Q := hl _ fun v H1 e p => k v H1 e p
theorem lc_bind (hl : Ev tl σ H P) (k : ∀ v H1, Same H H1 → P v H1 → tLc (iList K (tC v)) g tt te vs σ H1 Q) : tLc (iList K tl) g tt te vs σ H Q := hl _ fun v H1 e p => k v H1 e p
theorem lc_bindT (hl : Ev tl σ H P) (k : ∀ v H1, Same H H1 → P v H1 → tLc (iTup K (tC v)) g tt te vs σ H1 Q) : tLc (iTup K tl) g tt te vs σ H Q := hl _ fun v H1 e p => k v H1 e p
end
end Tm

namespace Tm
open PySem PySem.Spec PyProof.Rows L2
local macro_rules | `(tactic| walk_at "x") => `(tactic| dsimp only [tNext, tRet, tSeq, tCB, tCons, tNil, tAsg, tDrop])
def top (i : Nat) : Stmt := PySem.Challenge.pw_teamtells_k09_errors_of_made_kinds.main.body.getD i (.Pass ⟨0, 0, 0, 0⟩)
/-- names of the built-in things, that the top leaves alone -/
structure Bt (mg : Str → Option Value) : Prop where
  isinstance : mg "isinstance" = none
  int : mg "int" = none
  bool : mg "bool" = none
  str : mg "str" = none
  tuple : mg "tuple" = none
  list : mg "list" = none
  dict : mg "dict" = none
  len : mg "len" = none
  all : mg "all" = none
  range : mg "range" = none
  enumerate : mg "enumerate" = none
  sorted : mg "sorted" = none
  min : mg "min" = none
  max : mg "max" = none
  abs : mg "abs" = none
/-- a def of the top -/
structure Df (K : PySem.W.Frag) (mg : Str → Option Value) (x : Str) (st : Stmt) (ps : List Str) : Prop where
  ex : ∃ (f : Addr) (fd : FuncData), mg x = some (.ref f) ∧ PySem.W.keepIn K (.ref f) = true ∧ Fun K x x st f fd ∧ Binds K fd ps []
section
variable {P : Program} {w : World} {K : PySem.W.Frag} {mg : Str → Option Value} {base : Heap}
theorem Df.ok {x : Str} {st : Stmt} {ps N : List Str} {k : Nat} {sp : Sp} (D : Df K mg x st ps) (S : FnScope N ps (defScope st)) (len : ∀ vs H Q E, sp vs H Q E → vs.length = ps.length)
    (hb : ∀ (f : Addr) (cdv : Value) (A : Around) (outer : List Env) (s : Shared) (H : Hp) (vs : List V) (Q : VK) (E : XK), Room k (A.deeper (envOfC x (defScope st) s.heap.objs.size f cdv)) → sp vs H Q E →
      ∃ t, PSs (cxOf CX0 P w K mg base N x (defScope st) f cdv A outer s H E).nox (defBody st) t ∧ t { nx := fun _ H' => Q .non H', rt := Q } (start N vs) H) : Ok P w K mg base x (k + 1) ps sp := by
  obtain ⟨f, fd, h1, h2, h3, h4⟩ := D.ex
  exact ⟨f, fd, h1, h2, h3.ok S len (fun cdv A outer s H vs Q E hr h => hb f cdv A outer s H vs Q E hr h), h4⟩
/-! ### is_number_in, need_number -/
abbrev s_num : Stmt := top 7
theorem sc_num : FnScope ["value", "least", "most"] ["value", "least", "most"] (defScope s_num) := ⟨rfl, rfl, rfl, by decide +kernel, rfl, by decide +kernel, by decide +kernel⟩
def sp_num : Sp := fun vs H Q _ => ∃ n lo hi : Int, vs = [.int n, .int lo, .int hi] ∧ Q (.bl (decide (lo ≤ n) && decide (n ≤ hi))) H
theorem ok_num (B : Bt mg) (D : Df K mg "is_number_in" s_num ["value", "least", "most"]) : Ok P w K mg base "is_number_in" 1 ["value", "least", "most"] sp_num := by
  refine D.ok sc_num (fun vs H Q E h => ?_) (fun f cdv A outer s H vs Q E hr h => ?_)
  · obtain ⟨n, lo, hi, rfl, _⟩ := h
    rfl
  · obtain ⟨n, lo, hi, rfl, q⟩ := h
    refine ⟨_, pss_one (ps_ret (pe_and (pe_callB call_isi (by rfl) B.isinstance (by decide +kernel) (pa_cons (pv 0) (pa_cons (pe_ty (n := "int") (by rfl) B.int (by decide +kernel)) (pa_nil)))) (pe_and (pe_not (pe_callB call_isi (by rfl) B.isinstance (by decide +kernel) (pa_cons (pv 0) (pa_cons (pe_ty (n := "bool") (by rfl) B.bool (by decide +kernel)) (pa_nil))))) (pe_one (pe_chain op_le op_le (pv 1) (pv 0) (pv 2)))))), ?_⟩
    refine ⟨_, rfl, .int n, .ty "int", _, _, true, rfl, .ty "int", .base (.int n), kit_ty (by decide +kernel), ?_⟩
    refine ⟨_, rfl, ?_⟩; refine iteT ?_
    refine ⟨_, rfl, .int n, .ty "bool", _, _, false, rfl, .ty "bool", .base (.int n), kit_ty (by decide +kernel), ?_⟩
    refine ⟨_, rfl, true, rfl, ?_⟩; refine iteT ?_
    refine ⟨_, rfl, _, rfl, _, _, rfl, rfl, _, rfl, ite2 (fun h1 => ?_) (fun h1 => ?_)⟩
    · refine ⟨_, rfl, _, _, rfl, rfl, ?_⟩
      rw [show decide (lo ≤ n) = true from h1, Bool.true_and] at q
      exact q
    · have e : decide (lo ≤ n) = false := by simpa using h1
      rw [e, Bool.false_and] at q
      exact q
abbrev s_need : Stmt := top 8
theorem sc_need : FnScope ["value", "least", "most"] ["value", "least", "most"] (defScope s_need) := ⟨rfl, rfl, rfl, by decide +kernel, rfl, by decide +kernel, by decide +kernel⟩
/-- the number is let -/
def sp_need : Sp := fun vs H Q _ => ∃ n lo hi : Int, vs = [.int n, .int lo, .int hi] ∧ lo ≤ n ∧ n ≤ hi ∧ Q .non H
theorem ok_need (O_num : Ok P w K mg base "is_number_in" 1 ["value", "least", "most"] sp_num) (D : Df K mg "need_number" s_need ["value", "least", "most"]) : Ok P w K mg base "need_number" 2 ["value", "least", "most"] sp_need := by
  refine D.ok sc_need (fun vs H Q E h => ?_) (fun f cdv A outer s H vs Q E hr h => ?_)
  · obtain ⟨n, lo, hi, rfl, _⟩ := h
    rfl
  · obtain ⟨n, lo, hi, rfl, h1, h2, q⟩ := h
    refine ⟨_, pss_one (ps_if (pt_not (pt_val (O_num.call hr (ha := pa_cons (pv 0) (pa_cons (pv 1) (pa_cons (pv 2) pa_nil)))))) (pss_one ps_never) pss_nil), ?_⟩
    refine ⟨_, rfl, _, rfl, _, rfl, n, lo, hi, rfl, _, rfl, ?_⟩
    rw [decide_eq_true h1, decide_eq_true h2]
    exact iteF q
/-! ### is_name -/
abbrev s_name : Stmt := top 15
theorem sc_name : FnScope ["value", "letter"] ["value"] (defScope s_name) := ⟨rfl, rfl, rfl, by decide +kernel, rfl, by decide +kernel, by decide +kernel⟩
def sp_name : Sp := fun vs H Q _ => ∃ x : Str, vs = [.str x] ∧ okName x = true ∧ ∀ H', Same H H' → Q (.bl true) H'
theorem ok_name (B : Bt mg) (G : Gb mg) (D : Df K mg "is_name" s_name ["value"]) : Ok P w K mg base "is_name" 1 ["value"] sp_name := by
  refine D.ok sc_name (fun vs H Q E h => ?_) (fun f cdv A outer s H vs Q E hr h => ?_)
  · obtain ⟨x, rfl, _⟩ := h
    rfl
  · obtain ⟨x, rfl, hx, q⟩ := h
    unfold okName at hx
    simp only [Bool.and_eq_true, decide_eq_true_eq] at hx
    obtain ⟨⟨h1, h8⟩, ha⟩ := hx
    refine ⟨_, pss_cons (ps_if (PW.pt (pw_or (pt_not (pt_val (pe_callB call_isi (by rfl) B.isinstance (by decide +kernel) (pa_cons (pv 0) (pa_cons (pe_ty (n := "str") (by rfl) B.str (by decide +kernel)) pa_nil))))) (pw_or1 (pt_not (pt_chain op_le op_le pe_int (pe_callB call_len_str (by rfl) B.len (by decide +kernel) (pa_cons (pv 0) pa_nil)) G.MAX_LETTERS.pe)))))
        (pss_one (ps_ret pe_bl)) pss_nil)
      (pss_one (ps_ret (pe_callB (cr_all rfl) (by rfl) B.all (by decide +kernel) (pa_cons (pe_lc (own := [("letter", 1)]) (g := gName 1) (tt := tYes) rfl sc_name.nd (pi_str (pv 0)) (blkOk_by (own := [("letter", 1)]) (N := ["value", "letter"]) (sc := defScope s_name) (by decide +kernel)) (fun _ _ _ _ _ => pg_name (i := 1) sc_name.nd rfl (.inl rfl)) (fun _ _ _ _ _ => pts_nil) (fun _ _ _ _ _ => pe_cmpR op_in_sign (pv 1) G.ALPHABET.pe rfl)) pa_nil)))), ?_⟩
    refine ⟨_, rfl, .str x, .ty "str", _, _, true, rfl, .ty "str", .base (.str x), kit_ty (by decide +kernel), _, rfl, ?_⟩
    refine ifF rfl ?_
    refine ⟨_, rfl, x, rfl, sz_le (by omega), _, _, rfl, rfl, _, rfl, ?_⟩
    refine ifT (decide_eq_true (by omega)) ?_
    refine ⟨_, _, rfl, rfl, _, rfl, ?_⟩
    refine ifF (by rw [decide_eq_true (show (x.length : Int) ≤ 8 by omega)]; rfl) ?_
    walk_at "x"
    refine lc_runS (x0 := x) (ev_is rfl rfl) x.cps.toList (Array.length_toList ..) (fun _ => true) (fun c v _ => v = V.bl (decide (c ∈ (PySem.Str.ofString "abcdefghijklmnopqrstuvwxyz").cps.toList))) (by rw [Array.length_toList]; show x.length ≤ 100000; omega) (by intro _; rfl) (fun _ _ _ _ _ h => h)
      (fun i z v H hi y e => ⟨evt_yes, fun _ H3 e3 Q q => ?_⟩) (fun p H ys hp e hl hP => ?_)
    · obtain ⟨c, hc, rfl⟩ := y
      have ez : c = z := by
        rw [Array.getElem?_toList, hc] at hi
        exact Option.some.inj hi
      subst ez
      exact ⟨_, rfl, c, _, rfl, rfl, q _ _ (Same.refl _) rfl⟩
    · rw [filter_all] at hP
      have ey := bools_all _ hP
      rw [ey] at hl
      refine ⟨p, _, rfl, SqL.of hl, ?_⟩
      rw [all_id_map, List.all_eq_true.mpr fun c hc => alpha_in (List.all_eq_true.mp ha c hc)]
      exact q H e
/-! ### _is_pair, _is_row -/
abbrev s_pair : Stmt := top 16
theorem sc_pair : FnScope ["value", "size"] ["value", "size"] (defScope s_pair) := ⟨rfl, rfl, rfl, by decide +kernel, rfl, by decide +kernel, by decide +kernel⟩
def sp_pair : Sp := fun vs H Q _ => ∃ (v : V) (p : Int × Int) (n : Nat), vs = [v, .int n] ∧ PairV H v p ∧ okPair n p = true ∧ Q (.bl true) H
theorem ok_pair (B : Bt mg) (G : Gb mg) (O_is_number_in : Ok P w K mg base "is_number_in" 1 ["value", "least", "most"] sp_num) (D : Df K mg "_is_pair" s_pair ["value", "size"]) : Ok P w K mg base "_is_pair" 2 ["value", "size"] sp_pair := by
  refine D.ok sc_pair (fun vs H Q E h => ?_) (fun f cdv A outer s H vs Q E hr h => ?_)
  · obtain ⟨v, p, n, rfl, _⟩ := h
    rfl
  · obtain ⟨v, p, n, rfl, ⟨a, rfl, ha⟩, hp, q⟩ := h
    unfold okPair at hp
    simp only [Bool.and_eq_true, decide_eq_true_eq] at hp
    obtain ⟨⟨⟨h1, h2⟩, h3⟩, h4⟩ := hp
    refine ⟨_, pss_cons (ps_if (PW.pt (pw_or (pt_not (pt_val (pe_callB call_isi (by rfl) B.isinstance (by decide +kernel) (pa_cons (pv 0) (pa_cons (pe_ty (n := "tuple") (by rfl) B.tuple (by decide +kernel)) (pa_nil)))))) (pw_or1 (pt_cmpR op_ne (pe_callB (lenK (K := K)) (by rfl) B.len (by decide +kernel) (pa_cons (pv 0) (pa_nil))) (pe_int) (nomark _)))))
        (pss_one (ps_ret (pe_bl)))
        (pss_nil))
      (pss_one (ps_ret (pe_and (O_is_number_in.call hr (ha := pa_cons (pe_ix ix_tup (pv 0) (pe_int) (fun _ _ => rfl)) (pa_cons (pe_int) (pa_cons (pe_op op_sub (pv 1) (pe_int)) (pa_nil))))) (pe_one (O_is_number_in.call hr (ha := pa_cons (pe_ix ix_tup (pv 0) (pe_int) (fun _ _ => rfl)) (pa_cons (pe_int) (pa_cons (G.MAX_ANSWER.pe) (pa_nil))))))))), ?_⟩
    refine ⟨_, rfl, .ref a, .ty "tuple", _, _, true, rfl, .ty "tuple", .base (.tup ha), kit_ty (by decide +kernel), _, rfl, ?_⟩
    refine ifF rfl ?_
    refine ⟨_, rfl, a, _, rfl, .inr (SqT.of ha), rfl, _, rfl, ?_⟩
    refine ifF (by simp) ?_
    refine ⟨_, rfl, a, _, 0, _, rfl, rfl, SqT.of ha, rfl, _, rfl, n, 1, rfl, rfl, p.1, 0, (n : Int) - 1, rfl, _, rfl, ?_⟩
    refine ifT (by rw [decide_eq_true h1, decide_eq_true h2]; rfl) ?_
    refine ⟨_, rfl, a, _, 1, _, rfl, rfl, SqT.of ha, rfl, p.2, 0, 99, rfl, ?_⟩
    rw [decide_eq_true h3, decide_eq_true h4]
    exact q
abbrev s_row : Stmt := top 17
theorem sc_row : FnScope ["value", "size", "pair"] ["value", "size"] (defScope s_row) := ⟨rfl, rfl, rfl, by decide +kernel, rfl, by decide +kernel, by decide +kernel⟩
def sp_row : Sp := fun vs H Q _ => ∃ (v : V) (r : Row) (n : Nat), vs = [v, .int n] ∧ RowV H v r ∧ okRow n r = true ∧ n ≤ 12 ∧ ∀ H', Same H H' → Q (.bl true) H'
theorem ok_row (B : Bt mg) (G : Gb mg) (O_is_pair : Ok P w K mg base "_is_pair" 2 ["value", "size"] sp_pair) (D : Df K mg "_is_row" s_row ["value", "size"]) : Ok P w K mg base "_is_row" 3 ["value", "size"] sp_row := by
  refine D.ok sc_row (fun vs H Q E h => ?_) (fun f cdv A outer s H vs Q E hr h => ?_)
  · obtain ⟨v, p, n, rfl, _⟩ := h
    rfl
  · obtain ⟨v, r, n, rfl, ⟨a, xs, rfl, ha, hx⟩, hp, h12, q⟩ := h
    unfold okRow at hp
    simp only [Bool.and_eq_true, decide_eq_true_eq] at hp
    obtain ⟨hl, hall⟩ := hp
    have hlx := Paired.length hx
    refine ⟨_, pss_cons (ps_if (PW.pt (pw_or (pt_not (pt_val (pe_callB call_isi (by rfl) B.isinstance (by decide +kernel) (pa_cons (pv 0) (pa_cons (pe_ty (n := "tuple") (by rfl) B.tuple (by decide +kernel)) (pa_nil)))))) (pw_or1 (pt_cmpR op_ne (pe_callB (lenK (K := K)) (by rfl) B.len (by decide +kernel) (pa_cons (pv 0) (pa_nil))) (pv 1) (nomark _)))))
        (pss_one (ps_ret (pe_bl)))
        (pss_nil))
      (pss_one (ps_ret (pe_callB (cr_all rfl) (by rfl) B.all (by decide +kernel) (pa_cons (pe_lc (own := [("pair", 2)]) (g := gName 2) (tt := tYes) rfl sc_row.nd (pi_tup (pv 0)) (blkOk_by (own := [("pair", 2)]) (N := ["value", "size", "pair"]) (sc := defScope s_row) (by decide +kernel)) (fun _ _ _ _ _ => pg_name (i := 2) sc_row.nd rfl (.inl rfl)) (fun _ _ _ _ _ => pts_nil) (fun _ _ _ _ _ => O_is_pair.call hr (ha := pa_cons (pv 2) (pa_cons (pv 1) (pa_nil))))) (pa_nil))))), ?_⟩
    refine ⟨_, rfl, .ref a, .ty "tuple", _, _, true, rfl, .ty "tuple", .base (.tup ha), kit_ty (by decide +kernel), _, rfl, ?_⟩
    refine ifF rfl ?_
    refine ⟨_, rfl, a, _, rfl, .inr (SqT.of ha), _, rfl, rfl, _, rfl, ?_⟩
    refine ifF (by rw [hlx, hl]; simp) ?_
    walk_at "x"
    refine lc_runT (K := K) (xs := xs) (ev_is rfl ⟨a, rfl, SqT.of ha⟩) r hlx (fun _ => true) (fun z v _ => v = V.bl (okPair n z)) (by omega) (by intro _; rfl) (fun _ _ _ _ _ h => h)
      (fun i z v H1 hi y e => ⟨evt_yes, fun _ H3 e3 Q q => ?_⟩) (fun p H1 ys hp e hl' hP => ?_)
    · obtain ⟨z', hz', hpz⟩ := paired_ix2 hx y
      rw [hi] at hz'
      cases hz'
      have hok : okPair n z = true := List.all_eq_true.mp hall z (List.mem_of_getElem? hi)
      exact ⟨_, rfl, _, rfl, v, z, n, rfl, hpz.mono (tups_of (e.trans e3)), hok, q _ _ (Same.refl _) (by rw [hok])⟩
    · rw [filter_all] at hP
      have ey := bools_all _ hP
      rw [ey] at hl'
      refine ⟨p, _, rfl, SqL.of hl', ?_⟩
      rw [all_id_map, hall]
      exact q H1 e
/-! ### _is_table -/
abbrev s_table : Stmt := top 18
theorem sc_table : FnScope ["value", "first", "name", "row"] ["value"] (defScope s_table) := ⟨rfl, rfl, rfl, by decide +kernel, rfl, by decide +kernel, by decide +kernel⟩
def sp_table : Sp := fun vs H Q _ => ∃ (a : Addr) (kvs : List (L2.Key × V)) (t : Tab), vs = [.ref a] ∧ H a = some (.dK kvs) ∧ TabV H kvs t ∧ okTab t = true ∧ ∀ H', Same H H' → Q (.bl true) H'
theorem ok_table (B : Bt mg) (G : Gb mg) (O_is_name : Ok P w K mg base "is_name" 1 ["value"] sp_name) (O_is_row : Ok P w K mg base "_is_row" 3 ["value", "size"] sp_row) (D : Df K mg "_is_table" s_table ["value"]) : Ok P w K mg base "_is_table" 4 ["value"] sp_table := by
  refine D.ok sc_table (fun vs H Q E h => ?_) (fun f cdv A outer s H vs Q E hr h => ?_)
  · obtain ⟨a, kvs, t, rfl, _⟩ := h
    rfl
  · obtain ⟨a, kvs, t, rfl, ha, ht, hok, q⟩ := h
    unfold okTab at hok
    simp only [Bool.and_eq_true, decide_eq_true_eq] at hok
    obtain ⟨⟨⟨⟨h1, h6⟩, hs1⟩, hs12⟩, hall⟩ := hok
    have hlen := Paired.length ht
    obtain ⟨e0, t', rfl⟩ : ∃ e0 t', t = e0 :: t' := by
      cases t with
      | nil => simp at h1
      | cons e0 t' => exact ⟨e0, t', rfl⟩
    obtain ⟨kv0, kvs', rfl⟩ : ∃ kv0 kvs', kvs = kv0 :: kvs' := by
      cases kvs with
      | nil => simp at hlen
      | cons kv0 kvs' => exact ⟨kv0, kvs', rfl⟩
    have hz : kv0.1 = Sum.inr e0.1 ∧ RowV H kv0.2 e0.2 := by
      cases ht with
      | cons r _ => exact r
    obtain ⟨_, b, rs, eb, hb, hrs⟩ := hz
    have hrl := Paired.length hrs
    have hsz : sizeT (e0 :: t') = e0.2.length := rfl
    refine ⟨_, pss_cons (ps_if (PW.pt (pw_or (pt_not (pt_val (pe_callB call_isi (by rfl) B.isinstance (by decide +kernel) (pa_cons (pv 0) (pa_cons (pe_ty (n := "dict") (by rfl) B.dict (by decide +kernel)) (pa_nil)))))) (pw_or1 (pt_not (pt_chain op_le op_le (pe_int) (pe_callB call_lenD (by rfl) B.len (by decide +kernel) (pa_cons (pv 0) (pa_nil))) (G.MAX_OPERATIONS.pe))))))
        (pss_one (ps_ret (pe_bl)))
        (pss_nil))
      (pss_cons (ps_set (i := 1) sc_table.nd rfl (.inr rfl) (pe_ix ix_list (pe_listVals rfl (pv 0) (by rfl) B.list) (pe_int) (fun _ _ => rfl)))
      (pss_cons (ps_if (PW.pt (pw_or (pt_not (pt_val (pe_callB call_isi (by rfl) B.isinstance (by decide +kernel) (pa_cons (pv 1) (pa_cons (pe_ty (n := "tuple") (by rfl) B.tuple (by decide +kernel)) (pa_nil)))))) (pw_or1 (pt_not (pt_chain op_le op_le (pe_int) (pe_callB (lenK (K := K)) (by rfl) B.len (by decide +kernel) (pa_cons (pv 1) (pa_nil))) (G.MAX_STATES.pe))))))
        (pss_one (ps_ret (pe_bl)))
        (pss_nil))
      (pss_one (ps_ret (pe_callB (cr_all rfl) (by rfl) B.all (by decide +kernel) (pa_cons (pe_lock (pe_lc (own := [("name", 2), ("row", 3)]) (g := gTup K 2 (gCons (gName 2) (gCons (gName 3) (gNil)))) (tt := tYes) rfl sc_table.nd (pi_items (pv 0)) (blkOk_by (own := [("name", 2), ("row", 3)]) (N := ["value", "first", "name", "row"]) (sc := defScope s_table) (by decide +kernel)) (fun _ _ _ _ _ => pg_tup (by rfl) (pgs_cons (pg_name (i := 2) sc_table.nd rfl (.inl rfl)) (pgs_cons (pg_name (i := 3) sc_table.nd rfl (.inl rfl)) (pgs_nil)))) (fun _ _ _ _ _ => pts_nil) (fun _ _ _ _ _ => pe_and (O_is_name.call hr (ha := pa_cons (pv 2) (pa_nil))) (pe_one (O_is_row.call hr (ha := pa_cons (pv 3) (pa_cons (pe_callB (lenK (K := K)) (by rfl) B.len (by decide +kernel) (pa_cons (pv 1) (pa_nil))) (pa_nil)))))))) (pa_nil))))))), ?_⟩
    refine ⟨_, rfl, .ref a, .ty "dict", _, _, true, rfl, .ty "dict", .base (.dK ha), kit_ty (by decide +kernel), _, rfl, ?_⟩
    refine ifF rfl ?_
    refine ⟨_, rfl, a, _, rfl, ha, _, _, rfl, rfl, _, rfl, ?_⟩
    refine ifT (decide_eq_true (by rw [hlen]; omega)) ?_
    refine ⟨_, _, rfl, rfl, _, rfl, ?_⟩
    refine ifF (by rw [decide_eq_true (by rw [hlen]; omega)]; rfl) ?_
    refine ⟨_, rfl, a, _, rfl, ha, fun p hp => ?_⟩
    refine ⟨p, _, 0, kv0.2, rfl, rfl, SqL.of upd_same, at_of (j := 0) rfl rfl, ?_⟩
    rw [eb]
    have e1 : Same H (upd H p (.lst (List.map (·.2) (kv0 :: kvs')))) := same_new hp
    generalize upd H p (.lst (List.map (·.2) (kv0 :: kvs'))) = H1 at e1 ⊢
    refine ⟨_, rfl, .ref b, .ty "tuple", _, _, true, rfl, .ty "tuple", .base (.tup (e1 _ _ hb)), kit_ty (by decide +kernel), _, rfl, ?_⟩
    refine ifF rfl ?_
    refine ⟨_, rfl, b, _, rfl, .inr (SqT.of (e1 _ _ hb)), _, _, rfl, rfl, _, rfl, ?_⟩
    refine ifT (decide_eq_true (by rw [hrl]; omega)) ?_
    refine ⟨_, _, rfl, rfl, _, rfl, ?_⟩
    refine ifF (by rw [decide_eq_true (by rw [hrl]; omega)]; rfl) ?_
    walk_at "x"
    refine ⟨a, .dK (kv0 :: kvs'), e1 _ _ ha, trivial, fun od => ?_⟩
    have tu : TupS H1 (upd H1 a (.frz od (.dK (kv0 :: kvs')))) := lock_in (e1 _ _ ha) (fun xs z => by cases z)
    refine lc_runI (K := K) (o := od) (kvs := kv0 :: kvs') (ev_is rfl rfl) upd_same (e0 :: t') hlen.symm (fun _ => true) (fun z v _ => v = V.bl true) (by omega) (by intro _ _; rfl) (fun _ _ _ _ _ h => h)
      (fun i z kv H2 hi hk e => ⟨evt_yes, fun _ H3 e3 Q q => ?_⟩) (fun p2 H2 ys hp2 e2 hl' hP => ?_)
    · obtain ⟨z', hz', hk1, hk2⟩ := paired_ix2 ht hk
      rw [hi] at hz'
      cases hz'
      have hin := List.all_eq_true.mp hall z (List.mem_of_getElem? hi)
      rw [Bool.and_eq_true] at hin
      have t3 : TupS H H3 := ((tups_of e1).trans tu).trans (tups_of (e.trans e3))
      refine ⟨_, rfl, z.1, by rw [hk1]; rfl, hin.1, fun H4 e4 => ⟨_, rfl, ?_⟩⟩
      refine ifT rfl ?_
      refine ⟨_, rfl, _, rfl, b, _, rfl, .inr (SqT.of (e4 _ _ (t3 _ _ hb))), kv.2, z.2, e0.2.length, by rw [hrl]; rfl, hk2.mono (t3.trans (tups_of e4)), hin.2, hs12, fun H5 e5 => q _ _ (e4.trans e5) rfl⟩
    · rw [filter_all] at hP
      have ey := bools_all (fun _ => true) hP
      rw [ey] at hl'
      have np : p2 ≠ a := fun z => by rw [z, upd_same] at hp2; cases hp2
      refine ⟨e2 _ _ upd_same, p2, _, rfl, SqL.of (by rw [upd_ne np]; exact hl'), ?_⟩
      rw [all_id_map, List.all_eq_true.mpr fun _ _ => rfl]
      exact q _ (e1.trans (lock_out (e1 _ _ ha) e2))
end
end Tm

namespace Tm
open PySem PySem.Spec PyProof.Rows L2
local macro_rules | `(tactic| walk_at "x") => `(tactic| dsimp only [tNext, tRet, tSeq, tCB, tCons, tNil, tAsg, tDrop])
/-! ### the class -/
structure DfM (K : PySem.W.Frag) (C : Addr) (m q : Str) (st : Stmt) (ps : List Str) : Prop where
  ex : ∃ (f : Addr) (fd : FuncData), Meth K C m f ∧ Fun K m q st f fd ∧ Binds K fd ps []
structure DfP (K : PySem.W.Frag) (C : Addr) (m q : Str) (st : Stmt) : Prop where
  ex : ∃ (p g : Addr) (fd : FuncData), PropOf K C m p g ∧ Fun K m q st g fd ∧ Binds K fd ["self"] []
structure DfC (K : PySem.W.Frag) (mg : Str → Option Value) (x : Str) (C : Addr) (q : Str) (st : Stmt) (ps : List Str) : Prop where
  ex : ∃ (f : Addr) (fd : FuncData), mg x = some (.ref C) ∧ Mk K C f ∧ Fun K "__init__" q st f fd ∧ Binds K fd ps []
structure DfIn (K : PySem.W.Frag) (C : Addr) (q : Str) (st : Stmt) (ps : List Str) : Prop where
  ex : ∃ (f : Addr) (fd : FuncData), InM K C f ∧ Fun K "__contains__" q st f fd ∧ Binds K fd ps []
/-- a body of the text keeps its promise -/
def BodyOk (P : Program) (w : World) (K : PySem.W.Frag) (mg : Str → Option Value) (base : Heap) (q : Str) (st : Stmt) (N : List Str) (k : Nat) (sp : Sp) : Prop :=
  ∀ (f : Addr) (cdv : Value) (A : Around) (outer : List Env) (s : Shared) (H : Hp) (vs : List V) (Q : VK) (E : XK), Room k (A.deeper (envOfC q (defScope st) s.heap.objs.size f cdv)) → sp vs H Q E →
      ∃ t, PSs (cxOf CX0 P w K mg base N q (defScope st) f cdv A outer s H E).nox (defBody st) t ∧ t { nx := fun _ H' => Q .non H', rt := Q } (start N vs) H
section
variable {P : Program} {w : World} {K : PySem.W.Frag} {mg : Str → Option Value} {base : Heap} {C : Addr} {m q x : Str} {st : Stmt} {ps N : List Str} {k : Nat} {sp : Sp}
theorem DfM.ok (D : DfM K C m q st ps) (S : FnScope N ps (defScope st)) (len : ∀ vs H Q E, sp vs H Q E → vs.length = ps.length) (hb : BodyOk P w K mg base q st N k sp) : OkM P w K mg base C m (k + 1) ps sp := by
  obtain ⟨f, fd, h1, h2, h3⟩ := D.ex
  exact ⟨f, fd, h1, h2.ok S len (fun cdv A outer s H vs Q E hr h => hb f cdv A outer s H vs Q E hr h), h3⟩
theorem DfP.ok (D : DfP K C m q st) (S : FnScope N ["self"] (defScope st)) (len : ∀ vs H Q E, sp vs H Q E → vs.length = 1) (hb : BodyOk P w K mg base q st N k sp) : OkP P w K mg base C m (k + 1) sp := by
  obtain ⟨p, g, fd, h1, h2, h3⟩ := D.ex
  exact ⟨p, g, fd, h1, h2.ok S len (fun cdv A outer s H vs Q E hr h => hb g cdv A outer s H vs Q E hr h), h3⟩
theorem DfC.ok (D : DfC K mg x C q st ps) (S : FnScope N ps (defScope st)) (len : ∀ vs H Q E, sp vs H Q E → vs.length = ps.length) (hb : BodyOk P w K mg base q st N k sp) : OkC P w K mg base x C (k + 1) ps sp := by
  obtain ⟨f, fd, h0, h1, h2, h3⟩ := D.ex
  exact ⟨f, fd, h0, h1, h2.ok S len (fun cdv A outer s H vs Q E hr h => hb f cdv A outer s H vs Q E hr h), h3⟩
theorem DfIn.ok (D : DfIn K C q st ps) (S : FnScope N ps (defScope st)) (len : ∀ vs H Q E, sp vs H Q E → vs.length = ps.length) (hb : BodyOk P w K mg base q st N k sp) : OkIn P w K mg base C (k + 1) ps sp := by
  obtain ⟨f, fd, h1, h2, h3⟩ := D.ex
  exact ⟨f, fd, h1, h2.ok S len (fun cdv A outer s H vs Q E hr h => hb f cdv A outer s H vs Q E hr h), h3⟩
end
/-- what is true of the class Kind -/
structure Kc (K : PySem.W.Frag) (C : Addr) : Prop where
  cl : Cls K C
  nT : NoAttr K C "_table"
  nS : NoAttr K C "_size"
def kflds (d : Addr) (n : Int) : List (Str × V) := [("_table", .ref d), ("_size", .int n)]
theorem kT_ne : ¬ (("_table" : Str) = "_size") := by decide +kernel
theorem kf_put (d : Addr) (n : Int) : putF "_size" (.int n) (putF "_table" (.ref d) []) = kflds d n := by
  show (if ("_table" : Str) = "_size" then _ else (("_table" : Str), V.ref d) :: putF "_size" (V.int n) []) = _
  rw [if_neg kT_ne]
  rfl
theorem kf_T (d : Addr) (n : Int) : (kflds d n).lookup ("_table" : Str) = some (.ref d) := by simp [kflds, List.lookup]
theorem kf_S (d : Addr) (n : Int) : (kflds d n).lookup ("_size" : Str) = some (.int n) := by
  have h : (("_size" : Str) == ("_table" : Str)) = false := by decide +kernel
  simp [kflds, List.lookup, h]
theorem kf_no (d : Addr) (n : Int) {m : Str} (h1 : (m == ("_table" : Str)) = false := by decide +kernel) (h2 : (m == ("_size" : Str)) = false := by decide +kernel) : (kflds d n).lookup m = none := by
  simp [kflds, List.lookup, h1, h2]
def namesT (t : Tab) : List Str := t.map (·.1)
/-- at v a kind with the table t -/
def KindV (C : Addr) (H : Hp) (v : V) (t : Tab) : Prop := ∃ a dx d kvs, v = .ref a ∧ H a = some (.ins C dx (kflds d (sizeT t))) ∧ H d = some (.dK kvs) ∧ TabV H kvs t ∧ okTab t = true ∧ (namesT t).Nodup ∧ sortedS (namesT t) = true
theorem KindV.mono {C : Addr} {H H' : Hp} {v : V} {t : Tab} (e : Same H H') (h : KindV C H v t) : KindV C H' v t := by
  obtain ⟨a, dx, d, kvs, e1, e2, e3, e4, e5⟩ := h
  exact ⟨a, dx, d, kvs, e1, e _ _ e2, e _ _ e3, e4.mono (tups_of e), e5⟩
/-! ### look-ups in a table -/
theorem tabV_keys {H : Hp} {kvs : List (L2.Key × V)} {t : Tab} (h : TabV H kvs t) : kvs.map (·.1) = (namesT t).map Sum.inr := by
  unfold namesT
  rw [paired_keys (key := fun e : Str × Row => Sum.inr e.1) (fun kv z h => h.1) h, List.map_map]
  rfl
theorem valV_cons {kv : L2.Key × V} {kvs : List (L2.Key × V)} {k : L2.Key} : valV (kv :: kvs) k = if kv.1 = k then some kv.2 else valV kvs k := by
  unfold valV
  rw [List.find?_cons]
  by_cases h : kv.1 = k
  · rw [if_pos h, decide_eq_true h]; rfl
  · rw [if_neg h, decide_eq_false h]
theorem tab_look {H : Hp} : ∀ {kvs : List (L2.Key × V)} {t : Tab} {x : Str} {r : Row}, TabV H kvs t → (namesT t).Nodup → (x, r) ∈ t → ∃ v, valV kvs (Sum.inr x) = some v ∧ RowV H v r
  | _, _, x, r, .nil, _, hm => by simp at hm
  | kv :: kvs, e :: t, x, r, .cons h ht, nd, hm => by
    have nd' := List.nodup_cons.mp (show (e.1 :: namesT t).Nodup from nd)
    rw [valV_cons, h.1]
    rcases List.mem_cons.mp hm with e1 | hm
    · subst e1
      exact ⟨kv.2, if_pos rfl, h.2⟩
    · have hne : e.1 ≠ x := fun z => nd'.1 (by rw [z]; exact List.mem_map.mpr ⟨(x, r), hm, rfl⟩)
      rw [if_neg (fun z => hne (Sum.inr.inj z))]
      exact tab_look ht nd'.2 hm
theorem row_unique {t : Tab} {x : Str} {r r' : Row} (nd : (namesT t).Nodup) (h : (x, r) ∈ t) (h' : (x, r') ∈ t) : r = r' := by
  obtain ⟨i, hi, e⟩ := List.mem_iff_getElem.mp h
  obtain ⟨j, hj, e'⟩ := List.mem_iff_getElem.mp h'
  have q : (namesT t)[i]'(by simpa [namesT] using hi) = (namesT t)[j]'(by simpa [namesT] using hj) := by simp [namesT, e, e']
  have ij := (List.getElem_inj nd).mp q
  subst ij
  rw [e] at e'
  exact (Prod.mk.inj e').2
/-- from names with rows to a table -/
theorem tab_of {H : Hp} {t : Tab} : ∀ {kvs : List (L2.Key × V)} {ys : List Str}, Paired (fun kv z => kv.1 = Sum.inr z ∧ ∃ r, (z, r) ∈ t ∧ RowV H kv.2 r) kvs ys → ∃ t', TabV H kvs t' ∧ namesT t' = ys ∧ ∀ e ∈ t', e ∈ t
  | _, _, .nil => ⟨[], .nil, rfl, fun _ h => by simp at h⟩
  | kv :: kvs, z :: ys, .cons h ht => by
    obtain ⟨t', h1, h2, h3⟩ := tab_of ht
    obtain ⟨r, hr, hv⟩ := h.2
    refine ⟨(z, r) :: t', .cons ⟨h.1, hv⟩ h1, by show z :: namesT t' = _; rw [h2], fun e he => ?_⟩
    rcases List.mem_cons.mp he with z | z
    · rw [z]; exact hr
    · exact h3 e z
theorem nd_of_map {α β : Type} {l : List α} {f : α → β} (h : (l.map f).Nodup) : l.Nodup :=
  (List.pairwise_map.mp h).imp fun h e => h (congrArg f e)
theorem perm_of_names {t t' : Tab} (nd : (namesT t).Nodup) (hn : (namesT t').Perm (namesT t)) (hs : ∀ e ∈ t', e ∈ t) : t'.Perm t := by
  have nd' : (namesT t').Nodup := hn.nodup_iff.mpr nd
  have n1 : t.Nodup := nd_of_map nd
  have n2 : t'.Nodup := nd_of_map nd'
  refine (List.perm_ext_iff_of_nodup n2 n1).mpr fun e => ⟨hs e, fun he => ?_⟩
  have hm : e.1 ∈ namesT t' := hn.mem_iff.mpr (List.mem_map.mpr ⟨e, he, rfl⟩)
  obtain ⟨e', he', q⟩ := List.mem_map.mp hm
  have hr : e'.2 = e.2 := row_unique nd (x := e.1) (by rw [← q]; exact hs e' he') he
  have : e' = e := Prod.ext q hr
  rw [← this]; exact he'
theorem size_of_ok {t : Tab} (h : okTab t = true) : ∀ e ∈ t, e.2.length = sizeT t := fun e he => by
  unfold okTab at h
  simp only [Bool.and_eq_true] at h
  have q := List.all_eq_true.mp h.2 e he
  simp only [Bool.and_eq_true, okRow, decide_eq_true_eq] at q
  exact q.2.1
theorem size_perm {t t' : Tab} (h : okTab t = true) (p : t'.Perm t) : sizeT t' = sizeT t := by
  cases t' with
  | nil =>
    have := p.length_eq
    cases t with
    | nil => rfl
    | cons => simp at this
  | cons e t' =>
    show e.2.length = _
    exact size_of_ok h e (p.mem_iff.mp List.mem_cons_self)
theorem ok_perm {t t' : Tab} (h : okTab t = true) (p : t'.Perm t) : okTab t' = true := by
  have hs := size_perm h p
  unfold okTab at h ⊢
  rw [hs, p.length_eq]
  simp only [Bool.and_eq_true] at h ⊢
  refine ⟨h.1, List.all_eq_true.mpr fun e he => ?_⟩
  have := List.all_eq_true.mp h.2 e (p.mem_iff.mp he)
  simpa using this
end Tm

namespace Tm
open PySem PySem.Spec PyProof.Rows L2
local macro_rules | `(tactic| walk_at "x") => `(tactic| dsimp only [tNext, tRet, tSeq, tCB, tCons, tNil, tAsg, tDrop, sFld])
section
variable {P : Program} {w : World} {K : PySem.W.Frag} {mg : Str → Option Value} {base : Heap} {C : Addr}
/-! ### Kind(operations) -/
abbrev s_init : Stmt := inClass (top 19) 0
theorem sc_init : FnScope ["self", "operations", "name"] ["self", "operations"] (defScope s_init) := ⟨rfl, rfl, rfl, by decide +kernel, rfl, by decide +kernel, by decide +kernel⟩
def sp_init (C : Addr) : Sp := fun vs H Q _ => ∃ (p dx a : Addr) (kvs : List (L2.Key × V)) (t : Tab), vs = [.ref p, .ref a] ∧ H p = some (.ins C dx []) ∧ H a = some (.dK kvs) ∧ TabV H kvs t ∧ okTab t = true ∧ (namesT t).Nodup ∧
  ∀ H' t', t'.Perm t → KindV C H' (.ref p) t' → (∀ b o, b ≠ p → H b = some o → H' b = some o) → Q .non H'
theorem ok_init (B : Bt mg) (T : Kc K C) (O_is_table : Ok P w K mg base "_is_table" 4 ["value"] sp_table) (D : DfC K mg "Kind" C "Kind.__init__" s_init ["self", "operations"]) : OkC P w K mg base "Kind" C 5 ["self", "operations"] (sp_init C) := by
  refine D.ok sc_init (fun vs H Q E h => ?_) (fun f cdv A outer s H vs Q E hr h => ?_)
  · obtain ⟨p, dx, a, kvs, t, rfl, _⟩ := h
    rfl
  · obtain ⟨p, dx, a, kvs, t, rfl, hp, ha, ht, hok, nd, q⟩ := h
    have hu := hu_of hr
    have hkeys := tabV_keys ht
    have h6 : (namesT t).length ≤ 6 := by
      have := hok
      unfold okTab at this
      simp only [Bool.and_eq_true, decide_eq_true_eq] at this
      unfold namesT
      rw [List.length_map]
      exact this.1.1.1.2
    refine ⟨_, pss_cons (ps_if (pt_not (pt_val (O_is_table.call hr (ha := pa_cons (pv 1) (pa_nil)))))
        (pss_one (ps_never))
        (pss_nil))
      (pss_cons (ps_fld (pv 0) (pe_dc (own := [("name", 2)]) (g := gName 2) (tt := tYes) rfl sc_init.nd (pi_list (pe_callB (call_sortedD rfl) (by rfl) B.sorted (by decide +kernel) (pa_cons (pv 1) (pa_nil)))) (blkOk_by (own := [("name", 2)]) (N := ["self", "operations", "name"]) (sc := defScope s_init) (by decide +kernel)) (fun _ _ _ _ _ => pg_name (i := 2) sc_init.nd rfl (.inl rfl)) (fun _ _ _ _ _ => pts_nil) (fun _ _ _ _ _ => pv 2) (fun _ _ _ _ _ => pe_dget hu (pv 1) (pv 2) (fun _ _ => rfl))) rfl)
      (pss_one (ps_fld (pv 0) (pe_callB (lenK (K := K)) (by rfl) B.len (by decide +kernel) (pa_cons (pe_ix (ixLK (K := K)) (pe_listVals rfl (pe_fld (pv 0) rfl) (by rfl) B.list) (pe_int) (fun _ _ => rfl)) (pa_nil))) rfl))), ?_⟩
    refine ⟨_, rfl, a, kvs, t, rfl, ha, ht, hok, fun H1 e1 => ⟨_, rfl, ?_⟩⟩
    refine ifF rfl ?_
    walk_at "x"
    refine dc_bind (P := fun v H2 => ∃ (b : Addr) (ys : List Str), v = .ref b ∧ H2 b = some (.lst (ys.map V.str)) ∧ ys.Perm (namesT t) ∧ sortedS ys = true) (fun Q q => ?_) (fun v H2 e2 hv => ?_)
    · exact ⟨_, rfl, a, kvs, namesT t, rfl, .inl (e1 _ _ ha), hkeys, by omega, fun ys b hpm hst hb => q _ _ (same_new hb) ⟨b, ys, rfl, upd_same, hpm, hst⟩⟩
    · obtain ⟨b, ys, rfl, hb, hpm, hst⟩ := hv
      have e12 := e1.trans e2
      have ndy : ys.Nodup := hpm.nodup_iff.mpr nd
      refine dc_runL (K := K) (xs := ys.map V.str) (ev_c ⟨b, rfl, SqL.of hb⟩) ys (List.length_map ..) (fun _ => true) Sum.inr (fun z v H => ∃ r, (z, r) ∈ t ∧ RowV H v r) (by rw [hpm.length_eq]; omega)
        (by rw [List.nodup_iff_pairwise_ne, List.pairwise_map]; exact (List.nodup_iff_pairwise_ne.mp ndy).imp fun h z => h (Sum.inr.inj z)) (by intro _; rfl)
        (fun z v H H' e h => by obtain ⟨r, h1, h2⟩ := h; exact ⟨r, h1, h2.mono e⟩) (fun i z x H3 hi hx e3 => ⟨evt_yes, fun _ H4 e4 => ?_, fun _ H4 e4 => ?_⟩) (fun d H3 kvs' hd e3 hdk hP => ?_)
      · rw [List.getElem?_map, hi] at hx
        have ex : V.str z = x := Option.some.inj hx
        subst ex
        exact ev_is rfl rfl
      · rw [List.getElem?_map, hi] at hx
        have ex : V.str z = x := Option.some.inj hx
        subst ex
        have hz : z ∈ namesT t := hpm.mem_iff.mp (List.mem_of_getElem? hi)
        obtain ⟨⟨x', r⟩, hr', exx⟩ := List.mem_map.mp hz
        have ex2 : x' = z := exx
        subst ex2
        obtain ⟨v, hv, hrow⟩ := tab_look ht nd hr'
        have hSame : Same H H4 := e12.trans (e3.trans e4)
        intro Q q
        refine ⟨_, rfl, _, rfl, a, v, rfl, ?_, q v H4 (Same.refl _) ⟨r, hr', hrow.mono (tups_of hSame)⟩⟩
        have := DGet.k (k := Sum.inr x') (hSame _ _ ha)
        rw [hv] at this
        exact this
      · rw [filter_all] at hP
        obtain ⟨t', ht', hn', hs'⟩ := tab_of hP
        have pm : t'.Perm t := perm_of_names nd (by rw [hn']; exact hpm) hs'
        have e13 := e12.trans e3
        have npd : p ≠ d := ne_of_none (e12 _ _ hp) hd
        refine ⟨_, rfl, p, C, dx, [], rfl, e13 _ _ hp, T.cl, T.nT, (by show 0 < 1000; decide), ?_⟩
        generalize hH4 : upd H3 p (.ins C dx (putF "_table" (.ref d) [])) = H4
        have hp4 : H4 p = some (.ins C dx (putF "_table" (.ref d) [])) := by rw [← hH4]; exact upd_same
        have hd4 : H4 d = some (.dK kvs') := by rw [← hH4, upd_ne npd.symm]; exact hdk
        have t4 : TupS H3 H4 := by rw [← hH4]; exact tups_upd (e13 _ _ hp) (fun xs z => by cases z)
        have hlk : (putF "_table" (V.ref d) []).lookup ("_table" : Str) = some (.ref d) := by simp [putF, List.lookup]
        obtain ⟨e0, t0, rfl⟩ : ∃ e0 t0, t' = e0 :: t0 := by
          cases t' with
          | nil =>
            have := ok_perm hok pm
            simp [okTab] at this
          | cons e0 t0 => exact ⟨e0, t0, rfl⟩
        obtain ⟨kv0, kvs0, rfl⟩ : ∃ kv0 kvs0, kvs' = kv0 :: kvs0 := by
          cases kvs' with
          | nil => cases ht'
          | cons kv0 kvs0 => exact ⟨kv0, kvs0, rfl⟩
        obtain ⟨b0, rs, eb, hb0, hrs⟩ : RowV H3 kv0.2 e0.2 := by
          cases ht' with
          | cons r _ => exact r.2
        refine ⟨_, rfl, p, C, dx, _, _, rfl, hp4, T.cl, T.nT, hlk, d, _, rfl, hd4, fun l hl => ?_⟩
        refine ⟨l, _, 0, kv0.2, rfl, rfl, SqL.of upd_same, at_of (j := 0) rfl rfl, ?_⟩
        rw [eb]
        have e5 : Same H4 (upd H4 l (.lst (List.map (·.2) (kv0 :: kvs0)))) := same_new hl
        generalize upd H4 l (.lst (List.map (·.2) (kv0 :: kvs0))) = H5 at e5 ⊢
        refine ⟨b0, rs, rfl, .inr (SqT.of (e5 _ _ (t4 _ _ hb0))), _, rfl, p, C, dx, _, rfl, e5 _ _ hp4, T.cl, T.nS, (by show 1 < 1000; decide), ?_⟩
        have hsz : (rs.length : Int) = (sizeT (e0 :: t0) : Int) := by rw [Paired.length hrs]; rfl
        refine q _ (e0 :: t0) pm ⟨p, dx, d, kv0 :: kvs0, rfl, ?_, ?_, ?_, ok_perm hok pm, ?_, ?_⟩ ?_
        · rw [upd_same, hsz, kf_put]
        · rw [upd_ne npd.symm]
          exact e5 _ _ hd4
        · exact ht'.mono (t4.trans ((tups_of e5).trans (tups_upd (e5 _ _ hp4) (fun xs z => by cases z))))
        · rw [hn']; exact ndy
        · rw [hn']; exact hst
        · intro c o hc hco
          rw [upd_ne hc]
          refine e5 _ _ ?_
          rw [← hH4, upd_ne hc]
          exact e13 _ _ hco
end
end Tm

namespace Tm
open PySem PySem.Spec PyProof.Rows L2
local macro_rules | `(tactic| walk_at "x") => `(tactic| dsimp only [tNext, tRet, tSeq, tCB, tCons, tNil, tAsg, tDrop, sFld])
/-- a kind is made of a dict -/
theorem mk_kind {C : Addr} {H1 : Hp} {a : Addr} {kvs : List (L2.Key × V)} {t : Tab} {Q : VK} {E : XK} (ha : H1 a = some (.dK kvs)) (ht : TabV H1 kvs t) (hok : okTab t = true) (nd : (namesT t).Nodup)
    (q : ∀ v H' t', Same H1 H' → KindV C H' v t' → t'.Perm t → Q v H') :
    ∀ x dx, H1 x = none → H1 dx = none → dx ≠ x → sp_init C (.ref x :: ([V.ref a] ++ [])) (upd (upd H1 dx (.own x)) x (.ins C dx [])) (fun v H2 => v = .non ∧ Q (.ref x) H2) E := by
  intro x dx hx hdx hne
  have e : Same H1 (upd (upd H1 dx (.own x)) x (.ins C dx [])) := fun b o hb => by
    rw [upd_ne (ne_of_none hb hx), upd_ne (ne_of_none hb hdx)]; exact hb
  refine ⟨x, dx, a, kvs, t, rfl, upd_same, e _ _ ha, ht.mono (tups_of e), hok, nd, fun H' t' pm hk hkeep => ⟨rfl, q _ H' t' (fun b o hb => ?_) hk pm⟩⟩
  exact hkeep b o (ne_of_none hb hx) (e _ _ hb)
section
variable {P : Program} {w : World} {K : PySem.W.Frag} {mg : Str → Option Value} {base : Heap} {C : Addr}
/-! ### in, _need_operation, after, names -/
abbrev s_cont : Stmt := inClass (top 19) 14
theorem sc_cont : FnScope ["self", "x"] ["self", "x"] (defScope s_cont) := ⟨rfl, rfl, rfl, by decide +kernel, rfl, by decide +kernel, by decide +kernel⟩
def sp_cont (C : Addr) : Sp := fun vs H Q _ => ∃ (v : V) (t : Tab) (x : Str), vs = [v, .str x] ∧ KindV C H v t ∧ Q (.bl (decide (x ∈ namesT t))) H
theorem tab_isSome {H : Hp} : ∀ {kvs : List (L2.Key × V)} {t : Tab} (x : Str), TabV H kvs t → (valV kvs (Sum.inr x)).isSome = decide (x ∈ namesT t)
  | _, _, x, .nil => by simp [valV, namesT]
  | kv :: kvs, e :: t, x, .cons h ht => by
    rw [valV_cons, h.1]
    by_cases hx : e.1 = x
    · rw [if_pos (by rw [hx])]
      have : x ∈ namesT (e :: t) := by rw [← hx]; exact List.mem_cons_self
      rw [decide_eq_true this]; rfl
    · rw [if_neg (fun z => hx (Sum.inr.inj z)), tab_isSome x ht]
      have hiff : x ∈ namesT (e :: t) ↔ x ∈ namesT t := by
        show x ∈ e.1 :: namesT t ↔ _
        rw [List.mem_cons]
        exact ⟨fun z => z.resolve_left (fun y => hx y.symm), .inr⟩
      exact decide_eq_decide.mpr hiff.symm
theorem ok_cont (B : Bt mg) (T : Kc K C) (D : DfIn K C "Kind.__contains__" s_cont ["self", "x"]) : OkIn P w K mg base C 1 ["self", "x"] (sp_cont C) := by
  refine D.ok sc_cont (fun vs H Q E h => ?_) (fun f cdv A outer s H vs Q E hr h => ?_)
  · obtain ⟨v, t, x, rfl, _⟩ := h
    rfl
  · obtain ⟨v, t, x, rfl, ⟨a, dx, d, kvs, rfl, ha, hd, ht, hok, nd, hst⟩, q⟩ := h
    have hu := hu_of hr
    refine ⟨_, pss_one (ps_ret (pe_and (pe_callB (isiK (K := K)) (by rfl) B.isinstance (by decide +kernel) (pa_cons (pv 1) (pa_cons (pe_ty (n := "str") (by rfl) B.str (by decide +kernel)) (pa_nil)))) (pe_one (pe_cmp (pc_din hu (pv 1) (pe_fld (pv 0) rfl)) rfl)))), ?_⟩
    refine ⟨_, rfl, .str x, .ty "str", _, _, true, rfl, .ty "str", .base (.str x), kit_ty (by decide +kernel), _, rfl, ?_⟩
    refine ifT rfl ?_
    refine ⟨_, rfl, _, rfl, a, C, dx, _, _, rfl, ha, T.cl, T.nT, kf_T _ _, d, _, rfl, DGet.k (k := Sum.inr x) hd, ?_⟩
    rw [tab_isSome x ht]
    exact q
abbrev s_needop : Stmt := inClass (top 19) 12
theorem sc_needop : FnScope ["self", "name"] ["self", "name"] (defScope s_needop) := ⟨rfl, rfl, rfl, by decide +kernel, rfl, by decide +kernel, by decide +kernel⟩
def sp_needop (C : Addr) : Sp := fun vs H Q _ => ∃ (v : V) (t : Tab) (x : Str), vs = [v, .str x] ∧ KindV C H v t ∧ x ∈ namesT t ∧ Q .non H
theorem ok_needop (O_in : OkIn P w K mg base C 1 ["self", "x"] (sp_cont C)) (D : DfM K C "_need_operation" "Kind._need_operation" s_needop ["self", "name"]) : OkM P w K mg base C "_need_operation" 2 ["self", "name"] (sp_needop C) := by
  refine D.ok sc_needop (fun vs H Q E h => ?_) (fun f cdv A outer s H vs Q E hr h => ?_)
  · obtain ⟨v, t, x, rfl, _⟩ := h
    rfl
  · obtain ⟨v, t, x, rfl, hk, hx, q⟩ := h
    obtain ⟨a, dx, d, kvs, rfl, ha, _⟩ := id hk
    refine ⟨_, pss_one (ps_if (pt_cmpR (O_in.notIn hr) (pv 1) (pv 0) rfl) (pss_one ps_never) pss_nil), ?_⟩
    refine ⟨_, rfl, _, rfl, a, dx, _, rfl, ha, _, t, x, rfl, hk, _, rfl, _, rfl, ?_⟩
    refine ifF (by rw [decide_eq_true hx]; rfl) q
abbrev s_after : Stmt := inClass (top 19) 4
theorem sc_after : FnScope ["self", "state", "name"] ["self", "state", "name"] (defScope s_after) := ⟨rfl, rfl, rfl, by decide +kernel, rfl, by decide +kernel, by decide +kernel⟩
def sp_after (C : Addr) : Sp := fun vs H Q _ => ∃ (v : V) (t : Tab) (s : Nat) (x : Str) (r : Row) (p : Int × Int), vs = [v, .int (s : Int), .str x] ∧ KindV C H v t ∧ (x, r) ∈ t ∧ r[s]? = some p ∧ ∀ u, PairV H u p → Q u H
abbrev s_names : Stmt := inClass (top 19) 2
theorem sc_names : FnScope ["self"] ["self"] (defScope s_names) := ⟨rfl, rfl, rfl, by decide +kernel, rfl, by decide +kernel, by decide +kernel⟩
def sp_names (C : Addr) : Sp := fun vs H Q _ => ∃ (v : V) (t : Tab), vs = [v] ∧ KindV C H v t ∧ ∀ p, H p = none → Q (.ref p) (upd H p (.tup ((namesT t).map V.str)))
end
end Tm

/-! tuple(d), d a dict: its keys -/
namespace TmD
open PySem PySem.Spec PyProof.Rows PySem.W
section
variable {prog : Program} {w : World} {A : Around} {E : Value → Shared → Prop} {s : Shared} {T : String} {r d : Addr} {n : Nat} {Pd : Nat → Value → Prop} {OK : Heap → Prop}
abbrev emptyL : Obj := { cls := .type "list", data := .seq ([] : List Value).toArray }
theorem gather (K : KdlSrc prog w T r d n Pd OK) (hh : A.handled = none) (hok : OK s.heap) (hn : n ≤ sizeLine) {Q : List Value → Shared → Prop}
    (hQ : ∀ (h' : Heap) (tk : Nat) (acc : Array Value), (∀ b o, s.heap.get? b = some o → h'.get? b = some o) → ItemsOf Pd acc n → Q acc.toList { s with heap := h', toks := tk }) :
    wpAny (model prog w) A (collect (.ref r)) Q E s := by
  unfold collect
  refine wpAny_bind (wpAny_runValue (codeAny_builtin F.entry_proto_collect ?_))
  rw [Around.under_plainId F.plain_proto_collect _]
  show wpAny _ A.in1 (newList [] >>= fun l => again (.builtin "list.__iadd__" ⟨[l, .ref r], []⟩)) _ _ s
  refine wpAny_bind (wpAny_newObj_type ?_)
  refine wpAny_pure ⟨plainId_quiet F.plain_list_iadd _, codeAny_builtin F.entry_list_iadd ?_⟩
  rw [Around.under_plainId F.plain_list_iadd _]
  generalize hs1 : ({ s with heap := s.heap.push emptyL } : Shared) = s1
  have e1 : s1.heap = s.heap.push emptyL := by rw [← hs1]
  have old : ∀ b o, s.heap.get? b = some o → s1.heap.get? b = some o := fun b o q => by rw [e1]; exact Heap.get?_push_of_some _ q
  have lt := K.there _ hok
  have hS : s1.heap.get? s.heap.objs.size = some { cls := .type "list", data := .seq #[] 0 } := by rw [e1]; exact Heap.get?_push_size _ rfl
  have run := kdl_extend (A := A) (s := s1) (R := fun rr s' => rr = .ok (.ret (.ref s.heap.objs.size)) ∧ ∃ (h' : Heap) (tk : Nat) (acc : Array Value) (c' : Nat), s' = { s with heap := h', toks := tk } ∧
      (∀ b o, s.heap.get? b = some o → h'.get? b = some o) ∧ h'.get? s.heap.objs.size = some { cls := .type "list", dict := none, data := .seq acc c', slots := #[] } ∧ ItemsOf Pd acc n)
    K hh (K.keep _ _ hok fun b _ o q => old b o q) s.heap.objs.size (Nat.ne_of_gt lt.1) (Nat.ne_of_gt lt.2) (.ref s.heap.objs.size) 0 hS
    (fun h' tk acc c' hk e hi => ⟨rfl, h', tk, acc, c', by rw [← hs1], fun b o q => hk b o (Nat.ne_of_lt (Heap.lt_size q)) (old b o q), e, hi⟩) hn
  refine wpAny_mono run (fun fin s' h => ?_) (fun e s' h => absurd h.1 (by simp))
  cases fin with
  | done f =>
    obtain ⟨e, h', tk, acc, c', rfl, hk, hS', hi⟩ := h
    cases e
    show wpAny _ A (load s.heap.objs.size >>= _) _ _ _
    exact wpAny_bind (wpAny_load hS' (wpAny_pure (hQ h' tk acc hk hi)))
  | again c' =>
    refine ⟨h.1, codeAny_mono h.2 fun rr s'' z => ?_⟩
    obtain ⟨rfl, h', tk, acc, c', rfl, hk, hS', hi⟩ := z
    show wpAny _ A (load s.heap.objs.size >>= _) _ _ _
    exact wpAny_bind (wpAny_load hS' (wpAny_pure (hQ h' tk acc hk hi)))
theorem new_tuple (K : KdlSrc prog w T r d n Pd OK) (hh : A.handled = none) (hok : OK s.heap) (hn : n ≤ sizeLine) {Q₁ : Value → Shared → Prop}
    (hq : ∀ (h' : Heap) (tk : Nat) (acc : Array Value), (∀ b o, s.heap.get? b = some o → h'.get? b = some o) → ItemsOf Pd acc n → Q₁ (.ref h'.objs.size) { s with heap := h'.push { cls := .type "tuple", data := .seq acc }, toks := tk }) :
    codeAny (model prog w) A (.call (.builtin "tuple.__new__") ⟨[.type "tuple", .ref r], []⟩) (wants Q₁ E) s := by
  refine codeAny_of_tree ?_
  show wpAny _ A.in1 (do checkBuiltinCall "tuple.__new__" ⟨[.type "tuple", .ref r], []⟩; again (.builtin "tuple.__new__" ⟨[.type "tuple", .ref r], []⟩)) _ _ s
  refine wpAny_bind (wpAny_of_eq (F.newCall_tuple_1 _) (wpAny_pure ⟨plainId_quiet F.plain_tuple_new _, codeAny_builtin F.entry_tuple_new ?_⟩))
  rw [Around.under_plainId F.plain_tuple_new _]
  have a1 := sub_tuple_self
  have a2 := init_tuple_lookup
  have a3 := madeHere_tuple
  have a4 : s.TypeIs (.ref r) T := K.type s hok
  have a5 : A.in1.handled = none := hh
  wp_walk using wpAny_typeOf a4, gather (A := A.in1) K a5 hok hn
  rw [if_neg (by rw [K.notTuple]; decide)]
  wp_walk using gather (A := A.in1) K a5 hok hn
  intro h' tk acc hk hacc
  have ea : acc.toList.toArray = acc := by simp
  have hz : acc.size ≤ sizeLine := by rw [hacc.1]; exact hn
  show wpAny _ _ (Builtin.Tuple.tupleExact acc.toList.toArray >>= fun v => ret v) _ _ _
  rw [ea]
  unfold Builtin.Tuple.tupleExact
  exact wpAny_bind (wpAny_newObj_type (wpAny_pure (hq h' tk acc hk hacc)) hz)
theorem call_tuple_src (K : KdlSrc prog w T r d n Pd OK) (hh : A.handled = none) (hok : OK s.heap) (hn : n ≤ sizeLine) {Q : Value → Shared → Prop}
    (hq : ∀ (h' : Heap) (tk : Nat) (acc : Array Value), (∀ b o, s.heap.get? b = some o → h'.get? b = some o) → ItemsOf Pd acc n → Q (.ref h'.objs.size) { s with heap := h'.push { cls := .type "tuple", data := .seq acc }, toks := tk }) :
    wpAny (model prog w) A (call (.type "tuple") [.ref r]) Q E s := by
  have made := new_tuple (A := A.in1) (E := E) K hh hok hn (Q₁ := fun obj s₁ => s₁.TypeIs obj "tuple" ∧ Q obj s₁) fun h' tk acc hk hacc => ⟨⟨_, Heap.get?_push_size _ rfl, rfl⟩, hq h' tk acc hk hacc⟩
  refine callType_codes F.called_tuple (F.typeCall_tuple_1 _) F.entry_object_init made fun obj s₁ z => ?_
  exact ⟨z.1, F.args_object_init_2 obj _, object_init_meets F.called_tuple.init.lookup F.called_tuple.made (by decide) prog w A.in1 _ s₁ ⟨z.1, rfl, z.2⟩⟩
end
end TmD
namespace Tm
open PySem PySem.Spec PyProof.Rows L2
theorem vals_keys {prog : Program} {w : World} {kvs : List (L2.Key × V)} {vs : List (L2.Key × Value)} (kv : KV kvs vs) (acc : List Value) (hl : acc.length = vs.length) (h : ∀ (i : Nat) (v : Value), acc[i]? = some v → ∃ k x, vs[i]? = some (k, x) ∧ (mixKind prog w).is k v = true) :
    Vals (kvs.map fun e => kV e.1) acc := by
  induction kv generalizing acc with
  | nil =>
    cases acc with
    | nil => exact .nil
    | cons a r => simp at hl
  | cons r t ih =>
    cases acc with
    | nil => simp at hl
    | cons a r' =>
      obtain ⟨k, x, e, hk⟩ := h 0 a rfl
      simp only [List.getElem?_cons_zero, Option.some.injEq] at e
      refine .cons ?_ (ih r' (by simpa using hl) fun i v hv => by simpa using h (i + 1) v (by simpa using hv))
      show RelV (kV _) a
      rw [r.1, e]
      exact relV_key (show keyIs k a = true from hk)
/-- tuple(d) -/
theorem tupleD {X : Cx} (hc : X.calm = true := by rfl) : CallR X (.type "tuple") (fun xs H Q => ∃ (d : Addr) (kvs : List (L2.Key × V)), xs = [.ref d] ∧ H d = some (.dK kvs) ∧ ∀ p, H p = none → Q (.ref p) (upd H p (.tup (kvs.map fun e => kV e.1)))) := by
  intro pins s σ H xs us Q I r h
  obtain ⟨d, kvs, rfl, hd, q⟩ := h
  obtain ⟨u, rfl, ru⟩ := vals1 r
  have eu : u = Value.ref d := ru
  subst eu
  obtain ⟨hz, sys, vs, kv, hdo⟩ := I.hok d _ hd
  obtain ⟨ep, hat⟩ := hdo.dictAt
  have lk : kvs.length = vs.length := Paired.length kv
  refine TmD.call_tuple_src (PySem.W.kdl_dict (knd := mixKind X.prog X.w) (kvs := vs) (ep := ep) sys) (I.ok.hd hc) hat (by rw [← lk]; exact hz) fun h' tk acc hk hacc => ?_
  have I1 : Inv X pins σ H { s with heap := h', toks := tk } := I.kept hk
  have hv : Vals (kvs.map fun e => kV e.1) acc.toList := vals_keys kv acc.toList (by rw [Array.length_toList]; exact hacc.1) fun i v hv => hacc.2 i v (by rw [← Array.getElem?_toList]; exact hv)
  have ea : acc.toList.toArray = acc := by simp
  have I2 : Inv X pins σ (upd H h'.objs.size (.tup (kvs.map fun e => kV e.1))) { s with heap := h'.push { cls := .type "tuple", data := .seq acc.toList.toArray }, toks := tk } :=
    I1.laid (t' := tk) (fun b o e => Heap.get?_push_of_some _ e) (Nat.le_refl _) (show ObjOk X.prog X.w _ _ _ (.tup _) from ⟨by rw [List.length_map]; exact hz, acc.toList, hv, IsTup.new _ _⟩)
  rw [ea] at I2
  exact ⟨.ref h'.objs.size, _, I2, rfl, q _ (I1.hok.fresh (Nat.le_refl _))⟩
local macro_rules | `(tactic| walk_at "x") => `(tactic| dsimp only [tNext, tRet, tSeq, tCB, tCons, tNil, tAsg, tDrop, sFld])
section
variable {P : Program} {w : World} {K : PySem.W.Frag} {mg : Str → Option Value} {base : Heap} {C : Addr}
theorem ok_names (B : Bt mg) (T : Kc K C) (D : DfP K C "names" "Kind.names" s_names) : OkP P w K mg base C "names" 1 (sp_names C) := by
  refine D.ok sc_names (fun vs H Q E h => ?_) (fun f cdv A outer s H vs Q E hr h => ?_)
  · obtain ⟨v, t, rfl, _⟩ := h
    rfl
  · obtain ⟨v, t, rfl, ⟨a, dx, d, kvs, rfl, ha, hd, ht, hok, nd, hst⟩, q⟩ := h
    refine ⟨_, pss_one (ps_ret (pe_callTy tupleD (by rfl) B.tuple (by decide +kernel) (pa_cons (pe_fld (pv 0) rfl) pa_nil))), ?_⟩
    refine ⟨_, rfl, a, C, dx, _, _, rfl, ha, T.cl, T.nT, kf_T _ _, d, kvs, rfl, hd, fun p hp => ?_⟩
    have e : (kvs.map fun e => kV e.1) = (namesT t).map V.str := by
      have h1 := congrArg (List.map kV) (tabV_keys ht)
      rw [List.map_map, List.map_map] at h1
      exact h1
    rw [e]
    exact q p hp
end
end Tm

namespace Tm
open PySem PySem.Spec PyProof.Rows L2
local macro_rules | `(tactic| walk_at "x") => `(tactic| dsimp only [tNext, tRet, tSeq, tCB, tCons, tNil, tAsg, tDrop, sFld])
/-! ### the tables of the made kinds -/
def letr (word : Str) (i : Nat) : Str := word ++ (⟨#[97 + i]⟩ : Str)
def letT (word : Str) (rows : List Row) : Tab := rows.zipIdx.map fun z => (letr word z.2, z.1)
def cellT (n : Nat) : Tab := letT "put" ((List.range n).map fun (v : Nat) => List.replicate n ((v : Int), (0 : Int)))
def swapT (n : Nat) : Tab := letT "swap" ((List.range n).map fun (v : Nat) => (List.range n).map fun (s : Nat) => ((v : Int), (s : Int)))
def highT (n : Nat) : Tab := letT "raise" ((List.range n).map fun (l : Nat) => (List.range n).map fun (s : Nat) => ((if (l : Int) > (s : Int) then (l : Int) else (s : Int)), (0 : Int)))
def keptR (n : Nat) : Row := (List.range n).map fun (i : Nat) => (1 + (i : Int), 1 + (i : Int))
def slotT (n : Nat) : Tab := letT "set" ((keptR n).map fun p => p :: keptR n)
def fadeS (s n : Int) : Int := if s = n then 2 * n + 1 else if 2 * n + 1 < s + 1 then 2 * n + 1 else s + 1
def laterR (n : Nat) : Row := (List.range (2 * n + 1)).map fun (i : Nat) => (fadeS (1 + (i : Int)) n, (0 : Int))
def fadeT (n : Nat) : Tab := letT "set" [(1, 0) :: laterR n, ((n : Int) + 1, 0) :: laterR n]
def adderT (n : Nat) : Tab := [("add", (List.range n).map fun (s : Nat) => (((s : Int) + 1) % (n : Int), (s : Int)))]
def flagT : Tab := [("set", [(1, 0), (1, 1)])]
structure Gm (mg : Str → Option Value) : Prop where
  LETTERS : GV mg "LETTERS" (.str (PySem.Str.ofString "abcdefgh"))
theorem letters_at : ∀ k, k < 8 → (PySem.Str.ofString "abcdefgh").cps.toList[k]? = some (97 + k) := by decide +kernel
theorem paired_mapR {α β γ : Type} {F : α → γ → Prop} (f : β → γ) : ∀ {xs : List α} {ys : List β}, Paired (fun x y => F x (f y)) xs ys → Paired F xs (ys.map f)
  | _, _, .nil => .nil
  | _, _, .cons r t => .cons r (paired_mapR f t)
theorem paired_unmapR {α β γ : Type} {F : α → γ → Prop} (f : β → γ) : ∀ {xs : List α} {ys : List β}, Paired F xs (ys.map f) → Paired (fun x y => F x (f y)) xs ys
  | [], [], _ => .nil
  | _ :: _, [], h => by cases h
  | [], _ :: _, h => by cases h
  | _ :: _, _ :: _, .cons r t => .cons r (paired_unmapR f t)
/-! ### tuples made on the way -/
section
variable {α : Type} {K : PySem.W.Frag} {σ : L2.St} {H : Hp} {ta tb te : TE} {vs : List Nat} {j : Nat}
theorem ev_pair {x y : Int} (ha : Ev ta σ H fun v _ => v = .int x) (hb : ∀ H1, Same H H1 → Ev tb σ H1 fun v _ => v = .int y) : Ev (tTup (tCons ta (tCons tb tNil))) σ H (fun v H1 => PairV H1 v (x, y)) := fun Q q =>
  ha _ fun v H1 e1 h1 => hb H1 e1 _ fun u H2 e2 h2 => ⟨by show 2 ≤ sizeLine; decide, fun p hp => q _ _ (e1.trans (e2.trans (same_new hp))) ⟨p, rfl, by rw [upd_same, h1, h2]⟩⟩
/-- tuple(a new list of pairs) -/
theorem ev_rowOf {zs : List α} {f : α → Int × Int} (h : Ev te σ H fun v H1 => ∃ p ys, v = .ref p ∧ H1 p = some (.lst ys) ∧ Paired (fun v z => PairV H1 v (f z)) ys zs) :
    Ev (tCB (fun xs H Q => ∃ p ys, xs = [.ref p] ∧ ((SqL K H p ys ∧ ∀ l, H l = none → Q (.ref l) (upd H l (.tup ys))) ∨ (SqT K H p ys ∧ Q (.ref p) H))) (tCons te tNil)) σ H (fun v H1 => RowV H1 v (zs.map f)) := fun Q q =>
  h _ fun v H1 e1 hv => by
    obtain ⟨p, ys, rfl, hl, hP⟩ := hv
    exact ⟨p, ys, rfl, .inl ⟨SqL.of hl, fun l hl' => q _ _ (e1.trans (same_new hl')) ⟨l, ys, rfl, upd_same, paired_mapR f (Paired.mapP hP fun _ _ r => r.mono (tups_of (same_new hl')))⟩⟩⟩
theorem range_at {n i : Nat} {z : Nat} (h : (List.range n)[i]? = some z) : z = i ∧ i < n := by
  have hl := (List.getElem?_eq_some_iff.mp h).1
  rw [List.length_range] at hl
  rw [List.getElem?_range hl] at h
  exact ⟨(Option.some.inj h).symm, hl⟩
/-- [e for x in range(n)], a row of pairs -/
theorem ev_lcR {ta' : TA} {n : Nat} (h : EvA ta' σ H fun l _ => l = [.int (n : Int)]) (hn : n ≤ 1000) (R : Nat → V → Hp → Prop) (hw : ∀ x, wipe ((wipe σ vs).set j (some x)) vs = wipe σ vs) (hR : ∀ z v H H', TupS H H' → R z v H → R z v H')
    (hs : ∀ (i : Nat) H1, i < n → Same H H1 → Ev te ((wipe σ vs).set j (some (.int (i : Int)))) H1 (R i)) :
    Ev (tLc (iRng1 ta') (gName j) tYes te vs) σ H (fun v H1 => ∃ p ys, v = .ref p ∧ H1 p = some (.lst ys) ∧ Paired (fun v z => R z v H1) ys (List.range n)) := fun Q q =>
  lc_runR h (by omega) (List.range n) (by rw [List.length_range]; omega) (fun _ => true) R (by rw [List.length_range]; omega) hw hR
    (fun i z x H1 hi hx e => ⟨evt_yes, fun _ H3 e3 => by
      obtain ⟨rfl, hlt⟩ := range_at hi
      rw [hx]
      exact hs z H3 hlt (e.trans e3)⟩)
    (fun p H1 ys hp e hl hP => q _ _ e ⟨p, ys, rfl, hl, by rw [filter_all] at hP; exact hP⟩)
theorem ev_lcR2 {ta' : TA} {lo m : Int} {n : Nat} (h : EvA ta' σ H fun l _ => l = [.int lo, .int m]) (hlo : 0 ≤ lo ∧ lo ≤ 1000) (hm : m = lo + n) (hn : n ≤ 1000) (R : Nat → V → Hp → Prop) (hw : ∀ x, wipe ((wipe σ vs).set j (some x)) vs = wipe σ vs) (hR : ∀ z v H H', TupS H H' → R z v H → R z v H')
    (hs : ∀ (i : Nat) H1, i < n → Same H H1 → Ev te ((wipe σ vs).set j (some (.int (lo + (i : Int))))) H1 (R i)) :
    Ev (tLc (iRng2 ta') (gName j) tYes te vs) σ H (fun v H1 => ∃ p ys, v = .ref p ∧ H1 p = some (.lst ys) ∧ Paired (fun v z => R z v H1) ys (List.range n)) := fun Q q =>
  lc_runR2 h (by omega) (List.range n) (by rw [List.length_range]; omega) (fun _ => true) R (by rw [List.length_range]; omega) hw hR
    (fun i z x H1 hi hx e => ⟨evt_yes, fun _ H3 e3 => by
      obtain ⟨rfl, hlt⟩ := range_at hi
      rw [hx]
      exact hs z H3 hlt (e.trans e3)⟩)
    (fun p H1 ys hp e hl hP => q _ _ e ⟨p, ys, rfl, hl, by rw [filter_all] at hP; exact hP⟩)
theorem lcR_go {Q : VK} {ta' : TA} {n : Nat} (h : EvA ta' σ H fun l _ => l = [.int (n : Int)]) (hn : n ≤ 1000) (R : Nat → V → Hp → Prop) (hw : ∀ x, wipe ((wipe σ vs).set j (some x)) vs = wipe σ vs) (hR : ∀ z v H H', TupS H H' → R z v H → R z v H')
    (hs : ∀ (i : Nat) H1, i < n → Same H H1 → Ev te ((wipe σ vs).set j (some (.int (i : Int)))) H1 (R i))
    (hq : ∀ p H1 ys, Same H H1 → H1 p = some (.lst ys) → Paired (fun v z => R z v H1) ys (List.range n) → Q (.ref p) H1) : tLc (iRng1 ta') (gName j) tYes te vs σ H Q :=
  ev_lcR h hn R hw hR hs Q fun v H1 e hv => by
    obtain ⟨p, ys, rfl, hl, hP⟩ := hv
    exact hq p H1 ys e hl hP
theorem lcR2_go {Q : VK} {ta' : TA} {lo m : Int} {n : Nat} (h : EvA ta' σ H fun l _ => l = [.int lo, .int m]) (hlo : 0 ≤ lo ∧ lo ≤ 1000) (hm : m = lo + n) (hn : n ≤ 1000) (R : Nat → V → Hp → Prop) (hw : ∀ x, wipe ((wipe σ vs).set j (some x)) vs = wipe σ vs) (hR : ∀ z v H H', TupS H H' → R z v H → R z v H')
    (hs : ∀ (i : Nat) H1, i < n → Same H H1 → Ev te ((wipe σ vs).set j (some (.int (lo + (i : Int))))) H1 (R i))
    (hq : ∀ p H1 ys, Same H H1 → H1 p = some (.lst ys) → Paired (fun v z => R z v H1) ys (List.range n) → Q (.ref p) H1) : tLc (iRng2 ta') (gName j) tYes te vs σ H Q :=
  ev_lcR2 h hlo hm hn R hw hR hs Q fun v H1 e hv => by
    obtain ⟨p, ys, rfl, hl, hP⟩ := hv
    exact hq p H1 ys e hl hP
end
section
variable {P : Program} {w : World} {K : PySem.W.Frag} {mg : Str → Option Value} {base : Heap} {C : Addr}
/-! ### _lettered -/
abbrev s_lettered : Stmt := top 23
theorem sc_lettered : FnScope ["word", "rows", "index", "row"] ["word", "rows"] (defScope s_lettered) := ⟨rfl, rfl, rfl, by decide +kernel, rfl, by decide +kernel, by decide +kernel⟩
def sp_lettered (C : Addr) : Sp := fun vs H Q _ => ∃ (word : Str) (a : Addr) (xs : List V) (rows : List Row), vs = [.str word, .ref a] ∧ H a = some (.lst xs) ∧ Paired (RowV H) xs rows ∧ word.length ≤ 100 ∧ okTab (letT word rows) = true ∧ (namesT (letT word rows)).Nodup ∧
  ∀ v H' t', Same H H' → KindV C H' v t' → t'.Perm (letT word rows) → Q v H'
theorem zip_at {rows : List Row} {k : Nat} {z : Row × Nat} (h : rows.zipIdx[k]? = some z) : z.2 = k ∧ rows[k]? = some z.1 := by
  rw [List.getElem?_zipIdx] at h
  cases e : rows[k]? with
  | none => rw [e] at h; cases h
  | some r =>
    rw [e] at h
    have := Option.some.inj h
    rw [← this]
    exact ⟨Nat.zero_add _, rfl⟩
theorem ok_lettered (B : Bt mg) (G : Gm mg) (OC_Kind : OkC P w K mg base "Kind" C 5 ["self", "operations"] (sp_init C)) (D : Df K mg "_lettered" s_lettered ["word", "rows"]) : Ok P w K mg base "_lettered" 7 ["word", "rows"] (sp_lettered C) := by
  refine D.ok sc_lettered (fun vs H Q E h => ?_) (fun f cdv A outer s H vs Q E hr h => ?_)
  · obtain ⟨word, a, xs, rows, rfl, _⟩ := h
    rfl
  · obtain ⟨word, a, xs, rows, rfl, ha, hx, hwl, hok, nd, q⟩ := h
    have hlen := Paired.length hx
    have h6 : rows.length ≤ 6 := by
      have := hok
      unfold okTab at this
      simp only [Bool.and_eq_true, decide_eq_true_eq] at this
      have h2 := this.1.1.1.2
      unfold letT at h2
      rw [List.length_map, List.length_zipIdx] at h2
      exact h2
    refine ⟨_, pss_one (ps_ret (OC_Kind.make hr (ha := pa_cons (pe_dc (own := [("index", 2), ("row", 3)]) (g := gTup K 2 (gCons (gName 2) (gCons (gName 3) (gNil)))) (tt := tYes) rfl sc_lettered.nd (pi_enum (by rfl) B.enumerate (pa_cons (pv 1) (pa_nil))) (blkOk_by (own := [("index", 2), ("row", 3)]) (N := ["word", "rows", "index", "row"]) (sc := defScope s_lettered) (by decide +kernel)) (fun _ _ _ _ _ => pg_tup (by rfl) (pgs_cons (pg_name (i := 2) sc_lettered.nd rfl (.inl rfl)) (pgs_cons (pg_name (i := 3) sc_lettered.nd rfl (.inl rfl)) (pgs_nil)))) (fun _ _ _ _ _ => pts_nil) (fun _ _ _ _ _ => pe_op op_add_str (pv 0) (pe_ix ix_str (G.LETTERS.pe) (pv 2) (fun _ _ => rfl))) (fun _ _ _ _ _ => pv 3)) (pa_nil)))), ?_⟩
    dsimp only [tRet, tMake, tCons, tNil]
    refine dc_runE (K := K) (xs := xs) (fun Q q => ⟨_, rfl, q _ _ (Same.refl _) ⟨a, rfl, SqL.of ha⟩⟩) rows.zipIdx (by rw [List.length_zipIdx]; exact hlen) (fun _ => true) (fun z => Sum.inr (letr word z.2)) (fun z v H => RowV H v z.1) (by rw [List.length_zipIdx]; omega)
      (by
        have h1 : (rows.zipIdx.map fun z => (Sum.inr (letr word z.2) : L2.Key)) = (namesT (letT word rows)).map Sum.inr := by
          unfold namesT letT
          rw [List.map_map, List.map_map]
          rfl
        rw [h1, List.nodup_iff_pairwise_ne, List.pairwise_map]
        exact (List.nodup_iff_pairwise_ne.mp nd).imp fun h z => h (Sum.inr.inj z)) (by intro _ _; rfl)
      (fun z v H H' e h => h.mono e) (fun k z x H1 hk hx' e => ⟨evt_yes, fun _ H3 e3 => ?_, fun _ H3 e3 => ?_⟩) (fun p H1 kvs hp e hd hP => ?_)
    · obtain ⟨ez, hr'⟩ := zip_at hk
      have hk8 : k < 8 := by have := (List.getElem?_eq_some_iff.mp hr').1; omega
      intro Q q
      refine ⟨_, rfl, _, rfl, _, (k : Int), 97 + k, rfl, rfl, sz_le (by decide), atI_nat (letters_at k hk8), word, _, rfl, rfl, sz_le (by show word.length + 1 ≤ 100000; omega), ?_⟩
      refine q _ _ (Same.refl _) ?_
      rw [ez]
      rfl
    · obtain ⟨ez, hr'⟩ := zip_at hk
      obtain ⟨r, hr2, hrow⟩ := paired_ix2 hx hx'
      rw [hr'] at hr2
      cases hr2
      exact ev_is rfl (hrow.mono (tups_of (e.trans e3)))
    · rw [filter_all] at hP
      have ht : TabV H1 kvs (letT word rows) := paired_mapR _ hP
      exact mk_kind hd ht hok nd fun v H' t' e' hk pm => q v H' t' (e.trans e') hk pm
end
end Tm

namespace Tm
open PySem PySem.Spec PyProof.Rows L2
local macro_rules | `(tactic| walk_at "x") => `(tactic| dsimp only [tNext, tRet, tSeq, tCall, tC, tCons, tNil, tAsg, tDrop, sFld])
theorem cell_ok : ∀ n, n < 7 → 2 ≤ n → okTab (cellT n) = true ∧ (namesT (cellT n)).Nodup := by decide +kernel
theorem swap_ok : ∀ n, n < 7 → 2 ≤ n → okTab (swapT n) = true ∧ (namesT (swapT n)).Nodup := by decide +kernel
theorem high_ok : ∀ n, n < 7 → 2 ≤ n → okTab (highT n) = true ∧ (namesT (highT n)).Nodup := by decide +kernel
theorem slot_ok : ∀ n, n < 7 → 1 ≤ n → okTab (slotT n) = true ∧ (namesT (slotT n)).Nodup := by decide +kernel
theorem fade_ok : ∀ n, n < 6 → 1 ≤ n → okTab (fadeT n) = true ∧ (namesT (fadeT n)).Nodup := by decide +kernel
theorem adder_ok : ∀ n, n < 13 → 2 ≤ n → okTab (adderT n) = true ∧ (namesT (adderT n)).Nodup := by decide +kernel
theorem flag_ok : okTab flagT = true ∧ (namesT flagT).Nodup := by decide +kernel
/-- x = tuple(a new list of pairs), then the rest -/
theorem asg_row {α : Type} {K : PySem.W.Frag} {D : Ends} {σ : L2.St} {H : Hp} {te : TE} {i : Nat} {rest : TS} {zs : List α} {f : α → Int × Int} (h : Ev te σ H fun v H1 => ∃ p ys, v = .ref p ∧ H1 p = some (.lst ys) ∧ Paired (fun v z => PairV H1 v (f z)) ys zs)
    (k : ∀ v H1, Same H H1 → RowV H1 v (zs.map f) → rest D (σ.set i (some v)) H1) :
    tSeq (tAsg (tCB (fun xs H Q => ∃ p ys, xs = [.ref p] ∧ ((SqL K H p ys ∧ ∀ l, H l = none → Q (.ref l) (upd H l (.tup ys))) ∨ (SqT K H p ys ∧ Q (.ref p) H))) (tCons te tNil)) (gName i)) rest D σ H :=
  ev_rowOf (K := K) h _ fun v H1 e hv => k v H1 e hv
theorem paired_rep {α β : Type} {F : α → β → Prop} {x : α} {y : β} (h : F x y) : ∀ n, Paired F (List.replicate n x) (List.replicate n y)
  | 0 => .nil
  | n + 1 => .cons h (paired_rep h n)
section
variable {P : Program} {w : World} {K : PySem.W.Frag} {mg : Str → Option Value} {base : Heap} {C : Addr}
def sp_made (C : Addr) (lo hi : Nat) (T : Nat → Tab) : Sp := fun vs H Q _ => ∃ n : Nat, vs = [.int (n : Int)] ∧ lo ≤ n ∧ n ≤ hi ∧ ∀ v H' t', Same H H' → KindV C H' v t' → t'.Perm (T n) → Q v H'
abbrev NeedNum (P : Program) (w : World) (K : PySem.W.Frag) (mg : Str → Option Value) (base : Heap) := Ok P w K mg base "need_number" 2 ["value", "least", "most"] sp_need
abbrev Lett (P : Program) (w : World) (K : PySem.W.Frag) (mg : Str → Option Value) (base : Heap) (C : Addr) := Ok P w K mg base "_lettered" 7 ["word", "rows"] (sp_lettered C)
/-! ### cells -/
abbrev s_cell : Stmt := top 24
theorem sc_cell_kind : FnScope ["many", "value"] ["many"] (defScope s_cell) := ⟨rfl, rfl, rfl, by decide +kernel, rfl, by decide +kernel, by decide +kernel⟩
theorem ok_cell (B : Bt mg) (O_need_number : NeedNum P w K mg base) (O_lettered : Lett P w K mg base C) (D : Df K mg "cell_kind" s_cell ["many"]) : Ok P w K mg base "cell_kind" 8 ["many"] (sp_made C 2 6 cellT) := by
  refine D.ok sc_cell_kind (fun vs H Q E h => ?_) (fun f cdv A outer s H vs Q E hr h => ?_)
  · obtain ⟨n, rfl, _⟩ := h
    rfl
  · obtain ⟨n, rfl, h2, h6, q⟩ := h
    have hT := cell_ok n (by omega) h2
    refine ⟨_, pss_cons (ps_expr (O_need_number.call hr (ha := pa_cons (pv 0) (pa_cons (pe_int) (pa_cons (pe_int) (pa_nil))))))
      (pss_one (ps_ret (O_lettered.call hr (ha := pa_cons (pe_str) (pa_cons (pe_lc (own := [("value", 1)]) (g := gName 1) (tt := tYes) rfl sc_cell_kind.nd (pi_range1 (by rfl) B.range (pa_cons (pv 0) (pa_nil))) (blkOk_by (own := [("value", 1)]) (N := ["many", "value"]) (sc := defScope s_cell) (by decide +kernel)) (fun _ _ _ _ _ => pg_name (i := 1) sc_cell_kind.nd rfl (.inl rfl)) (fun _ _ _ _ _ => pts_nil) (fun _ _ _ _ _ => pe_op (repTK (K := K)) (pe_tup (pa_cons (pe_tup (pa_cons (pv 1) (pa_cons (pe_int) (pa_nil)))) (pa_nil))) (pv 0))) (pa_nil)))))), ?_⟩
    refine ⟨_, rfl, n, 1, 6, rfl, by omega, by omega, ?_⟩
    walk_at "x"
    refine lcR_go (n := n) (fun Q q => ⟨_, rfl, q _ _ (Same.refl _) rfl⟩) (by omega) (fun i v H => RowV H v (List.replicate n ((i : Int), (0 : Int)))) (by intro _; rfl) (fun z v H H' e h => h.mono e) (fun i H1 hi e Q q => ?_) fun p H1 ys e hl hP => ?_
    · refine ⟨_, rfl, by show 2 ≤ sizeLine; decide, fun p hp => ⟨by show 1 ≤ sizeLine; decide, fun p2 hp2 => ⟨_, rfl, p2, (n : Int), [.ref p], rfl, rfl, SqT.of upd_same, by simp, by omega, by omega, by simp, fun p3 hp3 => ?_⟩⟩⟩
      have hp3' : p3 ≠ p := fun z => by rw [z, upd_ne (fun y => by rw [y, upd_same] at hp2; cases hp2), upd_same] at hp3; cases hp3
      have np2 : p2 ≠ p := fun y => by rw [y, upd_same] at hp2; cases hp2
      refine q _ _ ?_ ⟨p3, _, rfl, upd_same, ?_⟩
      · exact (same_new hp).trans ((same_new hp2).trans (same_new hp3))
      · have er : (List.replicate (n : Int).toNat [V.ref p]).flatten = List.replicate n (V.ref p) := by simp
        rw [er]
        have hpair : PairV (upd (upd (upd H1 p (.tup [.int (i : Int), .int 0])) p2 (.tup [.ref p])) p3 (.tup (List.replicate n (V.ref p)))) (.ref p) ((i : Int), 0) :=
          ⟨p, rfl, by rw [upd_ne hp3'.symm, upd_ne np2.symm, upd_same]⟩
        generalize upd (upd (upd H1 p (.tup [.int (i : Int), .int 0])) p2 (.tup [.ref p])) p3 (.tup (List.replicate n (V.ref p))) = Hn at hpair
        exact paired_rep hpair n
    · exact ⟨"put", p, ys, _, rfl, hl, paired_mapR _ hP, by decide, hT.1, hT.2, fun v H' t' e' hk pm => q v H' t' (e.trans e') hk pm⟩
/-! ### swap and highest kinds: rows of rows -/
abbrev s_swap : Stmt := top 26
theorem sc_swap_kind : FnScope ["many", "value", "state"] ["many"] (defScope s_swap) := ⟨rfl, rfl, rfl, by decide +kernel, rfl, by decide +kernel, by decide +kernel⟩
theorem ok_swap (B : Bt mg) (O_need_number : NeedNum P w K mg base) (O_lettered : Lett P w K mg base C) (D : Df K mg "swap_kind" s_swap ["many"]) : Ok P w K mg base "swap_kind" 8 ["many"] (sp_made C 2 6 swapT) := by
  refine D.ok sc_swap_kind (fun vs H Q E h => ?_) (fun f cdv A outer s H vs Q E hr h => ?_)
  · obtain ⟨n, rfl, _⟩ := h
    rfl
  · obtain ⟨n, rfl, h2, h6, q⟩ := h
    have hT := swap_ok n (by omega) h2
    refine ⟨_, pss_cons (ps_expr (O_need_number.call hr (ha := pa_cons (pv 0) (pa_cons (pe_int) (pa_cons (pe_int) (pa_nil))))))
      (pss_one (ps_ret (O_lettered.call hr (ha := pa_cons (pe_str) (pa_cons (pe_lc (own := [("value", 1)]) (g := gName 1) (tt := tYes) rfl sc_swap_kind.nd (pi_range1 (by rfl) B.range (pa_cons (pv 0) (pa_nil))) (blkOk_by (own := [("value", 1)]) (N := ["many", "value", "state"]) (sc := defScope s_swap) (by decide +kernel)) (fun _ _ _ _ _ => pg_name (i := 1) sc_swap_kind.nd rfl (.inr rfl)) (fun _ _ _ _ _ => pts_nil) (fun _ _ _ _ _ => pe_callTy (tupleK (K := K)) (by rfl) B.tuple (by decide +kernel) (pa_cons (pe_lc (own := [("state", 2)]) (g := gName 2) (tt := tYes) rfl sc_swap_kind.nd (pi_range1 (by rfl) B.range (pa_cons (pv 0) (pa_nil))) (blkOk_by (own := [("state", 2)]) (N := ["many", "value", "state"]) (by rfl)) (fun _ _ _ _ _ => pg_name (i := 2) sc_swap_kind.nd rfl (.inl rfl)) (fun _ _ _ _ _ => pts_nil) (fun _ _ _ _ _ => pe_tup (pa_cons (pv 1) (pa_cons (pv 2) (pa_nil))))) (pa_nil)))) (pa_nil)))))), ?_⟩
    refine ⟨_, rfl, n, 2, 6, rfl, by omega, by omega, ?_⟩
    walk_at "x"
    refine lcR_go (n := n) (fun Q q => ⟨_, rfl, q _ _ (Same.refl _) rfl⟩) (by omega) (fun i v H => RowV H v ((List.range n).map fun s : Nat => ((i : Int), (s : Int)))) (by intro _; rfl) (fun z v H H' e h => h.mono e) (fun i H1 hi e => ?_) fun p H1 ys e hl hP => ?_
    · refine ev_rowOf (f := fun s : Nat => ((i : Int), (s : Int))) ?_
      exact ev_lcR (n := n) (fun Q q => ⟨_, rfl, q _ _ (Same.refl _) rfl⟩) (by omega) _ (by intro _; rfl) (fun z v H H' e h => h.mono e) (fun s H2 hs e2 => ev_pair (ev_is rfl rfl) fun _ _ => ev_is rfl rfl)
    · exact ⟨"swap", p, ys, _, rfl, hl, paired_mapR _ hP, by decide, hT.1, hT.2, fun v H' t' e' hk pm => q v H' t' (e.trans e') hk pm⟩
abbrev s_high : Stmt := top 32
theorem sc_highest_kind : FnScope ["many", "least", "state"] ["many"] (defScope s_high) := ⟨rfl, rfl, rfl, by decide +kernel, rfl, by decide +kernel, by decide +kernel⟩
theorem ok_high (B : Bt mg) (O_need_number : NeedNum P w K mg base) (O_lettered : Lett P w K mg base C) (D : Df K mg "highest_kind" s_high ["many"]) : Ok P w K mg base "highest_kind" 8 ["many"] (sp_made C 2 6 highT) := by
  refine D.ok sc_highest_kind (fun vs H Q E h => ?_) (fun f cdv A outer s H vs Q E hr h => ?_)
  · obtain ⟨n, rfl, _⟩ := h
    rfl
  · obtain ⟨n, rfl, h2, h6, q⟩ := h
    have hT := high_ok n (by omega) h2
    refine ⟨_, pss_cons (ps_expr (O_need_number.call hr (ha := pa_cons (pv 0) (pa_cons (pe_int) (pa_cons (pe_int) (pa_nil))))))
      (pss_one (ps_ret (O_lettered.call hr (ha := pa_cons (pe_str) (pa_cons (pe_lc (own := [("least", 1)]) (g := gName 1) (tt := tYes) rfl sc_highest_kind.nd (pi_range1 (by rfl) B.range (pa_cons (pv 0) (pa_nil))) (blkOk_by (own := [("least", 1)]) (N := ["many", "least", "state"]) (sc := defScope s_high) (by decide +kernel)) (fun _ _ _ _ _ => pg_name (i := 1) sc_highest_kind.nd rfl (.inr rfl)) (fun _ _ _ _ _ => pts_nil) (fun _ _ _ _ _ => pe_callTy (tupleK (K := K)) (by rfl) B.tuple (by decide +kernel) (pa_cons (pe_lc (own := [("state", 2)]) (g := gName 2) (tt := tYes) rfl sc_highest_kind.nd (pi_range1 (by rfl) B.range (pa_cons (pv 0) (pa_nil))) (blkOk_by (own := [("state", 2)]) (N := ["many", "least", "state"]) (by rfl)) (fun _ _ _ _ _ => pg_name (i := 2) sc_highest_kind.nd rfl (.inl rfl)) (fun _ _ _ _ _ => pts_nil) (fun _ _ _ _ _ => pe_tup (pa_cons (pe_callB (call_max2 rfl) (by rfl) B.max (by decide +kernel) (pa_cons (pv 2) (pa_cons (pv 1) (pa_nil)))) (pa_cons (pe_int) (pa_nil))))) (pa_nil)))) (pa_nil)))))), ?_⟩
    refine ⟨_, rfl, n, 2, 6, rfl, by omega, by omega, ?_⟩
    walk_at "x"
    refine lcR_go (n := n) (fun Q q => ⟨_, rfl, q _ _ (Same.refl _) rfl⟩) (by omega) (fun i v H => RowV H v ((List.range n).map fun s : Nat => ((if (i : Int) > (s : Int) then (i : Int) else (s : Int)), (0 : Int)))) (by intro _; rfl) (fun z v H H' e h => h.mono e) (fun i H1 hi e => ?_) fun p H1 ys e hl hP => ?_
    · refine ev_rowOf (f := fun s : Nat => ((if (i : Int) > (s : Int) then (i : Int) else (s : Int)), (0 : Int))) ?_
      exact ev_lcR (n := n) (fun Q q => ⟨_, rfl, q _ _ (Same.refl _) rfl⟩) (by omega) _ (by intro _; rfl) (fun z v H H' e h => h.mono e) (fun s H2 hs e2 => ev_pair (fun Q q => ⟨_, rfl, _, rfl, _, _, rfl, q _ _ (Same.refl _) rfl⟩) fun _ _ => ev_c rfl)
    · exact ⟨"raise", p, ys, _, rfl, hl, paired_mapR _ hP, by decide, hT.1, hT.2, fun v H' t' e' hk pm => q v H' t' (e.trans e') hk pm⟩
/-! ### slots -/
abbrev s_slot : Stmt := top 27
theorem sc_slot_kind : FnScope ["many", "kept", "state", "pair"] ["many"] (defScope s_slot) := ⟨rfl, rfl, rfl, by decide +kernel, rfl, by decide +kernel, by decide +kernel⟩
theorem ok_slot (B : Bt mg) (O_need_number : NeedNum P w K mg base) (O_lettered : Lett P w K mg base C) (D : Df K mg "slot_kind" s_slot ["many"]) : Ok P w K mg base "slot_kind" 8 ["many"] (sp_made C 1 6 slotT) := by
  refine D.ok sc_slot_kind (fun vs H Q E h => ?_) (fun f cdv A outer s H vs Q E hr h => ?_)
  · obtain ⟨n, rfl, _⟩ := h
    rfl
  · obtain ⟨n, rfl, h2, h6, q⟩ := h
    have hT := slot_ok n (by omega) h2
    refine ⟨_, pss_cons (ps_expr (O_need_number.call hr (ha := pa_cons (pv 0) (pa_cons (pe_int) (pa_cons (pe_int) (pa_nil))))))
      (pss_cons (ps_set (i := 1) sc_slot_kind.nd rfl (.inr rfl) (pe_callTy (tupleK (K := K)) (by rfl) B.tuple (by decide +kernel) (pa_cons (pe_lc (own := [("state", 2)]) (g := gName 2) (tt := tYes) rfl sc_slot_kind.nd (pi_range2 (by rfl) B.range (pa_cons (pe_int) (pa_cons (pe_op op_add (pv 0) (pe_int)) (pa_nil)))) (blkOk_by (own := [("state", 2)]) (N := ["many", "kept", "state", "pair"]) (sc := defScope s_slot) (by decide +kernel)) (fun _ _ _ _ _ => pg_name (i := 2) sc_slot_kind.nd rfl (.inl rfl)) (fun _ _ _ _ _ => pts_nil) (fun _ _ _ _ _ => pe_tup (pa_cons (pv 2) (pa_cons (pv 2) (pa_nil))))) (pa_nil))))
      (pss_one (ps_ret (O_lettered.call hr (ha := pa_cons (pe_str) (pa_cons (pe_lc (own := [("pair", 3)]) (g := gName 3) (tt := tYes) rfl sc_slot_kind.nd (pi_tup (pv 1)) (blkOk_by (own := [("pair", 3)]) (N := ["many", "kept", "state", "pair"]) (sc := defScope s_slot) (by decide +kernel)) (fun _ _ _ _ _ => pg_name (i := 3) sc_slot_kind.nd rfl (.inl rfl)) (fun _ _ _ _ _ => pts_nil) (fun _ _ _ _ _ => pe_tup (pa_cons (pv 3) (pa_starK (K := K) (pv 1) (pa_nil))))) (pa_nil))))))), ?_⟩
    refine ⟨_, rfl, n, 1, 6, rfl, by omega, by omega, ?_⟩
    dsimp only
    refine asg_row (f := fun i : Nat => (1 + (i : Int), 1 + (i : Int))) (zs := List.range n) ?_ fun v H1 e1 hv => ?_
    · exact ev_lcR2 (n := n) (lo := 1) (m := (n : Int) + 1) (fun Q q => ⟨_, rfl, _, _, rfl, rfl, q _ _ (Same.refl _) rfl⟩) (by omega) (by omega) (by omega) _ (by intro _; rfl) (fun z v H H' e h => h.mono e) (fun s H2 hs e2 => ev_pair (ev_is rfl rfl) fun _ _ => ev_is rfl rfl)
    obtain ⟨a, xs, rfl, ha, hx⟩ := hv
    have hkl : (keptR n).length = n := by simp [keptR]
    have hlen := Paired.length hx
    rw [List.length_map, List.length_range] at hlen
    walk_at "x"
    refine lc_runT (K := K) (xs := xs) (ev_is rfl ⟨a, rfl, SqT.of ha⟩) (keptR n) (by rw [hkl]; exact hlen) (fun _ => true) (fun z v H => RowV H v (z :: keptR n)) (by rw [hkl]; omega) (by intro _; rfl) (fun z v H H' e h => h.mono e)
      (fun i z v H2 hi y e => ⟨evt_yes, fun _ H3 e3 Q q => ?_⟩) (fun p H2 ys hp e2 hl hP => ?_)
    · obtain ⟨z', hz', hpz⟩ := paired_ix2 hx y
      have hz2 : z' = z := by
        have h0 : (keptR n)[i]? = some z' := hz'
        rw [hi] at h0
        exact (Option.some.inj h0).symm
      subst hz2
      have s3 : Same H1 H3 := e.trans e3
      refine ⟨_, rfl, _, rfl, a, xs, rfl, .inl (SqT.of (s3 _ _ ha)), by show (v :: (xs ++ [])).length ≤ sizeLine; exact sz_le (by simp; omega), fun p hp => q _ _ (same_new hp) ⟨p, _, rfl, upd_same, ?_⟩⟩
      rw [List.append_nil]
      have t4 := (tups_of s3).trans (tups_of (same_new (o := .tup (v :: xs)) hp))
      exact .cons (hpz.mono t4) (Paired.mapP hx fun _ _ r => r.mono t4)
    · rw [filter_all] at hP
      exact ⟨"set", p, ys, _, rfl, hl, paired_mapR _ hP, by decide, hT.1, hT.2, fun v H' t' e' hk pm => q v H' t' (e1.trans (e2.trans e')) hk pm⟩
end
end Tm

namespace Tm
open PySem PySem.Spec PyProof.Rows L2
local macro_rules | `(tactic| walk_at "x") => `(tactic| dsimp only [tNext, tRet, tSeq, tCall, tCB, tC, tCons, tNil, tAsg, tDrop, sFld])
/-! ### the place of a text in a list -/
def idxS : List Str → Str → Nat
  | [], _ => 0
  | w :: ws, x => if w = x then 0 else idxS ws x + 1
theorem idx_ok : ∀ {ws : List Str} {x : Str}, x ∈ ws → ws[idxS ws x]? = some x ∧ ∀ (m : Nat) (z : Str), m < idxS ws x → ws[m]? = some z → z ≠ x
  | [], _, h => by simp at h
  | w :: ws, x, h => by
    by_cases hw : w = x
    · have e : idxS (w :: ws) x = 0 := if_pos hw
      rw [e]
      exact ⟨by simp [hw], fun m z hm => absurd hm (Nat.not_lt_zero _)⟩
    · have e : idxS (w :: ws) x = idxS ws x + 1 := if_neg hw
      have hm : x ∈ ws := (List.mem_cons.mp h).resolve_left (fun z => hw z.symm)
      obtain ⟨h1, h2⟩ := idx_ok hm
      rw [e]
      refine ⟨by simpa using h1, fun m z hlt hz => ?_⟩
      cases m with
      | zero =>
        simp at hz
        rw [← hz]; exact hw
      | succ m => exact h2 m z (by omega) (by simpa using hz)
theorem indexFK {X : Cx} {K : PySem.W.Frag} (hK : X.K = K := by rfl) : MtR X "list.index" (rIndex K) := by subst hK; exact mt_index
theorem pe_bmK {X : Cx} {K : PySem.W.Frag} {T id : String} {r : V → List V → Hp → VK → Prop} {o e : Expr} {es : List Expr} {to : TE} {t : TA} {name : Str} {apos cpos : Pos} (pa : PlainAttrs T) (slot : Slot T name id) (hty : typeOf (.builtin id) = pure (.type "method_descriptor")) (hm : MtR X id r) (ho : PE X o to) (ha : PA X (e :: es) t)
    (hK : X.K = K := by rfl) (hbase : attributeBase o name X.env (eval o X.env) = eval o X.env := by rfl)
    (hfew : ((backTo cpos (starEach (e :: es) X.env)).all (fun x => !x.1) && (backToKw cpos (keywordEach [] X.env)).all (fun x => x.1.isSome) &&
      decide ((e :: es).length + ([] : List Keyword).length + (if ([] : List Keyword).isEmpty then 0 else 1) < 30)) = true := by rfl)
    (hline : (apos.endLine == cpos.line) = true := by rfl) (hs : starEach (e :: es) X.env = (false, eval e X.env) :: starEach es X.env := by rfl) (hp : (backTo cpos (starEach es X.env)).any (·.1) = false := by rfl) :
    PE X (.Call (.Attribute o name apos) (e :: es) [] cpos) (tBM K T r to t) := by subst hK; exact pe_bm pa slot hty hm ho ha hbase hfew hline hs hp
theorem ev_index {K : PySem.W.Frag} {σ : L2.St} {H : Hp} {i : Nat} {te : TE} {a : Addr} {ws : List Str} {x : Str} (hi : σ[i]? = some (some (.ref a))) (ha : H a = some (.lst (ws.map V.str))) (hx : x ∈ ws) (he : Ev te σ H fun v _ => v = .str x) :
    Ev (tBM K "list" (rIndex K) (tVar i) (tCons te tNil)) σ H (fun v _ => v = .int (idxS ws x : Nat)) := fun Q q => by
  refine ⟨_, hi, .inl ⟨rfl, _, SqL.of ha⟩, he _ fun v H1 e1 ev => ?_⟩
  subst ev
  obtain ⟨h1, h2⟩ := idx_ok hx
  refine ⟨a, ws.map V.str, .str x, idxS ws x, .str x, rfl, rfl, SqL.of (e1 _ _ ha), rfl, by simp [List.all_map, flatV], by rw [List.getElem?_map, h1]; rfl, by simp [eqV], fun m z' hm hz => ?_, q _ _ e1 rfl⟩
  rw [List.getElem?_map] at hz
  cases hw : ws[m]? with
  | none => rw [hw] at hz; cases hz
  | some z =>
    rw [hw] at hz
    have ez : V.str z = z' := Option.some.inj hz
    subst ez
    have := h2 m z hm hw
    simp [eqV, this]
/-! ### queues -/
def QW : List Str := ["", "a", "b", "aa", "ab", "ba", "bb"]
def qwords (n : Nat) : List Str := QW.filter fun w => decide (w.length ≤ n)
def longS (n : Nat) (l w : Str) : Str := if w.length < n then w ++ l else w
def joinR (n : Nat) (l : Str) : Row := (qwords n).map fun w => ((idxS (qwords n) (longS n l w) : Nat), (0 : Int))
def leaveR (n : Nat) : Row := (qwords n).map fun w => ((idxS (qwords n) (cutS w (some 1) none) : Nat), (idxS (qwords n) (cutS w none (some 1)) : Nat))
def queueT (n : Nat) : Tab := [("joina", joinR n "a"), ("joinb", joinR n "b"), ("leave", leaveR n)]
theorem queue_ok : ∀ n, n < 3 → 1 ≤ n → okTab (queueT n) = true ∧ (namesT (queueT n)).Nodup := by decide +kernel
theorem q_long : ∀ n, n < 3 → 1 ≤ n → ∀ l ∈ (["a", "b"] : List Str), ∀ w ∈ qwords n, longS n l w ∈ qwords n := by decide +kernel
theorem q_cut : ∀ n, n < 3 → 1 ≤ n → ∀ w ∈ qwords n, cutS w (some 1) none ∈ qwords n ∧ cutS w none (some 1) ∈ qwords n ∧ w.length ≤ 2 := by decide +kernel
theorem q_short : ∀ w ∈ QW, w.length ≤ 2 := by decide +kernel
theorem q_len : ∀ n, n < 3 → (qwords n).length ≤ 7 := by decide +kernel
section
variable {P : Program} {w : World} {K : PySem.W.Frag} {mg : Str → Option Value} {base : Heap} {C : Addr}
abbrev s_join : Stmt := top 31
theorem sc_join_row : FnScope ["words", "many", "letter", "longer", "word"] ["words", "many", "letter"] (defScope s_join) := ⟨rfl, rfl, rfl, by decide +kernel, rfl, by decide +kernel, by decide +kernel⟩
def sp_join : Sp := fun vs H Q _ => ∃ (a : Addr) (n : Nat) (l : Str), vs = [.ref a, .int (n : Int), .str l] ∧ H a = some (.lst ((qwords n).map V.str)) ∧ 1 ≤ n ∧ n ≤ 2 ∧ l ∈ (["a", "b"] : List Str) ∧ ∀ v H', Same H H' → RowV H' v (joinR n l) → Q v H'
theorem ok_join (B : Bt mg) (D : Df K mg "_join_row" s_join ["words", "many", "letter"]) : Ok P w K mg base "_join_row" 1 ["words", "many", "letter"] sp_join := by
  refine D.ok sc_join_row (fun vs H Q E h => ?_) (fun f cdv A outer s H vs Q E hr h => ?_)
  · obtain ⟨a, n, l, rfl, _⟩ := h
    rfl
  · obtain ⟨a, n, l, rfl, ha, h1, h2, hl, q⟩ := h
    have hlong := q_long n (by omega) h1 l hl
    have hsh : ∀ w ∈ qwords n, w.length ≤ 2 := fun w hw => q_short w (List.mem_filter.mp hw).1
    have hl1 : l.length = 1 := by
      rcases List.mem_cons.mp hl with z | z
      · rw [z]; decide +kernel
      · rcases List.mem_cons.mp z with z | z
        · rw [z]; decide +kernel
        · simp at z
    have hql := q_len n (by omega)
    refine ⟨_, pss_cons (ps_setLc (i := 3) (own := [("word", 4)]) (g := gName 4) (tt := tYes) rfl sc_join_row.nd rfl rfl (sw_true rfl rfl rfl (by decide +kernel)) (pi_list (pv 0)) (blkOk_by (own := [("word", 4)]) (N := ["words", "many", "letter", "longer", "word"]) (sc := defScope s_join) (by decide +kernel)) (fun _ _ _ _ _ => pg_name (i := 4) sc_join_row.nd rfl (.inl rfl)) (fun _ _ _ _ _ => pts_nil) (fun _ _ _ _ _ => pe_ifExp (pt_cmpR op_lt (pe_callB call_len_str (by rfl) B.len (by decide +kernel) (pa_cons (pv 4) (pa_nil))) (pv 1) (nomark _)) (pe_op op_add_str (pv 4) (pv 2)) (pv 4)))
      (pss_one (ps_ret (pe_callTy (tupleK (K := K)) (by rfl) B.tuple (by decide +kernel) (pa_cons (pe_lc (own := [("word", 4)]) (g := gName 4) (tt := tYes) rfl sc_join_row.nd (pi_list (pv 3)) (blkOk_by (own := [("word", 4)]) (N := ["words", "many", "letter", "longer", "word"]) (sc := defScope s_join) (by decide +kernel)) (fun _ _ _ _ _ => pg_name (i := 4) sc_join_row.nd rfl (.inl rfl)) (fun _ _ _ _ _ => pts_nil) (fun _ _ _ _ _ => pe_tup (pa_cons (pe_bmK (K := K) PySem.F.plainAttrs_list PySem.F.slot_list_index PySem.F.type_list_index (indexFK (K := K)) (pv 0) (pa_cons (pv 4) (pa_nil))) (pa_cons (pe_int) (pa_nil))))) (pa_nil))))), ?_⟩
    dsimp only [tSeq, tAsg]
    refine lc_runL (K := K) (xs := (qwords n).map V.str) (ev_is rfl ⟨a, rfl, SqL.of ha⟩) (qwords n) (List.length_map ..) (fun _ => true) (fun w v _ => v = V.str (longS n l w)) (by omega) (by intro _; rfl) (fun _ _ _ _ _ h => h)
      (fun i w v H1 hi hx e => ⟨evt_yes, fun _ H3 e3 Q q => ?_⟩) (fun p H1 ys hp e hls hP => ?_)
    · rw [List.getElem?_map, hi] at hx
      have ex : V.str w = v := Option.some.inj hx
      subst ex
      have hw2 := hsh w (List.mem_of_getElem? hi)
      refine ⟨_, rfl, w, rfl, sz_le (by omega), _, rfl, _, _, rfl, rfl, _, rfl, ?_⟩
      by_cases hc : w.length < n
      · refine ifT (decide_eq_true (by omega)) ?_
        refine ⟨_, rfl, _, rfl, _, _, rfl, rfl, sz_le (by omega), q _ _ (Same.refl _) ?_⟩
        rw [longS, if_pos hc]
      · refine ifF (decide_eq_false (by omega)) ?_
        refine ⟨_, rfl, q _ _ (Same.refl _) ?_⟩
        rw [longS, if_neg hc]
    · rw [filter_all] at hP
      have ey : ys = ((qwords n).map (longS n l)).map V.str := by
        clear hls
        generalize qwords n = ws at hP
        induction hP with
        | nil => rfl
        | cons r t ih => rw [r, ih]; rfl
      rw [ey] at hls
      dsimp only [gName]
      walk_at "x"

      refine lc_runL (K := K) (xs := ((qwords n).map (longS n l)).map V.str) (ev_is rfl ⟨p, rfl, SqL.of hls⟩) (qwords n) (by simp) (fun _ => true) (fun w v H => PairV H v ((idxS (qwords n) (longS n l w) : Nat), (0 : Int))) (by omega) (by intro _; rfl) (fun _ _ _ _ e h => h.mono e)
        (fun i w v H2 hi hx e2 => ⟨evt_yes, fun _ H3 e3 => ?_⟩) (fun p2 H2 ys2 hp2 e2 hl2 hP2 => ?_)
      · rw [List.getElem?_map, List.getElem?_map, hi] at hx
        have ex : V.str (longS n l w) = v := Option.some.inj hx
        subst ex
        refine ev_pair ?_ fun _ _ => ev_c rfl
        exact ev_index (ws := qwords n) rfl ((e.trans (e2.trans e3)) _ _ ha) (hlong w (List.mem_of_getElem? hi)) (ev_is rfl rfl)
      · rw [filter_all] at hP2
        refine ⟨p2, ys2, rfl, .inl ⟨SqL.of hl2, fun l3 hl3 => q _ _ (e.trans (e2.trans (same_new hl3))) ⟨l3, ys2, rfl, upd_same, ?_⟩⟩⟩
        exact paired_mapR _ (Paired.mapP hP2 fun _ _ r => r.mono (tups_of (same_new hl3)))
end
end Tm

namespace Tm
open PySem PySem.Spec PyProof.Rows L2
local macro_rules | `(tactic| walk_at "x") => `(tactic| dsimp only [tNext, tRet, tSeq, tCall, tCB, tC, tCons, tNil, tAsg, tDrop, sFld])
/-- a constant tuple of texts of the top -/
structure GT (K : PySem.W.Frag) (mg : Str → Option Value) (x : Str) (ws : List Str) : Prop where
  ex : ∃ a, mg x = some (.ref a) ∧ ∀ H, SqT K H a (ws.map V.str)
theorem merge1 (k : L2.Key) (v : V) : mergeK [] [(k, v)] = [(k, v)] := rfl
section
variable {P : Program} {w : World} {K : PySem.W.Frag} {mg : Str → Option Value} {base : Heap} {C : Addr}
abbrev s_faded : Stmt := top 29
theorem sc_faded : FnScope ["state", "many", "forgotten"] ["state", "many"] (defScope s_faded) := ⟨rfl, rfl, rfl, by decide +kernel, rfl, by decide +kernel, by decide +kernel⟩
def sp_faded : Sp := fun vs H Q _ => ∃ s n : Int, vs = [.int s, .int n] ∧ Q (.int (fadeS s n)) H
theorem ok_faded (B : Bt mg) (D : Df K mg "_faded" s_faded ["state", "many"]) : Ok P w K mg base "_faded" 1 ["state", "many"] sp_faded := by
  refine D.ok sc_faded (fun vs H Q E h => ?_) (fun f cdv A outer s H vs Q E hr h => ?_)
  · obtain ⟨s, n, rfl, _⟩ := h
    rfl
  · obtain ⟨s, n, rfl, q⟩ := h
    refine ⟨_, pss_cons (ps_set (i := 2) sc_faded.nd rfl (.inl rfl) (pe_op op_add (pe_op op_mul (pe_int) (pv 1)) (pe_int)))
      (pss_cons (ps_if (pt_cmpR op_eq (pv 0) (pv 1) (nomark _))
        (pss_one (ps_ret (pv 2)))
        (pss_nil))
      (pss_one (ps_ret (pe_callB (call_min2 rfl) (by rfl) B.min (by decide +kernel) (pa_cons (pe_op op_add (pv 0) (pe_int)) (pa_cons (pv 2) (pa_nil))))))), ?_⟩
    refine ⟨_, rfl, _, _, rfl, rfl, .inl ⟨by decide, by decide⟩, _, _, rfl, rfl, ?_⟩
    refine ⟨_, rfl, _, rfl, rfl, _, rfl, ?_⟩
    by_cases hc : s = n
    · refine ifT (by simp [hc]) ?_
      refine ⟨_, rfl, ?_⟩
      have e : fadeS s n = 2 * n + 1 := if_pos hc
      rw [e] at q
      exact q
    · refine ifF (by simp [hc]) ?_
      refine ⟨_, rfl, _, _, rfl, rfl, _, rfl, _, _, rfl, ?_⟩
      have e : fadeS s n = if 2 * n + 1 < s + 1 then 2 * n + 1 else s + 1 := if_neg hc
      rw [e] at q
      exact q
abbrev s_fading : Stmt := top 28
theorem sc_fading_kind : FnScope ["many", "later", "state"] ["many"] (defScope s_fading) := ⟨rfl, rfl, rfl, by decide +kernel, rfl, by decide +kernel, by decide +kernel⟩
theorem ok_fading (B : Bt mg) (O_need_number : NeedNum P w K mg base) (O_faded : Ok P w K mg base "_faded" 1 ["state", "many"] sp_faded) (O_lettered : Lett P w K mg base C) (D : Df K mg "fading_kind" s_fading ["many"]) : Ok P w K mg base "fading_kind" 8 ["many"] (sp_made C 1 5 fadeT) := by
  refine D.ok sc_fading_kind (fun vs H Q E h => ?_) (fun f cdv A outer s H vs Q E hr h => ?_)
  · obtain ⟨n, rfl, _⟩ := h
    rfl
  · obtain ⟨n, rfl, h2, h6, q⟩ := h
    have hT := fade_ok n (by omega) h2
    refine ⟨_, pss_cons (ps_expr (O_need_number.call hr (ha := pa_cons (pv 0) (pa_cons (pe_int) (pa_cons (pe_int) (pa_nil))))))
      (pss_cons (ps_set (i := 1) sc_fading_kind.nd rfl (.inl rfl) (pe_callTy (tupleK (K := K)) (by rfl) B.tuple (by decide +kernel) (pa_cons (pe_lc (own := [("state", 2)]) (g := gName 2) (tt := tYes) rfl sc_fading_kind.nd (pi_range2 (by rfl) B.range (pa_cons (pe_int) (pa_cons (pe_op op_add (pe_op op_mul (pe_int) (pv 0)) (pe_int)) (pa_nil)))) (blkOk_by (own := [("state", 2)]) (N := ["many", "later", "state"]) (sc := defScope s_fading) (by decide +kernel)) (fun _ _ _ _ _ => pg_name (i := 2) sc_fading_kind.nd rfl (.inl rfl)) (fun _ _ _ _ _ => pts_nil) (fun _ _ _ _ _ => pe_tup (pa_cons (O_faded.call hr (ha := pa_cons (pv 2) (pa_cons (pv 0) (pa_nil)))) (pa_cons (pe_int) (pa_nil))))) (pa_nil))))
      (pss_one (ps_ret (O_lettered.call hr (ha := pa_cons (pe_str) (pa_cons (pe_lst (pa_cons (pe_tup (pa_cons (pe_tup (pa_cons (pe_int) (pa_cons (pe_int) (pa_nil)))) (pa_starK (K := K) (pv 1) (pa_nil)))) (pa_cons (pe_tup (pa_cons (pe_tup (pa_cons (pe_op op_add (pv 0) (pe_int)) (pa_cons (pe_int) (pa_nil)))) (pa_starK (K := K) (pv 1) (pa_nil)))) (pa_nil)))) (pa_nil))))))), ?_⟩
    refine ⟨_, rfl, n, 1, 5, rfl, by omega, by omega, ?_⟩
    dsimp only
    refine asg_row (f := fun i : Nat => (fadeS (1 + (i : Int)) n, (0 : Int))) (zs := List.range (2 * n + 1)) ?_ fun v H1 e1 hv => ?_
    · exact ev_lcR2 (n := 2 * n + 1) (lo := 1) (m := 2 * (n : Int) + 2) (fun Q q => ⟨_, rfl, _, _, rfl, rfl, .inl ⟨by decide, by decide⟩, _, _, rfl, rfl, q _ _ (Same.refl _) rfl⟩) (by omega) (by omega) (by omega) _ (by intro _; rfl) (fun z v H H' e h => h.mono e)
        (fun s H2 hs e2 => ev_pair (fun Q q => ⟨_, rfl, _, rfl, _, _, rfl, q _ _ (Same.refl _) rfl⟩) fun _ _ => ev_c rfl)
    obtain ⟨a, xs, rfl, ha, hx⟩ := hv
    have hlen := Paired.length hx
    rw [List.length_map, List.length_range] at hlen
    refine ⟨by show 2 ≤ sizeLine; decide, fun p1 hp1 => ?_⟩
    refine ⟨_, rfl, a, xs, rfl, .inl (SqT.of ((same_new hp1) _ _ ha)), by show (V.ref p1 :: (xs ++ [])).length ≤ sizeLine; exact sz_le (by simp; omega), fun p2 hp2 => ?_⟩
    rw [List.append_nil]
    have e2 : Same H1 (upd (upd H1 p1 (.tup [.int 1, .int 0])) p2 (.tup (.ref p1 :: xs))) := (same_new hp1).trans (same_new hp2)
    have r1 : RowV (upd (upd H1 p1 (.tup [.int 1, .int 0])) p2 (.tup (.ref p1 :: xs))) (.ref p2) ((1, 0) :: laterR n) := by
      refine ⟨p2, _, rfl, upd_same, .cons ⟨p1, rfl, ?_⟩ (Paired.mapP hx fun _ _ r => r.mono (tups_of e2))⟩
      rw [upd_ne (fun z => by rw [z, upd_same] at hp2; cases hp2), upd_same]
    generalize upd (upd H1 p1 (.tup [.int 1, .int 0])) p2 (.tup (.ref p1 :: xs)) = H2 at e2 r1
    refine ⟨_, rfl, _, _, rfl, rfl, by show 2 ≤ sizeLine; decide, fun p3 hp3 => ?_⟩
    refine ⟨_, rfl, a, xs, rfl, .inl (SqT.of ((same_new hp3) _ _ (e2 _ _ ha))), by show (V.ref p3 :: (xs ++ [])).length ≤ sizeLine; exact sz_le (by simp; omega), fun p4 hp4 => ?_⟩
    rw [List.append_nil]
    have e3 : Same H2 (upd (upd H2 p3 (.tup [.int ((n : Int) + 1), .int 0])) p4 (.tup (.ref p3 :: xs))) := (same_new hp3).trans (same_new hp4)
    have r2 : RowV (upd (upd H2 p3 (.tup [.int ((n : Int) + 1), .int 0])) p4 (.tup (.ref p3 :: xs))) (.ref p4) (((n : Int) + 1, 0) :: laterR n) := by
      refine ⟨p4, _, rfl, upd_same, .cons ⟨p3, rfl, ?_⟩ (Paired.mapP hx fun _ _ r => r.mono (tups_of (e2.trans e3)))⟩
      rw [upd_ne (fun z => by rw [z, upd_same] at hp4; cases hp4), upd_same]
    generalize upd (upd H2 p3 (.tup [.int ((n : Int) + 1), .int 0])) p4 (.tup (.ref p3 :: xs)) = H3 at e3 r2
    refine ⟨by show 2 ≤ sizeLine; decide, fun l hl => ?_⟩
    refine ⟨"set", l, _, [(1, 0) :: laterR n, ((n : Int) + 1, 0) :: laterR n], rfl, upd_same, .cons ((r1.mono (tups_of e3)).mono (tups_of (same_new hl))) (.cons (r2.mono (tups_of (same_new hl))) .nil), by decide, hT.1, hT.2, fun v H' t' e' hk pm => q v H' t' ((e1.trans (e2.trans (e3.trans (same_new hl)))).trans e') hk pm⟩
/-! ### flags, adders -/
abbrev s_adder : Stmt := top 25
theorem sc_adder_kind : FnScope ["many", "state"] ["many"] (defScope s_adder) := ⟨rfl, rfl, rfl, by decide +kernel, rfl, by decide +kernel, by decide +kernel⟩
theorem ok_adder (B : Bt mg) (O_need_number : NeedNum P w K mg base) (OC_Kind : OkC P w K mg base "Kind" C 5 ["self", "operations"] (sp_init C)) (D : Df K mg "adder_kind" s_adder ["many"]) : Ok P w K mg base "adder_kind" 8 ["many"] (sp_made C 2 12 adderT) := by
  refine D.ok sc_adder_kind (fun vs H Q E h => ?_) (fun f cdv A outer s H vs Q E hr h => ?_)
  · obtain ⟨n, rfl, _⟩ := h
    rfl
  · obtain ⟨n, rfl, h2, h6, q⟩ := h
    have hT := adder_ok n (by omega) h2
    refine ⟨_, pss_cons (ps_expr (O_need_number.call hr (ha := pa_cons (pv 0) (pa_cons (pe_int) (pa_cons (pe_int) (pa_nil))))))
      (pss_one (ps_ret (OC_Kind.make hr (ha := pa_cons (pe_disp (pps_cons (pe_str) (pe_callTy (tupleK (K := K)) (by rfl) B.tuple (by decide +kernel) (pa_cons (pe_lc (own := [("state", 1)]) (g := gName 1) (tt := tYes) rfl sc_adder_kind.nd (pi_range1 (by rfl) B.range (pa_cons (pv 0) (pa_nil))) (blkOk_by (own := [("state", 1)]) (N := ["many", "state"]) (sc := defScope s_adder) (by decide +kernel)) (fun _ _ _ _ _ => pg_name (i := 1) sc_adder_kind.nd rfl (.inl rfl)) (fun _ _ _ _ _ => pts_nil) (fun _ _ _ _ _ => pe_tup (pa_cons (pe_op op_mod (pe_op op_add (pv 1) (pe_int)) (pv 0)) (pa_cons (pv 1) (pa_nil))))) (pa_nil))) (pps_nil)) (by rfl) (by rfl) (fun z => by cases z) (by decide)) (pa_nil))))), ?_⟩
    refine ⟨_, rfl, n, 2, 12, rfl, by omega, by omega, ?_⟩
    intro d hd
    dsimp only [tPairs, tC, tCB, tCons, tNil]
    refine lcR_go (n := n) (fun Q q => ⟨_, rfl, q _ _ (Same.refl _) rfl⟩) (by omega) (fun i v H => PairV H v (((i : Int) + 1) % (n : Int), (i : Int))) (by intro _; rfl) (fun z v H H' e h => h.mono e) (fun i H1 hi e => ?_) fun p H1 ys e hl hP => ?_
    · exact ev_pair (fun Q q => ⟨_, rfl, _, _, rfl, rfl, _, rfl, _, _, rfl, rfl, by omega, q _ _ (Same.refl _) rfl⟩) fun _ _ => ev_is rfl rfl
    · refine ⟨p, ys, rfl, .inl ⟨SqL.of hl, fun l hl2 => ?_⟩⟩
      have e2 : Same (upd H d (.dK [])) (upd H1 l (.tup ys)) := e.trans (same_new hl2)
      have row : RowV (upd H1 l (.tup ys)) (.ref l) ((List.range n).map fun s : Nat => (((s : Int) + 1) % (n : Int), (s : Int))) :=
        ⟨l, ys, rfl, upd_same, paired_mapR _ (Paired.mapP hP fun _ _ r => r.mono (tups_of (same_new hl2)))⟩
      generalize upd H1 l (.tup ys) = H2 at e2 row
      have hd1 : H2 d = some (.dK []) := e2 _ _ upd_same
      have eH : Same H (upd H2 d (.dK [(Sum.inr "add", .ref l)])) := same_mut ((same_new hd).trans e2) hd
      refine ⟨hd1, [(Sum.inr "add", .ref l)], rfl, by show 1 ≤ 15; decide, ?_⟩
      rw [merge1]
      exact mk_kind (t := adderT n) upd_same (.cons ⟨rfl, row.mono (tups_upd hd1 (fun xs z => by cases z))⟩ .nil) hT.1 hT.2 fun v H' t' e' hk pm => q v H' t' (eH.trans e') hk pm
end
end Tm

namespace Tm
open PySem PySem.Spec PyProof.Rows L2
local macro_rules | `(tactic| walk_at "x") => `(tactic| dsimp only [tNext, tRet, tSeq, tCall, tCB, tC, tCons, tNil, tAsg, tDrop, sFld])
theorem strs_eq : ∀ {ys : List V} {ws : List Str}, Paired (fun v z => v = V.str z) ys ws → ys = ws.map V.str
  | _, _, .nil => rfl
  | _, _, .cons r t => by rw [r, strs_eq t]; rfl
section
variable {P : Program} {w : World} {K : PySem.W.Frag} {mg : Str → Option Value} {base : Heap} {C : Addr}
abbrev s_queue : Stmt := top 30
theorem sc_queue_kind : FnScope ["many", "words", "leave", "word"] ["many"] (defScope s_queue) := ⟨rfl, rfl, rfl, by decide +kernel, rfl, by decide +kernel, by decide +kernel⟩
theorem ok_queue (B : Bt mg) (G : GT K mg "QUEUE_WORDS" QW) (O_need_number : NeedNum P w K mg base) (O_join_row : Ok P w K mg base "_join_row" 1 ["words", "many", "letter"] sp_join) (OC_Kind : OkC P w K mg base "Kind" C 5 ["self", "operations"] (sp_init C)) (D : Df K mg "queue_kind" s_queue ["many"]) : Ok P w K mg base "queue_kind" 8 ["many"] (sp_made C 1 2 queueT) := by
  obtain ⟨aq, hmq, hq⟩ := G.ex
  refine D.ok sc_queue_kind (fun vs H Q E h => ?_) (fun f cdv A outer s H vs Q E hr h => ?_)
  · obtain ⟨n, rfl, _⟩ := h
    rfl
  · obtain ⟨n, rfl, h1, h2, q⟩ := h
    have hT := queue_ok n (by omega) h1
    have hcut := q_cut n (by omega) h1
    have hql := q_len n (by omega)
    refine ⟨_, pss_cons (ps_expr (O_need_number.call hr (ha := pa_cons (pv 0) (pa_cons (pe_int) (pa_cons (pe_int) (pa_nil))))))
      (pss_cons (ps_set (i := 1) sc_queue_kind.nd rfl (.inr rfl) (pe_lc (own := [("word", 3)]) (g := gName 3) (tt := _) rfl sc_queue_kind.nd (pi_tup (pe_glob (v := .ref aq) (by rfl) hmq rfl)) (blkOk_by (own := [("word", 3)]) (N := ["many", "words", "leave", "word"]) (sc := defScope s_queue) (by decide +kernel)) (fun _ _ _ _ _ => pg_name (i := 3) sc_queue_kind.nd rfl (.inl rfl)) (fun _ _ _ _ _ => pts_one (pt_cmpR op_le (pe_callB call_len_str (by rfl) B.len (by decide +kernel) (pa_cons (pv 3) (pa_nil))) (pv 0) (nomark _))) (fun _ _ _ _ _ => pv 3)))
      (pss_cons (ps_set (i := 2) sc_queue_kind.nd rfl (.inl rfl) (pe_callTy (tupleK (K := K)) (by rfl) B.tuple (by decide +kernel) (pa_cons (pe_lc (own := [("word", 3)]) (g := gName 3) (tt := tYes) rfl sc_queue_kind.nd (pi_list (pv 1)) (blkOk_by (own := [("word", 3)]) (N := ["many", "words", "leave", "word"]) (sc := defScope s_queue) (by decide +kernel)) (fun _ _ _ _ _ => pg_name (i := 3) sc_queue_kind.nd rfl (.inl rfl)) (fun _ _ _ _ _ => pts_nil) (fun _ _ _ _ _ => pe_tup (pa_cons (pe_bmK (K := K) PySem.F.plainAttrs_list PySem.F.slot_list_index PySem.F.type_list_index (indexFK (K := K)) (pv 1) (pa_cons (pe_slice sl_str (pv 3) (po_some (pe_int)) (po_none)) (pa_nil))) (pa_cons (pe_bmK (K := K) PySem.F.plainAttrs_list PySem.F.slot_list_index PySem.F.type_list_index (indexFK (K := K)) (pv 1) (pa_cons (pe_slice sl_str (pv 3) (po_none) (po_some (pe_int))) (pa_nil))) (pa_nil))))) (pa_nil))))
      (pss_one (ps_ret (OC_Kind.make hr (ha := pa_cons (pe_disp (pps_cons (pe_str) (O_join_row.call hr (ha := pa_cons (pv 1) (pa_cons (pv 0) (pa_cons (pe_str) (pa_nil))))) (pps_cons (pe_str) (O_join_row.call hr (ha := pa_cons (pv 1) (pa_cons (pv 0) (pa_cons (pe_str) (pa_nil))))) (pps_cons (pe_str) (pv 2) (pps_nil)))) (by rfl) (by rfl) (fun z => by cases z) (by decide)) (pa_nil))))))), ?_⟩
    refine ⟨_, rfl, n, 1, 2, rfl, by omega, by omega, ?_⟩
    dsimp only [tSeq, tAsg]
    refine lc_runT (K := K) (xs := QW.map V.str) (ev_c ⟨aq, rfl, hq _⟩) QW (List.length_map ..) (fun w => decide (w.length ≤ n)) (fun w v _ => v = V.str w) (by decide) (by intro _; rfl) (fun _ _ _ _ _ h => h)
      (fun i w v H1 hi hx e => ?_) (fun p H1 ys hp e hls hP => ?_)
    · rw [List.getElem?_map, hi] at hx
      have ex : V.str w = v := Option.some.inj hx
      subst ex
      have hw2 := q_short w (List.mem_of_getElem? hi)
      refine ⟨fun Q q => ?_, fun _ H3 e3 => ev_is rfl rfl⟩
      refine ⟨_, rfl, w, rfl, sz_le (by omega), _, rfl, _, _, rfl, rfl, _, rfl, ?_⟩
      have ed : decide ((w.length : Int) ≤ (n : Int)) = decide (w.length ≤ n) := decide_eq_decide.mpr (by omega)
      have q2 := q H1 (Same.refl _)
      rw [← ed] at q2
      exact q2
    · have ey := strs_eq hP
      have hls : H1 p = some (.lst ((qwords n).map V.str)) := by rw [hls, ey]; rfl
      dsimp only [gName]
      refine asg_row (f := fun w : Str => (((idxS (qwords n) (cutS w (some 1) none) : Nat) : Int), ((idxS (qwords n) (cutS w none (some 1)) : Nat) : Int))) (zs := qwords n) ?_ fun v H2 e2 hv => ?_
      · intro Q q
        refine lc_runL (K := K) (xs := (qwords n).map V.str) (ev_is rfl ⟨p, rfl, SqL.of hls⟩) (qwords n) (List.length_map ..) (fun _ => true) (fun w v H => PairV H v (((idxS (qwords n) (cutS w (some 1) none) : Nat) : Int), ((idxS (qwords n) (cutS w none (some 1)) : Nat) : Int))) (by omega) (by intro _; rfl) (fun _ _ _ _ e h => h.mono e)
          (fun i w v H2 hi hx e2 => ⟨evt_yes, fun _ H3 e3 => ?_⟩) (fun p2 H2 ys2 hp2 e2 hl2 hP2 => ?_)
        · rw [List.getElem?_map, hi] at hx
          have ex : V.str w = v := Option.some.inj hx
          subst ex
          obtain ⟨c1, c2, c3⟩ := hcut w (List.mem_of_getElem? hi)
          refine ev_pair ?_ fun H4 e4 => ?_
          · exact ev_index (ws := qwords n) rfl ((e2.trans e3) _ _ hls) c1 (fun Q q => ⟨_, rfl, _, rfl, w, rfl, sz_le (by omega), q _ _ (Same.refl _) rfl⟩)
          · exact ev_index (ws := qwords n) rfl ((e2.trans (e3.trans e4)) _ _ hls) c2 (fun Q q => ⟨_, rfl, _, rfl, w, rfl, sz_le (by omega), q _ _ (Same.refl _) rfl⟩)
        · rw [filter_all] at hP2
          exact q _ _ e2 ⟨p2, ys2, rfl, hl2, hP2⟩
      · have hrow : RowV H2 v (leaveR n) := hv
        intro d hd
        have hp2 : H2 p = some (.lst ((qwords n).map V.str)) := e2 _ _ hls
        refine ⟨_, rfl, _, rfl, p, n, "a", rfl, (same_new hd) _ _ hp2, h1, h2, by decide +kernel, fun u1 H3 e3 r1 => ?_⟩
        refine ⟨_, rfl, _, rfl, p, n, "b", rfl, e3 _ _ ((same_new hd) _ _ hp2), h1, h2, by decide +kernel, fun u2 H4 e4 r2 => ?_⟩
        have e24 : Same H2 H4 := (same_new hd).trans (e3.trans e4)
        have hd4 : H4 d = some (.dK []) := e4 _ _ (e3 _ _ upd_same)
        refine ⟨_, rfl, hd4, [(Sum.inr "joina", u1), (Sum.inr "joinb", u2), (Sum.inr "leave", v)], rfl, by show 3 ≤ 15; decide, ?_⟩
        have hm : mergeK [] [((Sum.inr ("joina" : Str) : L2.Key), u1), (Sum.inr ("joinb" : Str), u2), (Sum.inr ("leave" : Str), v)] = [(Sum.inr ("joina" : Str), u1), (Sum.inr ("joinb" : Str), u2), (Sum.inr ("leave" : Str), v)] := by
          have n1 : ¬ ((Sum.inr ("joina" : Str) : L2.Key) = Sum.inr ("joinb" : Str)) := by decide +kernel
          have n2 : ¬ ((Sum.inr ("joina" : Str) : L2.Key) = Sum.inr ("leave" : Str)) := by decide +kernel
          have n3 : ¬ ((Sum.inr ("joinb" : Str) : L2.Key) = Sum.inr ("leave" : Str)) := by decide +kernel
          simp [mergeK, putK, n1, n2, n3]
        rw [hm]
        have eH : Same H (upd H4 d (.dK [(Sum.inr ("joina" : Str), u1), (Sum.inr ("joinb" : Str), u2), (Sum.inr ("leave" : Str), v)])) := same_mut (e.trans (e2.trans e24)) (e.free (e2.free hd))
        have tu : TupS H4 (upd H4 d (.dK [(Sum.inr ("joina" : Str), u1), (Sum.inr ("joinb" : Str), u2), (Sum.inr ("leave" : Str), v)])) := tups_upd hd4 (fun xs z => by cases z)
        exact mk_kind (t := queueT n) upd_same (.cons ⟨rfl, r1.mono ((tups_of e4).trans tu)⟩ (.cons ⟨rfl, r2.mono tu⟩ (.cons ⟨rfl, hrow.mono ((tups_of e24).trans tu)⟩ .nil))) hT.1 hT.2
          fun v H' t' e' hk pm => q v H' t' (eH.trans e') hk pm
end
end Tm

namespace Tm
open PySem PySem.Spec PyProof.Rows L2
local macro_rules | `(tactic| walk_at "x") => `(tactic| dsimp only [tNext, tRet, tSeq, tCall, tCB, tC, tCons, tNil, tAsg, tDrop, sFld])
/-! ### the vat of drawn numbers: a list of three whole numbers -/
def VatV (H : Hp) (l : Addr) : Prop := ∃ a b c : Int, H l = some (.lst [.int a, .int b, .int c])
/-- all but l stays, l is a vat again -/
def KL (l : Addr) (H H' : Hp) : Prop := (∀ b o, H b = some o → b ≠ l → H' b = some o) ∧ VatV H' l
theorem KL.trans {l : Addr} {H H1 H2 : Hp} (a : KL l H H1) (b : KL l H1 H2) : KL l H H2 := ⟨fun c o h n => b.1 c o (a.1 c o h n) n, b.2⟩
theorem KL.of {l : Addr} {H H' : Hp} (v : VatV H l) (e : Same H H') : KL l H H' := ⟨fun b o h _ => e b o h, by obtain ⟨a, b, c, h⟩ := v; exact ⟨a, b, c, e _ _ h⟩⟩
theorem KL.set {l : Addr} {H : Hp} (a b c : Int) : KL l H (upd H l (.lst [.int a, .int b, .int c])) := ⟨fun d o h n => by rw [upd_ne n]; exact h, a, b, c, upd_same⟩
theorem KL.tups {l : Addr} {H H' : Hp} (v : VatV H l) (k : KL l H H') : TupS H H' := fun a xs h => k.1 a _ h fun z => by
  obtain ⟨p, q, r, e⟩ := v
  rw [z, e] at h
  cases h
theorem opP {X : Cx} : OpR X (binaryOp .Pow) (rI (fun i j => 0 ≤ j ∧ (Builtin.Int.intBits i : Int) * j ≤ 2 ^ 27) fun i j => .int (i ^ j.toNat)) := opI fun _ _ _ _ _ _ _ hc q => pow_int hc.1 hc.2 q
section
variable {P : Program} {w : World} {K : PySem.W.Frag} {mg : Str → Option Value} {base : Heap} {C : Addr}
abbrev s_vat : Stmt := top 34
theorem sc_law_vat : FnScope ["_law_script", "_law_at", "_law_cell", "_law_great", "_law_seed"] ["_law_script", "_law_at"] (defScope s_vat) := ⟨rfl, rfl, rfl, by decide +kernel, rfl, by decide +kernel, by decide +kernel⟩
def sp_vat (K : PySem.W.Frag) : Sp := fun vs H Q _ => ∃ (a : Addr) (xs : List Int) (i : Nat), vs = [.ref a, .int (i : Int)] ∧ SqL K H a (xs.map V.int) ∧ i ≤ 1000 ∧ ∀ l p q r, H l = none → Q (.ref l) (upd H l (.lst [.int p, .int q, .int r]))
theorem ok_vat (B : Bt mg) (D : Df K mg "_law_vat" s_vat ["_law_script", "_law_at"]) : Ok P w K mg base "_law_vat" 1 ["_law_script", "_law_at"] (sp_vat K) := by
  refine D.ok sc_law_vat (fun vs H Q E h => ?_) (fun f cdv A outer s H vs Q E hr h => ?_)
  · obtain ⟨a, xs, i, rfl, _⟩ := h
    rfl
  · obtain ⟨a, xs, i, rfl, hs, hi, q⟩ := h
    refine ⟨_, pss_cons (ps_set (i := 2) sc_law_vat.nd rfl (.inl rfl) (pe_ifExp (pt_cmpR op_lt (pv 1) (pe_callB (lenK (K := K)) (by rfl) B.len (by decide +kernel) (pa_cons (pv 0) (pa_nil))) (nomark _)) (pe_ix (ixLK (K := K)) (pv 0) (pv 1) (fun _ _ => rfl)) (pe_op op_add (pe_op op_mul (pe_int) (pv 1)) (pe_int))))
      (pss_cons (ps_set (i := 3) sc_law_vat.nd rfl (.inl rfl) (pe_op op_mod (pe_callTy call_int1 (by rfl) B.int (by decide +kernel) (pa_cons (pe_callB call_abs (by rfl) B.abs (by decide +kernel) (pa_cons (pv 2) (pa_nil))) (pa_nil))) (pe_op opP (pe_op opP (pe_int) (pe_int)) (pe_int))))
      (pss_cons (ps_set (i := 4) sc_law_vat.nd rfl (.inl rfl) (pe_op op_mod (pe_callTy call_int1 (by rfl) B.int (by decide +kernel) (pa_cons (pe_op op_add (pe_op op_add (pe_op op_add (pv 3) (pe_op op_mul (pe_int) (pv 1))) (pe_op op_mul (pe_int) (pe_callTy call_int1 (by rfl) B.int (by decide +kernel) (pa_cons (pe_cmpR op_lt (pv 2) (pe_int) (nomark _)) (pa_nil))))) (pe_int)) (pa_nil))) (pe_op op_add (pe_op opP (pe_int) (pe_int)) (pe_int))))
      (pss_one (ps_ret (pe_lst (pa_cons (pe_ifExp (pt_cmpR op_gt (pv 3) (pe_op opP (pe_int) (pe_int)) (nomark _)) (pe_op op_sub (pv 3) (pe_op opP (pe_int) (pe_int))) (pe_int)) (pa_cons (pv 4) (pa_cons (pe_int) (pa_nil))))))))), ?_⟩
    refine Ev.go (te := tIf _ _ _) (P := fun v H1 => ∃ c : Int, v = .int c ∧ H1 = H) (fun Q q => ?_) fun v H1 _ hv => ?_
    · refine ⟨_, rfl, _, rfl, a, _, rfl, .inl hs, _, _, rfl, rfl, _, rfl, ite2 (fun h1 => ?_) (fun h1 => ?_)⟩
      · have h2 : (i : Int) < ((xs.map V.int).length : Int) := of_decide_eq_true h1
        rw [List.length_map] at h2
        have hlt : i < xs.length := by omega
        refine ⟨_, rfl, _, rfl, a, _, _, .int xs[i], rfl, rfl, hs, atI_nat (by rw [List.getElem?_map, List.getElem?_eq_getElem hlt]; rfl), q _ H (Same.refl H) ⟨_, rfl, rfl⟩⟩
      · exact ⟨_, rfl, _, _, rfl, rfl, .inl ⟨by decide, by decide⟩, _, _, rfl, rfl, q _ H (Same.refl H) ⟨_, rfl, rfl⟩⟩
    · obtain ⟨c, rfl, rfl⟩ := hv
      have big : (0 : Int) < (10 ^ (60 : Int).toNat) ^ (8 : Int).toNat := Int.pow_pos (Int.pow_pos (by decide))
      have big2 : (0 : Int) < 10 ^ (18 : Int).toNat + 9 := by decide
      refine ⟨_, rfl, c, rfl, .inl ⟨_, rfl, ?_⟩⟩
      refine ⟨_, _, rfl, rfl, by decide +kernel, _, _, rfl, rfl, by decide +kernel, _, _, rfl, rfl, big, ?_⟩
      generalize (if c < 0 then -c else c) % ((10 : Int) ^ (60 : Int).toNat) ^ (8 : Int).toNat = g
      refine ⟨_, rfl, _, rfl, _, _, rfl, rfl, .inl ⟨by decide, by decide⟩, _, _, rfl, rfl, _, rfl, _, _, rfl, rfl, ?_⟩
      refine .inr ⟨_, rfl, _, _, rfl, rfl, .inl ⟨by decide, by decide⟩, _, _, rfl, rfl, _, _, rfl, rfl, .inl ⟨_, rfl, ?_⟩⟩
      refine ⟨_, _, rfl, rfl, by decide +kernel, _, _, rfl, rfl, _, _, rfl, rfl, big2, ?_⟩
      refine ⟨_, rfl, _, _, rfl, rfl, by decide +kernel, _, _, rfl, rfl, _, rfl, ite2 (fun _ => ?_) (fun _ => ?_)⟩
      · exact ⟨_, rfl, _, _, rfl, rfl, by decide +kernel, _, _, rfl, rfl, _, rfl, by show 3 ≤ sizeLine; decide, fun l hl => q l _ _ _ hl⟩
      · exact ⟨_, rfl, by show 3 ≤ sizeLine; decide, fun l hl => q l _ _ _ hl⟩
abbrev s_draw : Stmt := top 35
theorem sc_law_draw : FnScope ["_law_vat_here", "_law_total", "_law_one", "_law_two", "_law_three", "_law_found"] ["_law_vat_here", "_law_total"] (defScope s_draw) := ⟨rfl, rfl, rfl, by decide +kernel, rfl, by decide +kernel, by decide +kernel⟩
def sp_draw : Sp := fun vs H Q _ => ∃ (l : Addr) (t : Int), vs = [.ref l, .int t] ∧ VatV H l ∧ 0 < t ∧ t < 1073741824 ∧ ∀ (d : Int) H', 0 ≤ d → d < t → KL l H H' → Q (.int d) H'
theorem ok_draw (B : Bt mg) (D : Df K mg "_law_draw" s_draw ["_law_vat_here", "_law_total"]) : Ok P w K mg base "_law_draw" 1 ["_law_vat_here", "_law_total"] sp_draw := by
  refine D.ok sc_law_draw (fun vs H Q E h => ?_) (fun f cdv A outer s H vs Q E hr h => ?_)
  · obtain ⟨l, t, rfl, _⟩ := h
    rfl
  · obtain ⟨l, t, rfl, ⟨a, b, c, hl⟩, t0, t1, q⟩ := h
    refine ⟨_, pss_cons (ps_if (pt_cmpR op_gt (pe_ix (ixLK (K := K)) (pv 0) (pe_int) (fun _ _ => rfl)) (pe_int) (nomark _))
        (pss_cons (ps_set (i := 5) sc_law_draw.nd rfl (.inl rfl) (pe_op op_mod (pe_callTy call_int1 (by rfl) B.int (by decide +kernel) (pa_cons (pe_ix (ixLK (K := K)) (pv 0) (pe_int) (fun _ _ => rfl)) (pa_nil))) (pv 1)))
      (pss_cons (ps_asg (pe_op op_fdiv (pe_ix (ixLK (K := K)) (pv 0) (pe_int) (fun _ _ => rfl)) (pv 1)) (pg_sub (pv 0) (pe_int) set_list))
      (pss_one (ps_ret (pv 5)))))
        (pss_nil))
      (pss_cons (ps_asg (pe_op op_add (pe_ix (ixLK (K := K)) (pv 0) (pe_int) (fun _ _ => rfl)) (pe_int)) (pg_sub (pv 0) (pe_int) set_list))
      (pss_cons (ps_set (i := 2) sc_law_draw.nd rfl (.inl rfl) (pe_op op_mod (pe_callTy call_int1 (by rfl) B.int (by decide +kernel) (pa_cons (pe_op op_add (pe_ix (ixLK (K := K)) (pv 0) (pe_int) (fun _ _ => rfl)) (pe_op op_mul (pe_int) (pe_ix (ixLK (K := K)) (pv 0) (pe_int) (fun _ _ => rfl)))) (pa_nil))) (pe_int)))
      (pss_cons (ps_set (i := 3) sc_law_draw.nd rfl (.inl rfl) (pe_op op_mod (pe_callTy call_int1 (by rfl) B.int (by decide +kernel) (pa_cons (pe_op op_add (pe_op op_add (pe_op op_mul (pv 2) (pv 2)) (pe_op op_fdiv (pe_ix (ixLK (K := K)) (pv 0) (pe_int) (fun _ _ => rfl)) (pe_int))) (pe_op op_mul (pe_int) (pe_ix (ixLK (K := K)) (pv 0) (pe_int) (fun _ _ => rfl)))) (pa_nil))) (pe_int)))
      (pss_cons (ps_set (i := 4) sc_law_draw.nd rfl (.inl rfl) (pe_op op_mod (pe_callTy call_int1 (by rfl) B.int (by decide +kernel) (pa_cons (pe_op op_add (pe_op op_mul (pv 3) (pv 3)) (pv 2)) (pa_nil))) (pe_int)))
      (pss_one (ps_ret (pe_op op_mod (pe_callTy call_int1 (by rfl) B.int (by decide +kernel) (pa_cons (pe_op op_fdiv (pv 4) (pe_int)) (pa_nil))) (pv 1)))))))), ?_⟩
    have sq : ∀ {x y z : Int} {H' : Hp}, H' l = some (.lst [.int x, .int y, .int z]) → SqL K H' l [.int x, .int y, .int z] := fun h => SqL.of h
    have md : ∀ (u m : Int), 0 < m → m < 4294967296 → CMul (u % m) (u % m) := fun u m h0 h1 => by
      have e1 := Int.emod_nonneg u (show m ≠ 0 by omega)
      have e2 := Int.emod_lt_of_pos u h0
      exact .inl ⟨by omega, by omega⟩
    refine ⟨_, rfl, l, _, _, _, rfl, rfl, sq hl, rfl, _, _, rfl, rfl, _, rfl, ite2 (fun _ => ?_) (fun _ => ?_)⟩
    · refine ⟨_, rfl, l, _, _, _, rfl, rfl, sq hl, rfl, .inl ⟨_, rfl, _, rfl, _, _, rfl, rfl, t0, ?_⟩⟩
      refine ⟨_, rfl, l, _, _, _, rfl, rfl, sq hl, rfl, _, rfl, _, _, rfl, rfl, ⟨t0, t1⟩, ?_⟩
      refine ⟨_, rfl, l, _, _, _, rfl, rfl, hl, rfl, ?_⟩
      exact ⟨_, rfl, q _ _ (Int.emod_nonneg _ (by omega)) (Int.emod_lt_of_pos _ t0) (KL.set _ _ _)⟩
    · refine ⟨_, rfl, l, _, _, _, rfl, rfl, sq hl, rfl, _, _, rfl, rfl, ?_⟩
      refine ⟨_, rfl, l, _, _, _, rfl, rfl, hl, rfl, ?_⟩
      have hl2 : upd H l (.lst [.int a, .int b, .int (c + 1)]) l = some (.lst [.int a, .int b, .int (c + 1)]) := upd_same
      have k2 : KL l H (upd H l (.lst [.int a, .int b, .int (c + 1)])) := KL.set _ _ _
      refine ⟨_, rfl, l, _, _, _, rfl, rfl, sq hl2, rfl, _, rfl, l, _, _, _, rfl, rfl, sq hl2, rfl, _, _, rfl, rfl, .inl ⟨by decide, by decide⟩, _, _, rfl, rfl, .inl ⟨_, rfl, _, _, rfl, rfl, by show (0 : Int) < _; decide, ?_⟩⟩
      refine ⟨_, rfl, _, rfl, _, _, rfl, rfl, md _ _ (by decide) (by decide), ?_⟩
      refine ⟨_, rfl, l, _, _, _, rfl, rfl, sq hl2, rfl, _, _, rfl, rfl, ⟨by decide, by decide⟩, _, _, rfl, rfl, ?_⟩
      refine ⟨_, rfl, l, _, _, _, rfl, rfl, sq hl2, rfl, _, _, rfl, rfl, .inl ⟨by decide, by decide⟩, _, _, rfl, rfl, .inl ⟨_, rfl, _, _, rfl, rfl, by show (0 : Int) < _; decide, ?_⟩⟩
      refine ⟨_, rfl, _, rfl, _, _, rfl, rfl, md _ _ (by decide) (by decide), _, rfl, _, _, rfl, rfl, .inl ⟨_, rfl, _, _, rfl, rfl, by show (0 : Int) < _; decide, ?_⟩⟩
      exact ⟨_, rfl, _, _, rfl, rfl, ⟨by decide, by decide⟩, .inl ⟨_, rfl, _, rfl, _, _, rfl, rfl, t0, q _ _ (Int.emod_nonneg _ (by omega)) (Int.emod_lt_of_pos _ t0) k2⟩⟩
abbrev s_choice : Stmt := top 36
theorem sc_law_choice : FnScope ["_law_vat_here", "_law_items"] ["_law_vat_here", "_law_items"] (defScope s_choice) := ⟨rfl, rfl, rfl, by decide +kernel, rfl, by decide +kernel, by decide +kernel⟩
def sp_choice : Sp := fun vs H Q _ => ∃ (l a : Addr) (xs : List V), vs = [.ref l, .ref a] ∧ VatV H l ∧ H a = some (.tup xs) ∧ 0 < xs.length ∧ xs.length ≤ 1000 ∧ ∀ v H', v ∈ xs → KL l H H' → Q v H'
theorem ok_choice (B : Bt mg) (O_law_draw : Ok P w K mg base "_law_draw" 1 ["_law_vat_here", "_law_total"] sp_draw) (D : Df K mg "_law_choice" s_choice ["_law_vat_here", "_law_items"]) : Ok P w K mg base "_law_choice" 2 ["_law_vat_here", "_law_items"] sp_choice := by
  refine D.ok sc_law_choice (fun vs H Q E h => ?_) (fun f cdv A outer s H vs Q E hr h => ?_)
  · obtain ⟨l, a, xs, rfl, _⟩ := h
    rfl
  · obtain ⟨l, a, xs, rfl, hv, ha, h0, h1, q⟩ := h
    refine ⟨_, pss_one (ps_ret (pe_ix (ixTK (K := K)) (pv 1) (O_law_draw.call hr (ha := pa_cons (pv 0) (pa_cons (pe_callB (lenK (K := K)) (by rfl) B.len (by decide +kernel) (pa_cons (pv 1) (pa_nil))) (pa_nil)))) (fun _ _ => rfl))), ?_⟩
    refine ⟨_, rfl, _, rfl, _, rfl, a, xs, rfl, .inr (SqT.of ha), l, _, rfl, hv, by omega, by omega, fun d H' d0 d1 k => ?_⟩
    obtain ⟨j, rfl⟩ := Int.eq_ofNat_of_zero_le d0
    have hj : j < xs.length := by omega
    have he : xs[j]? = some xs[j] := List.getElem?_eq_getElem hj
    exact ⟨a, xs, _, xs[j], rfl, rfl, SqT.of (KL.tups hv k _ _ ha), atI_nat he, q _ H' (List.getElem_mem hj) k⟩
theorem KindV.kl {l : Addr} {H H' : Hp} {v : V} {t : Tab} (va : VatV H l) (k : KL l H H') (h : KindV C H v t) : KindV C H' v t := by
  obtain ⟨a, dx, d, kvs, e1, e2, e3, e4, e5⟩ := h
  obtain ⟨p, q, r, e⟩ := va
  refine ⟨a, dx, d, kvs, e1, k.1 _ _ e2 (fun z => ?_), k.1 _ _ e3 (fun z => ?_), e4.mono (KL.tups ⟨p, q, r, e⟩ k), e5⟩
  · rw [z, e] at e2
    cases e2
  · rw [z, e] at e3
    cases e3
end
end Tm

/-! An own exception class over IndexError whose __init__ keeps one field (k09). -/
namespace PySem
namespace NumX
open PySem.HandSPX Builtin Builtin.ObjectAttr
abbrev ieTail : List Value := [.type "IndexError", .type "LookupError", .type "Exception", .type "BaseException", .type "object"]
def refsIE : List Value → Bool
  | .ref _ :: r => refsIE r
  | l => l == ieTail
theorem ie_cases (l : List Value) (e : refsIE l = true) : (∃ c r, l = .ref c :: r ∧ refsIE r = true) ∨ l = ieTail := by
  match l, e with
  | [], e => exact .inr (beq_iff_eq.mp e)
  | a :: r, e =>
    cases a with
    | ref c => exact .inl ⟨c, r, rfl, e⟩
    | _ => exact .inr (beq_iff_eq.mp e)
theorem ie_pass (self : Value) : ∀ l : List Value, refsIE l = true → refuseLoop self "__setattr__" l = pure () := by
  intro l
  induction l with
  | nil => intro e; exact absurd e (by decide)
  | cons a r ih =>
    intro e
    rcases ie_cases (a :: r) e with ⟨c, r', q, h⟩ | q
    · obtain ⟨rfl, rfl⟩ := List.cons.inj q
      rw [refuseLoop_ref]
      exact ih h
    · rw [q]
      exact F.store_IndexError.passes self
theorem ie_contains (X : String) : ∀ l : List Value, refsIE l = true → l.contains (.type X) = ieTail.contains (.type X) := by
  intro l
  induction l with
  | nil => intro e; exact absurd e (by decide)
  | cons a r ih =>
    intro e
    rcases ie_cases (a :: r) e with ⟨c, r', q, h⟩ | q
    · obtain ⟨rfl, rfl⟩ := List.cons.inj q
      rw [List.contains_cons, ih h]
      rfl
    · rw [q]
theorem ie_ne {l : List Value} (e : refsIE l = true) : l.isEmpty = false := by
  cases l with
  | nil => exact absurd e (by decide)
  | cons _ _ => rfl
end NumX
end PySem

namespace PySem
namespace NumX
open PySem.HandSPX PySem.W PySem.Calls PyProof.Rows Builtin Builtin.ObjectAttr
section
variable {prog : Program} {w : World} {A : Around} {E : Value → Shared → Prop} {R : Result → Shared → Prop} {hp : Heap} {g : Array GenState} {d : Drawn} {t : Nat} {os : OsState}
theorem ie_osa {K : W.Frag} {name : Str} {tk : Tok} {v : Value} {x C : Addr} {fv : Array Value} {cd : ClassData}
    (X : K.In hp) (hx : hp.get? x = some { cls := .ref C, data := .fields fv }) (hcd : W.clsIn K C = some cd) (hm : refsIE cd.mro = true) (hh : cd.hasDict = true) (ha : W.findIn K (.ref C) name = some none)
    (hq : ∀ h' tk' dx, (∀ b o, b ≠ x → hp.get? b = some o → h'.get? b = some o) → hp.objs.size ≤ dx → dx ≠ x → h'.get? x = some { cls := .ref C, dict := some dx, data := .fields fv } →
      h'.Ns1 dx (fun y => if y = name then some v else none) → R (.ok (.ret .none)) ⟨h', g, d, tk', os⟩) :
    codeAny (model prog w) A (.call (.builtin "object.__setattr__") ⟨[.ref x, .str name tk, v], []⟩) R ⟨hp, g, d, t, os⟩ := by
  have I : W.InstAt hp x { cls := .ref C, data := .fields fv } C none := ⟨hx, rfl, rfl, trivial⟩
  have SF := F.store_object
  have ne := ie_ne hm
  have hob : cd.mro.contains (.type "object") = true := (ie_contains "object" _ hm).trans (by decide +kernel)
  have hxs : x ≠ hp.objs.size := Nat.ne_of_lt (Heap.lt_size hx)
  have sub : W.Looks (model prog w) hp (isInstance (.ref x) (.type "object")) true := I.type.andThen (W.looks_mroIn X (by unfold W.mroIn; rw [hcd, Option.bind_some, if_neg (by rw [ne]; decide), hob]))
  refine codeAny_call_builtin SF.slot.plain SF.entry (@W.check_slot (model prog w) _ _ ⟨hp, g, d, t, os⟩ "object.__setattr__" "object" "__setattr__" (.ref x) [.str name tk, v] [] _ SF.kind SF.split sub (SF.args (.ref x) (.str name tk) v) ?_)
  have hmr : W.Looks (model prog w) hp (mroOf (.ref C)) cd.mro := (W.looks_clsIn X hcd).andThen .now
  have L3 : W.Looks (model prog w) hp (storeTaker? none) none := .now
  have hcls : W.Looks (model prog w) hp (classData C) cd := W.looks_clsIn X hcd
  rw [W.osa_eq, refuse_eq]
  refine wpAny_bind (wpAny_bind (I.type.at (wpAny_bind (hmr.at ?_))))
  rw [ie_pass _ _ hm]
  refine wpAny_pure (wpAny_bind (I.type.at (wpAny_bind ((W.looks_findIn X ha).at (wpAny_bind (L3.at ?_))))))
  show wpAny _ _ (storeInOwnDict (.ref x) (.ref C) (.str name tk) name v false) _ _ _
  obtain ⟨nm, bs, mro, ns, qn, hd, sn, sb, ab, col, del⟩ := cd
  dsimp only at hh
  subst hh
  unfold storeInOwnDict ownDictForStores
  repeat (first | with_reducible refine store_in_new ?_ ?_ | with_reducible refine wpAny_loadPart_at hx ?_ | with_reducible refine hcls.at ?_ | wp_step)
  · exact ⟨_, #[], _, (Heap.get?_update_ne _ _ _ _ hxs.symm).trans (Heap.get?_push_at rfl rfl), rfl, fun e he => absurd he (by simp), fun _ => rfl⟩
  · intro h' tk' hn' hs
    have hx₁ : (hp.push { cls := .type "dict", data := .dict #[] }).get? x = some { cls := .ref C, data := .fields fv } := Heap.get?_push_of_some _ hx
    refine hq h' tk' hp.objs.size (fun b o hb ho => ?_) (Nat.le_refl _) hxs.symm ?_ hn'
    · exact (hs.2 b (Nat.ne_of_lt (Heap.lt_size ho))).trans ((Heap.get?_update_ne _ _ _ _ hb).trans (Heap.get?_push_of_some _ ho))
    · exact (hs.2 x hxs).trans (Heap.get?_update_self _ hx₁ rfl)
end
/-! ### the text of __init__ -/
def iA (p1 p2 : Pos) : Arguments := { posonlyargs := [], args := [{ arg := "self", annotation := none, pos := p1 }, { arg := "given", annotation := none, pos := p2 }], vararg := none, kwonlyargs := [], kw_defaults := [], kwarg := none, defaults := [] }
def iB (q1 q2 q3 q4 : Pos) : List Stmt := [.Assign [.Attribute (.Name "self" q1) "given" q2] (.Name "given" q3) q4]
def iS : Scope := { kind := .function, names := [(PySem.Str.ofString "self", .local), (PySem.Str.ofString "given", .local)], isGenerator := false, isCoroutine := false, more := [] }
/-- what the written part says of Low, at C, and of its __init__, at fI -/
structure NumTxt (K : Frag) (mg : Str → Option Value) (C fI : Addr) : Prop where
  gC : mg "InvalidNumber" = some (.ref C)
  cls : ∃ nm q N bs bm sn sub ab col dd k0 k1 k2 k3 k5, K.lookup C = some (excClassObj nm q C N bs bm true sn sub ab col dd k0 k1 k2 k3 k5 "IndexError.__new__") ∧ refsIE bm = true
  sa : findIn K (.ref C) "__setattr__" = some (some (.builtin "object.__setattr__"))
  ga : findIn K (.ref C) "__getattribute__" = some (some (.builtin "BaseException.__getattribute__"))
  gg : findIn K (.ref C) "__getattr__" = some none
  noN : findIn K (.ref C) "given" = some none
  iC : findIn K (.ref C) "__init__" = some (some (.ref fI))
  tC : typeIn K (.ref fI) = some (.type "function")
  kC : keepIn K (.ref C) = true
  exC : subIn K (.ref C) (.type "BaseException") = some true
  tyC : typeIn K (.ref C) = some (.type "type")
  hdC : hasDictIn K C = true
  te : exmOne K (.ref C) (.ref C) = some true
  fn : ∃ (oc : Value) (od : Option Addr) (doc pm : Value) (an : Option Addr) (cdv ct : Value) (osl : Array (Option Value)) (p1 p2 q1 q2 q3 q4 : Pos),
    K.lookup fI = some ⟨oc, od, .func (fnOf "__init__" "InvalidNumber.__init__" (iA p1 p2) (iB q1 q2 q3 q4) iS .none .none doc pm an cdv ct), osl⟩ ∧ codeIn K cdv "InvalidNumber.__init__" = true
theorem one_size (v : Value) : [v].length ≤ sizeLine := by
  rw [sizeLine_eq]
  exact (by decide : 1 ≤ 16777216)
theorem kept_but {K : Frag} {h h' : Heap} {x : Addr} (X : K.In h) (hx : K.lookup x = none) (k : ∀ b o, b ≠ x → h.get? b = some o → h'.get? b = some o) : K.In h' := fun a o e =>
  k a o (fun z => by rw [z, hx] at e; cases e) (X a o e)
theorem ldC {M : Model} {s : Shared} {name : Str} {scope : Scope} {L a : Addr} {cd : Value} {m : Str → Option Value} {x : Str} {pos : Pos} {v : Value} {Q : Value → Shared → Prop} {A : Around} {E : Value → Shared → Prop} (hn : s.heap.Ns L m) (hv : m x = some v) (h : Q v s)
    (hk : scope.kind = .function := by rfl) (hl : (envOfC name scope L a cd).kindOf x = some .local := by rfl) (hd : (x == ("__debug__" : Str)) = false := by decide) :
    wpAny M A (eval (.Name x pos) (envOfC name scope L a cd)) Q E s := wpAny_Name (wpAny_loadName_local hk hl hn hv h) hd
/-- what __init__ leaves of a fresh exception at x -/
structure InitEnd (h h' : Heap) (x C dx t1 : Addr) (v : Value) : Prop where
  keep : ∀ b o, b ≠ x → h.get? b = some o → h'.get? b = some o
  obj : h'.get? x = some { cls := .ref C, dict := some dx, data := .fields #[.ref t1, .none, .none, .none, .bool false, .none] }
  dbig : h.objs.size ≤ dx
  dne : dx ≠ x
  ns : h'.Ns1 dx (fun y => if y = "given" then some v else none)
/-- a made Low -/
structure OwnMade (h h' : Heap) (e C d : Addr) (v : Value) : Prop where
  keep : ∀ b o, h.get? b = some o → h'.get? b = some o
  new : h.objs.size ≤ e
  obj : ∃ oe vs, h'.get? e = some oe ∧ oe.cls = .ref C ∧ oe.dict = some d ∧ oe.data = .fields vs ∧ vs[1]? = some .none
  dbig : h.objs.size ≤ d
  dne : d ≠ e
  ns : h'.Ns1 d (fun y => if y = "given" then some v else none)
section
variable {prog : Program} {w : World} {A : Around} {E : Value → Shared → Prop} {R : Result → Shared → Prop} {s : Shared} {K : Frag} {mg : Str → Option Value} {C fI : Addr}
theorem num_init (T : NumTxt K mg C fI) {x t0 : Addr} {v : Value} (X : K.In s.heap) (hlim : s.heap.NoLimit) (hx : s.heap.get? x = some (excO C t0)) (hnx : K.lookup x = none) (hroom : A.depth < recursionLimit)
    (hq : ∀ h' tk dx, InitEnd s.heap h' x C dx t0 v → R (.ok (.ret .none)) { s with heap := h', toks := tk }) :
    codeAny (model prog w) A (.call (.ref fI) ⟨[.ref x, v], []⟩) R s := by
  obtain ⟨oc, od, doc, pm, an, cdv, ct, osl, p1, p2, q1, q2, q3, q4, ho, hcd⟩ := T.fn
  obtain ⟨nm, q, N, bs, bm, sn, sub, ab, col, dd, k0, k1, k2, k3, k5, hC, hbm⟩ := T.cls
  have hcl : clsIn K C = some { name := nm, bases := bs, mro := .ref C :: bm, ns := N, qualname := q, hasDict := true, slotNames := sn, subclasses := sub, abstract := ab, collection := col, hasDel := false } := by unfold clsIn; rw [hC] <;> rfl
  refine Att.call_fn (binds := [("self", .ref x), ("given", v)]) X hlim ho hcd hroom (BindsTo.of_eq (by first | rfl | with_unfolding_all rfl)) (by first | rfl | decide | with_unfolding_all rfl) (fun s₁ IC => ?_) rfl rfl rfl
  obtain ⟨h₁, tk₁, rfl⟩ := IC.toInCall.same
  have k : ∀ b o, s.heap.get? b = some o → h₁.get? b = some o := IC.toInCall.keep
  have hn := IC.toInCall.ns
  have hxL : s.heap.objs.size ≠ x := Nat.ne_of_gt (Heap.lt_size hx)
  have X₁ : K.In h₁ := X.keeps k
  have hx₁ := k _ _ hx
  -- self.by = by
  show wpAny _ _ (execs _ _) _ _ _
  refine wpAny_execs_cons (plainObj_wpAny_Assign_Attribute ?_)
  refine ldC (v := v) hn (by first | rfl | with_unfolding_all rfl | kernel_rfl) (ldC (v := .ref x) hn (by first | rfl | with_unfolding_all rfl | kernel_rfl) ?_)
  refine set_plain X₁ (ox := excO C t0) (od := none) ⟨hx₁, rfl, rfl, trivial⟩ T.sa ?_
  refine ie_osa X₁ hx₁ hcl (show refsIE (.ref C :: bm) = true from hbm) rfl T.noN (fun h₃ tk₃ dx k₃ dn dne hx₃ hn₃ => ?_)
  show wpAny _ _ (execs _ _) _ _ _
  have z : s.heap.objs.size < h₁.objs.size := hn.lt
  exact wpAny_execs_nil (hq h₃ tk₃ dx ⟨fun b o hb e => k₃ b o hb (k b o e), hx₃, Nat.le_of_lt (Nat.lt_of_lt_of_le z dn), dne, hn₃⟩)
theorem num_made (T : NumTxt K mg C fI) {v : Value} (X : K.In s.heap) (hlim : s.heap.NoLimit) (hroom : A.depth + 1 < recursionLimit)
    (hq : ∀ h' tk e d, OwnMade s.heap h' e C d v → R (.ok (.ret (.ref e))) { s with heap := h', toks := tk }) :
    codeAny (model prog w) A (.call (.ref C) ⟨[v], []⟩) R s := by
  obtain ⟨nm, q, N, bs, bm, sn, sub, ab, col, dd, k0, k1, k2, k3, k5, hC, hbm⟩ := T.cls
  obtain ⟨hp, g, dr, tk, os⟩ := s
  have k : ∀ b o, hp.get? b = some o → ((hp.push (kdv_tup [v])).push (excO C hp.objs.size)).get? b = some o := fun b o e => Heap.get?_push_of_some _ (Heap.get?_push_of_some _ e)
  have hget : ((hp.push (kdv_tup [v])).push (excO C hp.objs.size)).get? (hp.objs.size + 1) = some (excO C hp.objs.size) := by heap_get
  have hnx : K.lookup (hp.objs.size + 1) = none := by
    cases e : K.lookup (hp.objs.size + 1) with
    | none => rfl
    | some o =>
      have z : hp.get? (hp.objs.size + 1) = some o := X _ _ e
      exact absurd (Nat.lt_of_succ_lt (Heap.lt_size z)) (Nat.lt_irrefl _)
  refine call_own F.excBase_IndexError (fun X => ie_contains X bm hbm) (X _ _ hC) (looks_findIn X T.iC) (fun self => bind_fn X self T.tC) (one_size v) ?_
  refine num_init (s := ⟨(hp.push (kdv_tup [v])).push (excO C hp.objs.size), g, dr, tk, os⟩) T (X.keeps k) (hlim.keeps k) hget hnx ?_ fun h' tk' dx ⟨k', hx, dn, dne, hns⟩ => ?_
  · show A.depth + 1 < recursionLimit
    exact hroom
  · have old : ∀ b o, hp.get? b = some o → h'.get? b = some o := fun b o e => k' b o (Nat.ne_of_lt (Nat.lt_succ_of_lt (Heap.lt_size e))) (k b o e)
    have z : hp.objs.size + 1 + 1 ≤ dx := by
      first
        | (simpa only [Heap.size_push] using dn)
        | exact dn
        | (have q := dn; rw [Heap.size_push, Heap.size_push] at q; exact q)
    exact ⟨rfl, hq h' tk' (hp.objs.size + 1) dx ⟨old, Nat.le_succ _, ⟨_, _, hx, rfl, rfl, rfl, rfl⟩, Nat.le_trans (Nat.le_trans (Nat.le_succ _) (Nat.le_succ _)) z, dne, hns⟩⟩
end
end NumX
end PySem

namespace L2
open PySem PySem.Spec PyProof.Rows
theorem relO_num {v : V} {v' : Value} (r : RelV v v') (f : Str) : RelO (List.lookup f [(("given" : Str), v)]) (if f = "given" then some v' else none) := by
  by_cases hw : f = "given"
  · subst hw
    rw [if_pos rfl]
    have q : List.lookup ("given" : Str) [(("given" : Str), v)] = some v := by simp [List.lookup]
    rw [q]
    exact r
  · rw [if_neg hw]
    have qw : (f == ("given" : Str)) = false := by simpa using hw
    have q2 : List.lookup f [(("given" : Str), v)] = none := by simp [List.lookup, qw]
    rw [q2]
    trivial
section
variable {X : Cx} {C fI : Addr}
/-- Low(e) -/
def tMkNum (C : Addr) (ta : TA) : St → Hp → XK → Prop := fun σ H Q => ta σ H fun vs H1 => ∃ v, vs = [v] ∧ ∀ d, H1 d = none → Q (.ref C) (some d) (upd H1 d (.xd [(("given" : Str), v)]))
theorem pmk_num {a : Expr} {ta : TA} {p pos : Pos} {k : Nat} (T : PySem.NumX.NumTxt X.K X.mg C fI) (hr : Room k X.A) (ha : PA X [a] ta) (hg : Gl X "InvalidNumber" := by rfl)
    (he : starEach (a :: []) X.env = (false, eval a X.env) :: starEach [] X.env := by rfl) (hpl : (backTo pos (starEach [] X.env)).any (·.1) = false := by rfl) :
    PMk X (.Call (.Name "InvalidNumber" p) [a] [] pos) (tMkNum C ta) := by
  intro pins s σ H Q I h
  refine wpAny_Call_Name_kw (ld_glob I hg T.gC ?_)
  refine PySem.W.callWith_K (h₀ := X.base) I.ok.mod.kin T.kC (thn (ha.run pos pins s σ H _ I h) fun us s1 hh => ?_) he hpl
  obtain ⟨vs, H1, I1, r1, v, ev, q1⟩ := hh
  subst ev
  refine ⟨I1.kIn, ?_⟩
  cases r1 with
  | cons rv rn =>
    rename_i v' us'
    cases rn
    show wpAny _ _ (call (.ref C) [v']) _ _ _
    have hlim := I1.nolimit
    obtain ⟨hp, g, dr, tk, os⟩ := s1
    refine wpAny_call (PySem.NumX.num_made T I1.kIn hlim (by have := hr.dp; omega) fun h' tk' e d M => ?_)
    show MkP X pins σ Q (.ref e) ⟨h', g, dr, tk', os⟩
    obtain ⟨oe, fv, hoe, hc, hd, hdat, h1⟩ := M.obj
    have hns := M.ns
    obtain ⟨G', g1, g2⟩ := restrict h' fun b => decide (b ≠ e)
    have gk : ∀ b, b ≠ e → G'.get? b = h'.get? b := fun b hb => g1 b (decide_eq_true hb)
    have ge : G'.get? e = none := g2 e (by simp)
    have old : ∀ b o, hp.get? b = some o → G'.get? b = some o := fun b o q => (gk b (Nat.ne_of_lt (Nat.lt_of_lt_of_le (Heap.lt_size q) M.new))).trans (M.keep b o q)
    have ob : ObjOk X.prog X.w (upd H1 d (.xd [(("given" : Str), v)])) G' d (.xd [(("given" : Str), v)]) :=
      ⟨_, hns.at (fun o q => (gk d M.dne).trans q), fun f => relO_num rv f⟩
    have J : Inv X pins σ (upd H1 d (.xd [(("given" : Str), v)])) ⟨G', g, dr, tk', os⟩ := I1.laid (t' := tk') old M.dbig ob
    refine ⟨e, oe, fv, ⟨G', g, dr, tk', os⟩, _, .ref C, some d, rfl, J, fun b o q => ?_, ge, hoe, ⟨hc, hd⟩, hdat, h1, ?_, rfl, I1.bare, raises_own T.exC T.tyC, q1 d (I1.hok.fresh M.dbig)⟩
    · by_cases hb : b = e
      · have q' : G'.get? b = some o := q
        rw [hb, ge] at q'; cases q'
      · exact (gk b hb).symm.trans q
    · rw [upd_ne (Ne.symm M.dne)]
      exact I1.hok.fresh M.new
/-- raise Low(e) -/
def tRaiseNum (C : Addr) (W : WX) (ta : TA) : TS := fun _ σ H => tMkNum C ta σ H fun cls d H' => W cls d σ H'
theorem ps_raiseNum {a : Expr} {ta : TA} {W : WX} {p pos pos2 : Pos} {k : Nat} (hc : X.calm = true) (T : PySem.NumX.NumTxt X.K X.mg C fI) (hr : Room k X.A) (tk : Takes X W) (ha : PA X [a] ta) (hg : Gl X "InvalidNumber" := by rfl)
    (he : starEach (a :: []) X.env = (false, eval a X.env) :: starEach [] X.env := by rfl) (hpl : (backTo pos (starEach [] X.env)).any (·.1) = false := by rfl) :
    PS X (.Raise (some (.Call (.Name "InvalidNumber" p) [a] [] pos)) none pos2) (tRaiseNum C W ta) := ps_raise hc tk (pmk_num T hr ha hg he hpl)
/-- low.by, low the exception that the suite holds (at a; its class cls, its dict d) -/
def tGiven (C : Addr) (a : Addr) (cls : Value) (d : Option Addr) (te : TE) : TE := fun σ H Q => te σ H fun x H1 => x = .ref a ∧ cls = .ref C ∧ ∃ (dd : Addr) (v : V), d = some dd ∧ H1 dd = some (.xd [(("given" : Str), v)]) ∧ Q v H1
theorem pe_given {a : Addr} {oe : Obj} {cls : Value} {d : Option Addr} {pn : List (Addr × Obj)} {e : Expr} {te : TE} {pos : Pos} (T : PySem.NumX.NumTxt X.K X.mg C fI) (hz : Zc cls d oe) (hf : ∃ vs, oe.data = .fields vs) (he : PE (X.suite a ((a, oe) :: pn)) e te)
    (hb : attributeBase e "given" X.env (eval e X.env) = eval e X.env := by rfl) :
    PE (X.suite a ((a, oe) :: pn)) (.Attribute e "given" pos) (tGiven C a cls d te) := by
  refine ⟨fun pins s σ H Q I h => ?_⟩
  refine attr_of hb (thn (he.run pins s σ H _ I h) fun u s1 hh => ?_)
  obtain ⟨x, H1, I1, rx, ex, ec, dd, v, ed, ea, q⟩ := hh
  subst ex
  obtain rfl : u = Value.ref a := rx
  subst ec
  subst ed
  obtain ⟨ha, _⟩ := I1.pin (a, oe) (List.mem_append_left _ List.mem_cons_self)
  obtain ⟨vs, hd⟩ := hf
  have hx : ObjOk X.prog X.w H1 s1.heap dd (.xd [(("given" : Str), v)]) := I1.hok dd _ ea
  obtain ⟨mA, hns, hr⟩ := hx
  obtain ⟨od, ho, hl⟩ := lookIn_ns hns
  have l : List.lookup ("given" : Str) [(("given" : Str), v)] = some v := by simp [List.lookup]
  obtain ⟨u, hu, ru⟩ := RelO.some_of (v := v) (o := mA "given") (by rw [← l]; exact hr "given")
  have J : PySem.W.InstAt s1.heap a oe C (some od) := ⟨ha, hz.1, by unfold PySem.W.notCls; rw [hd] <;> rfl, by rw [hz.2]; exact ho⟩
  exact HandSPX.exc_get I1.kIn J T.ga T.gg T.exC (PySem.W.findObj_own T.hdC T.noN rfl (by rw [hl, hu])) (handed_of ru) ⟨v, H1, I1.tok _, ru, q⟩
end
end L2

/-! Defs that may raise (OkX); is_number_in of any value; need_number that raises InvalidNumber. -/
namespace Tm
open PySem PySem.Spec PyProof.Rows L2
local macro_rules | `(tactic| walk_at "x") => `(tactic| dsimp only [tNext, tRet, tSeq, tCB, tCons, tNil, tAsg, tDrop])
/-- a def of the top that may raise -/
structure OkX (P : Program) (w : World) (K : PySem.W.Frag) (mg : Str → Option Value) (base : Heap) (x : Str) (k : Nat) (ps : List Str) (sp : Sp) : Prop where
  ex : ∃ (f : Addr) (fd : FuncData), mg x = some (.ref f) ∧ PySem.W.keepIn K (.ref f) = true ∧ FnOk P w K mg base (L2.CX P w) k f fd ps sp ∧ Binds K fd ps []
section
variable {P : Program} {w : World} {K : PySem.W.Frag} {mg : Str → Option Value} {base : Heap}
theorem Df.okX {x : Str} {st : Stmt} {ps N : List Str} {k : Nat} {sp : Sp} (D : Df K mg x st ps) (S : FnScope N ps (defScope st)) (len : ∀ vs H Q E, sp vs H Q E → vs.length = ps.length)
    (hb : ∀ (f : Addr) (cdv : Value) (A : Around) (outer : List Env) (s : Shared) (H : Hp) (vs : List V) (Q : VK) (E : XK), Room k (A.deeper (envOfC x (defScope st) s.heap.objs.size f cdv)) → sp vs H Q E →
      ∃ t, PSs (cxOf (L2.CX P w) P w K mg base N x (defScope st) f cdv A outer s H E) (defBody st) t ∧ t { nx := fun _ H' => Q .non H', rt := Q } (start N vs) H) : OkX P w K mg base x (k + 1) ps sp := by
  obtain ⟨f, fd, h1, h2, h3, h4⟩ := D.ex
  exact ⟨f, fd, h1, h2, h3.okX S len (fun cdv A outer s H vs Q E hr h => hb f cdv A outer s H vs Q E hr h), h4⟩
end
section
variable {X : Cx} {x : Str} {k j : Nat} {ps : List Str} {sp : Sp} {e : Expr} {es : List Expr} {t : TA} {p pos : Pos} {E : XK} {W : WX}
/-- its call where what is raised is taken -/
theorem OkX.call (O : OkX X.prog X.w X.K X.mg X.base x k ps sp) (tk : Takes X W) (hW : ∀ cls d σ H, E cls d H → W cls d σ H) (hr : Room j X.A) (hk : k ≤ j := by decide) (ha : PA X (e :: es) t) (hg : Gl X x := by rfl) (hdb : (x == ("__debug__" : Str)) = false := by decide)
    (he : starEach (e :: es) X.env = (false, eval e X.env) :: starEach es X.env := by rfl) (hpl : (backTo pos (starEach es X.env)).any (·.1) = false := by rfl) :
    PE X (.Call (.Name x p) (e :: es) [] pos) (tCall sp [] E t) := by
  obtain ⟨f, fd, h1, h2, h3, h4⟩ := O.ex
  exact pe_call h3 (hr.mono hk) hg h1 h2 h4 .nil (passes_call tk hW) ha hdb he hpl
end
/-- what is_number_in tells of a value -/
def NumV (K : PySem.W.Frag) (H : Hp) (v : V) (lo hi : Int) (b : Bool) : Prop := (∃ n : Int, v = .int n ∧ b = (decide (lo ≤ n) && decide (n ≤ hi))) ∨
  (b = false ∧ ∃ t, TyX K H v t ∧ (PySem.W.kitOne K t (.type "int") = some false ∨ (PySem.W.kitOne K t (.type "int") = some true ∧ PySem.W.kitOne K t (.type "bool") = some true)))
def sp_numV (K : PySem.W.Frag) : Sp := fun vs H Q _ => ∃ (v : V) (lo hi : Int) (b : Bool), vs = [v, .int lo, .int hi] ∧ NumV K H v lo hi b ∧ Q (.bl b) H
section
variable {P : Program} {w : World} {K : PySem.W.Frag} {mg : Str → Option Value} {base : Heap}
theorem ok_numV (B : Bt mg) (D : Df K mg "is_number_in" s_num ["value", "least", "most"]) : Ok P w K mg base "is_number_in" 1 ["value", "least", "most"] (sp_numV K) := by
  refine D.ok sc_num (fun vs H Q E h => ?_) (fun f cdv A outer s H vs Q E hr h => ?_)
  · obtain ⟨v, lo, hi, b, rfl, _⟩ := h
    rfl
  · obtain ⟨v, lo, hi, b, rfl, nv, q⟩ := h
    refine ⟨_, pss_one (ps_ret (pe_and (pe_callB call_isi (by rfl) B.isinstance (by decide +kernel) (pa_cons (pv 0) (pa_cons (pe_ty (n := "int") (by rfl) B.int (by decide +kernel)) (pa_nil)))) (pe_and (pe_not (pe_callB call_isi (by rfl) B.isinstance (by decide +kernel) (pa_cons (pv 0) (pa_cons (pe_ty (n := "bool") (by rfl) B.bool (by decide +kernel)) (pa_nil))))) (pe_one (pe_chain op_le op_le (pv 1) (pv 0) (pv 2)))))), ?_⟩
    rcases nv with ⟨n, rfl, rfl⟩ | ⟨rfl, t, ty, h | ⟨h, h2⟩⟩
    · refine ⟨_, rfl, .int n, .ty "int", _, _, true, rfl, .ty "int", .base (.int n), kit_ty (by decide +kernel), ?_⟩
      refine ⟨_, rfl, ?_⟩; refine iteT ?_
      refine ⟨_, rfl, .int n, .ty "bool", _, _, false, rfl, .ty "bool", .base (.int n), kit_ty (by decide +kernel), ?_⟩
      refine ⟨_, rfl, true, rfl, ?_⟩; refine iteT ?_
      refine ⟨_, rfl, _, rfl, _, _, rfl, rfl, _, rfl, ite2 (fun h1 => ?_) (fun h1 => ?_)⟩
      · refine ⟨_, rfl, _, _, rfl, rfl, ?_⟩
        rw [show decide (lo ≤ n) = true from h1, Bool.true_and] at q
        exact q
      · have e : decide (lo ≤ n) = false := by simpa using h1
        rw [e, Bool.false_and] at q
        exact q
    · refine ⟨_, rfl, v, .ty "int", _, _, false, rfl, .ty "int", ty, h, ?_⟩
      exact ⟨_, rfl, iteF q⟩
    · refine ⟨_, rfl, v, .ty "int", _, _, true, rfl, .ty "int", ty, h, ?_⟩
      refine ⟨_, rfl, ?_⟩; refine iteT ?_
      refine ⟨_, rfl, v, .ty "bool", _, _, true, rfl, .ty "bool", ty, h2, ?_⟩
      exact ⟨_, rfl, false, rfl, iteF q⟩
/-- need_number: nothing, or InvalidNumber (the class at C) with what was given -/
def sp_needV (K : PySem.W.Frag) (C : Addr) : Sp := fun vs H Q E => ∃ (v : V) (lo hi : Int) (b : Bool), vs = [v, .int lo, .int hi] ∧ NumV K H v lo hi b ∧ (b = true → Q .non H) ∧ (b = false → ∀ d : Addr, H d = none → E (.ref C) (some d) (upd H d (.xd [(("given" : Str), v)])))
theorem ok_needV {C fI : Addr} (N : PySem.NumX.NumTxt K mg C fI) (O_num : Ok P w K mg base "is_number_in" 1 ["value", "least", "most"] (sp_numV K)) (D : Df K mg "need_number" s_need ["value", "least", "most"]) : OkX P w K mg base "need_number" 3 ["value", "least", "most"] (sp_needV K C) := by
  refine D.okX sc_need (fun vs H Q E h => ?_) (fun f cdv A outer s H vs Q E hr h => ?_)
  · obtain ⟨v, lo, hi, b, rfl, _⟩ := h
    rfl
  · obtain ⟨v, lo, hi, b, rfl, nv, q1, q2⟩ := h
    refine ⟨_, pss_one (ps_if (pt_not (pt_val (O_num.call hr (ha := pa_cons (pv 0) (pa_cons (pv 1) (pa_cons (pv 2) pa_nil)))))) (pss_one (ps_raiseNum rfl N hr (takes_of rfl rfl rfl rfl) (pa_cons (pv 0) pa_nil))) pss_nil), ?_⟩
    refine ⟨_, rfl, _, rfl, _, rfl, v, lo, hi, b, rfl, nv, _, rfl, ?_⟩
    cases b with
    | true => exact iteF (q1 rfl)
    | false =>
      refine iteT ?_
      exact ⟨_, rfl, v, rfl, fun d hd => q2 rfl d hd⟩
end
end Tm

/-! len(x), str(x) by the class's own methods. -/
namespace Tm
open PySem PySem.Spec PyProof.Rows L2
/-- a class's own special method -/
structure SpM (K : PySem.W.Frag) (C : Addr) (m : Str) (f : Addr) : Prop where
  fnd : PySem.W.findIn K (.ref C) m = some (some (.ref f))
  isf : PySem.W.isFn K (.ref f) = true
structure OkS (P : Program) (w : World) (K : PySem.W.Frag) (mg : Str → Option Value) (base : Heap) (C : Addr) (m : Str) (k : Nat) (ps : List Str) (sp : Sp) : Prop where
  ex : ∃ (f : Addr) (fd : FuncData), SpM K C m f ∧ FnOk P w K mg base CX0 k f fd ps sp ∧ Binds K fd ps []
/-- len, str of an object by its own method: what it tells -/
def rLenO (C : Addr) (sp : Sp) : List V → Hp → VK → Prop := fun xs H Q => ∃ a dx fs, xs = [.ref a] ∧ H a = some (.ins C dx fs) ∧ sp [.ref a] H (fun v H' => ∃ n : Nat, v = .int (n : Int) ∧ n < 1000000 ∧ Q (.int (n : Int)) H') E0
def rStrO (C : Addr) (sp : Sp) : List V → Hp → VK → Prop := fun xs H Q => ∃ a dx fs, xs = [.ref a] ∧ H a = some (.ins C dx fs) ∧ sp [.ref a] H (fun v H' => ∃ z : Str, v = .str z ∧ Q (.str z) H') E0
section
variable {X : Cx} {pins : List (Addr × Obj)} {σ : L2.St} {H : Hp} {s : Shared} {k : Nat} {f a C : Addr} {fd : FuncData} {ps : List Str} {sp : Sp} {Q : VK}
/-- a call one deeper -/
theorem run_in (F : FnOk X.prog X.w X.K X.mg X.base CX0 k f fd ps sp) {A : Around} (hr : Room k A) (e0 : Env0 X.prog X.w X.K X.mg X.base A X.stack s H) (hb : Binds X.K fd ps []) (I : Inv X pins σ H s) (hq : sp [.ref a] H Q E0) :
    wpAny (model X.prog X.w) A (call (.ref f) [.ref a]) (EP X pins σ Q) X.xe s := by
  have hl : ([Value.ref a] ++ ([] : List Value)).length = ps.length := by
    have e := F.len _ _ _ _ hq
    exact e
  refine wpAny_call (codeAny_mono (F.run A X.stack s H ⟨[.ref a], []⟩ [.ref a] [.ref a] Q E0 hr e0 (hb s [.ref a] I.kIn hl) (.cons rfl .nil) hq) fun r s' z => ?_)
  cases r with
  | error e => exact (pass0 (X := X)) pins σ H s e s' I z
  | ok fl =>
    cases fl with
    | ret u => exact I.after z
    | next => exact z.elim
    | brk => exact z.elim
    | cont => exact z.elim
theorem call_lenO (O : OkS X.prog X.w X.K X.mg X.base C "__len__" k ["self"] sp) (hr : Room (k + 1) X.A) : CallR X (.builtin "len") (rLenO C sp) := by
  intro pins s σ H xs us Q I r h
  obtain ⟨a, dx, fs, rfl, ha, hq⟩ := h
  obtain ⟨f, fd, M, F, hb⟩ := O.ex
  rw [Vals.ref1 r]
  obtain ⟨mA, O2, _⟩ := ins_get I.hok ha
  obtain ⟨od, J, _⟩ := O2.look
  obtain ⟨m, hF⟩ := I.fr
  refine PySem.W.len_K hF I.ok.mod.kin J M.fnd M.isf (wpAny_mono (run_in F hr.in1 I.env0.in1 hb I hq) (fun u s' z => ?_) fun _ _ z => z)
  obtain ⟨v, H', I', rv, n, ev, hn, q⟩ := z
  subst ev
  obtain ⟨t, rfl⟩ := rv
  exact ⟨⟨by omega, by omega⟩, ⟨.int (n : Int), H', I'.tok _, ⟨_, rfl⟩, q⟩⟩
theorem call_strO (O : OkS X.prog X.w X.K X.mg X.base C "__str__" k ["self"] sp) (hr : Room (k + 2) X.A) : CallR X (.type "str") (rStrO C sp) := by
  intro pins s σ H xs us Q I r h
  obtain ⟨a, dx, fs, rfl, ha, hq⟩ := h
  obtain ⟨f, fd, M, F, hb⟩ := O.ex
  rw [Vals.ref1 r]
  obtain ⟨mA, O2, _⟩ := ins_get I.hok ha
  obtain ⟨od, J, _⟩ := O2.look
  refine PySem.W.kso_call (by have := hr.un; show X.A.units + 1 + 1 < _; omega) I.kIn J M.fnd M.isf (wpAny_mono (run_in F hr.in1.in1 I.env0.in1.in1 hb I hq) (fun u s' z => ?_) fun _ _ z => z)
  obtain ⟨v, H', I', rv, y, ev, q⟩ := z
  subst ev
  obtain ⟨t, rfl⟩ := rv
  exact ⟨.str y, H', I', ⟨_, rfl⟩, q⟩
end
end Tm

/-! x == y, x != y of two objects of one class that has its own __eq__ and no __ne__. -/
namespace TmN
open PySem PySem.Spec PyProof.Rows PySem.W PySem.Builtin
section
variable {prog : Program} {w : World} {A : Around} {E : Value → Shared → Prop} {s : Shared} {K : Frag} {x y f C : Addr} {ox oy : Obj} {od od' : Option Obj}
theorem slot_bound {M : Model} {name : Str} {id : String} {args : List Value} {Q : Option Value → Shared → Prop} (X : K.In s.heap) (I : InstAt s.heap x ox C od) (hs : findIn K (.ref C) name = some (some (.builtin id)))
    (hb : ∀ self, bindSpecial (.builtin id) self = pure (.builtin id, [self])) (h : wpAny M A (call (.builtin id) (.ref x :: args)) (fun v => Q (some v)) E s) : wpAny M A (callSpecialIfBound? (.ref x) name args) Q E s := by
  simp only [callSpecialIfBound?, bindSpecialIfBound?]
  refine wpAny_holding (wpAny_bind (wpAny_bind (wpAny_bind (I.type.here ((looks_findIn X hs).here ?_)))))
  simp only [hb]
  refine wpAny_bind (wpAny_askSetting (wpAny_ite ?_))
  have last : wpAny M A (call (.builtin id) ([.ref x] ++ args) >>= fun v => pure (some v)) Q E s := wpAny_bind (wpAny_mono h (fun v s' z => wpAny_pure z) fun _ _ z => z)
  split
  · exact wpAny_bind (wpAny_pure (wpAny_pure last))
  · exact wpAny_tryCatch (wpAny_bind (wpAny_pure (wpAny_pure last)))
def BlBack (Q : Value → Shared → Prop) (v : Value) (s' : Shared) : Prop := ∃ b : Bool, v = .bool b ∧ Q (.bool (!b)) s'
theorem obj_ne {Q : Value → Shared → Prop} (hu : A.in1.units < cLine) (X : K.In s.heap) (I : InstAt s.heap x ox C od) (hm : mroIn K C (.type "object") = some true) (he : findIn K (.ref C) "__eq__" = some (some (.ref f))) (hf : isFn K (.ref f) = true)
    (h : wpAny (model prog w) A.in1 (call (.ref f) [.ref x, .ref y]) (BlBack Q) E s) : wpAny (model prog w) A (call (.builtin "object.__ne__") [.ref x, .ref y]) Q E s := by
  refine wpAny_call (codeAny_call_builtin PySem.F.cmp_object.ne.plain PySem.F.cmpEntry_ne (check_slot (i := "object.__ne__") (owner := "object") (n := "__ne__") (by decide +kernel) (by decide +kernel) (I.type.andThen (looks_mroIn X hm)) (PySem.F.cmpArgs_ne _ _) ?_))
  unfold Builtin.«object.__ne__»
  refine wpAny_bind (m := slotArgs "__ne__" 1 _) (wpAny_pure ?_)
  refine wpAny_bind (m := cRoomFor _ _) (wpAny_cRoomFor hu ?_)
  refine wpAny_bind (m := callSpecialIfBound? (.ref x) (Str.ofString "__eq__") [.ref y]) (ifBound_K X I he hf (wpAny_mono h (fun r s' hq => ?_) fun _ _ z => z))
  obtain ⟨b, rfl, q⟩ := hq
  exact wpAny_bind (wpAny_truthy_bool (wpAny_pure q))
theorem ne_own {Q : Value → Shared → Prop} (hu : A.units < cLine) (hu1 : A.in1.units < cLine) (X : K.In s.heap) (I : InstAt s.heap x ox C od) (J : InstAt s.heap y oy C od') (hn : findIn K (.ref C) "__ne__" = some (some (.builtin "object.__ne__")))
    (hm : mroIn K C (.type "object") = some true) (he : findIn K (.ref C) "__eq__" = some (some (.ref f))) (hf : isFn K (.ref f) = true)
    (h : wpAny (model prog w) A.in1 (call (.ref f) [.ref x, .ref y]) (BlBack Q) E s) : wpAny (model prog w) A (richCompare .NotEq (.ref x) (.ref y)) Q E s := by
  unfold richCompare
  simp only [oneThing_ref]
  refine wpAny_holding (wpAny_bind (wpAny_cRoomFor hu ?_))
  refine wpAny_bind (I.type.here (wpAny_bind (J.type.here ?_)))
  rw [show (Value.ref C != Value.ref C) = false from by simp]
  simp only [Bool.false_eq_true, if_false]
  refine wpAny_bind (wpAny_pure ?_)
  simp only [Bool.false_eq_true, if_false]
  refine wpAny_bind (m := tryCompare (.ref x) "__ne__" (.ref y)) ?_
  unfold tryCompare
  refine wpAny_bind (slot_bound X I hn PySem.F.cmp_object.ne.bind (obj_ne hu1 X I hm he hf (wpAny_mono h (fun r s' z => ?_) fun _ _ z => z)))
  obtain ⟨b, rfl, q⟩ := z
  exact ⟨b, rfl, wpAny_pure (wpAny_pure q)⟩
end
end TmN
namespace Tm
open PySem PySem.Spec PyProof.Rows L2
/-- what the == of the class tells, or its contrary -/
def rEqO (C : Addr) (sp : Sp) (neg : Bool) : R2 := fun x y H Q => ∃ a b dx dy fs gs, x = .ref a ∧ y = .ref b ∧ H a = some (.ins C dx fs) ∧ H b = some (.ins C dy gs) ∧ sp [.ref a, .ref b] H (fun v H' => ∃ c : Bool, v = .bl c ∧ Q (.bl (if neg then !c else c)) H') E0
section
variable {X : Cx} {pins : List (Addr × Obj)} {σ : L2.St} {H : Hp} {s : Shared} {k : Nat} {f a b C : Addr} {fd : FuncData} {ps : List Str} {sp : Sp} {Q : VK}
theorem run_in2 (F : FnOk X.prog X.w X.K X.mg X.base CX0 k f fd ps sp) {A : Around} (hr : Room k A) (e0 : Env0 X.prog X.w X.K X.mg X.base A X.stack s H) (hb : Binds X.K fd ps []) (I : Inv X pins σ H s) (hq : sp [.ref a, .ref b] H Q E0) :
    wpAny (model X.prog X.w) A (call (.ref f) [.ref a, .ref b]) (EP X pins σ Q) X.xe s := by
  have hl : ([Value.ref a, .ref b] ++ ([] : List Value)).length = ps.length := F.len _ _ _ _ hq
  refine wpAny_call (codeAny_mono (F.run A X.stack s H ⟨[.ref a, .ref b], []⟩ [.ref a, .ref b] [.ref a, .ref b] Q E0 hr e0 (hb s [.ref a, .ref b] I.kIn hl) (.cons rfl (.cons rfl .nil)) hq) fun r s' z => ?_)
  cases r with
  | error e => exact (pass0 (X := X)) pins σ H s e s' I z
  | ok fl =>
    cases fl with
    | ret u => exact I.after z
    | next => exact z.elim
    | brk => exact z.elim
    | cont => exact z.elim
/-- the class has its own == and no != -/
structure EqM (K : PySem.W.Frag) (C : Addr) : Prop where
  ne : PySem.W.findIn K (.ref C) "__ne__" = some (some (.builtin "object.__ne__"))
  mr : PySem.W.mroIn K C (.type "object") = some true
theorem op_eqO (O : OkS X.prog X.w X.K X.mg X.base C "__eq__" k ps sp) (hr : Room k X.A) : OpR X (compareOp .Eq) (rEqO C sp false) := by
  intro pins s σ H x y v u Q I rx ry h
  obtain ⟨a, b, dx, dy, fs, gs, rfl, rfl, ha, hb2, hq⟩ := h
  obtain ⟨f, fd, M, F, hb⟩ := O.ex
  cases rx
  cases ry
  obtain ⟨mA, O2, _⟩ := ins_get I.hok ha
  obtain ⟨mB, O3, _⟩ := ins_get I.hok hb2
  obtain ⟨od, J, _⟩ := O2.look
  obtain ⟨od', J', _⟩ := O3.look
  obtain ⟨m, hF⟩ := I.fr
  refine PySem.W.cmp_ofEq (PySem.W.cmp_K (op := .Eq) (tb := .ref C) (by have := hr.un; omega) hF I.ok.mod.kin J J'.type (by simp [PySem.W.notFirst]) M.fnd M.isf (wpAny_mono (run_in2 F hr I.env0 hb I hq) (fun r s' z => ?_) fun _ _ z => z))
  obtain ⟨v, H', I', rv, c, ev, q⟩ := z
  subst ev
  have er : r = Value.bool c := rv
  subst er
  exact ⟨.bl c, H', I', rfl, q⟩
theorem op_neO (O : OkS X.prog X.w X.K X.mg X.base C "__eq__" k ps sp) (N : EqM X.K C) (hr : Room (k + 1) X.A) : OpR X (compareOp .NotEq) (rEqO C sp true) := by
  intro pins s σ H x y v u Q I rx ry h
  obtain ⟨a, b, dx, dy, fs, gs, rfl, rfl, ha, hb2, hq⟩ := h
  obtain ⟨f, fd, M, F, hb⟩ := O.ex
  cases rx
  cases ry
  obtain ⟨mA, O2, _⟩ := ins_get I.hok ha
  obtain ⟨mB, O3, _⟩ := ins_get I.hok hb2
  obtain ⟨od, J, _⟩ := O2.look
  obtain ⟨od', J', _⟩ := O3.look
  refine PySem.W.cmp_ofNotEq (TmN.ne_own (by have := hr.un; omega) (by have := hr.un; show X.A.units + 1 < _; omega) I.kIn J J' N.ne N.mr M.fnd M.isf (wpAny_mono (run_in2 F hr.in1 I.env0.in1 hb I hq) (fun r s' z => ?_) fun _ _ z => z))
  obtain ⟨v, H', I', rv, c, ev, q⟩ := z
  subst ev
  have er : r = Value.bool c := rv
  subst er
  exact ⟨c, rfl, ⟨.bl (!c), H', I', rfl, q⟩⟩
end
end Tm

/-! Tables compared. -/
namespace Tm
open PySem PySem.Spec PyProof.Rows L2
/-! ### rows as data -/
def pD (p : Int × Int) : PyData := .tuple [.int p.1, .int p.2]
def rD (r : Row) : PyData := .tuple (r.map pD)
theorem dp_pair {K : PySem.W.Frag} {H : Hp} {v : V} {p : Int × Int} (h : PairV H v p) : Dp K H v (pD p) := by
  obtain ⟨a, rfl, h⟩ := h
  exact .tup (SqT.of h) (.cons (.int _) (.cons (.int _) .nil))
theorem dp_pairs {K : PySem.W.Frag} {H : Hp} : ∀ {vs : List V} {r : Row}, Paired (PairV H) vs r → DpAll K H vs (r.map pD)
  | _, _, .nil => .nil
  | _, _, .cons h t => .cons (dp_pair h) (dp_pairs t)
theorem dp_row {K : PySem.W.Frag} {H : Hp} {v : V} {r : Row} (h : RowV H v r) : Dp K H v (rD r) := by
  obtain ⟨a, vs, rfl, h1, h2⟩ := h
  exact .tup (SqT.of h1) (dp_pairs h2)
theorem can_pairs : ∀ r : Row, PyData.canLayAll0 (r.map pD) = true
  | [] => rfl
  | p :: r => by
    show (PyData.canLay0 (pD p) && PyData.canLayAll0 (r.map pD)) = true
    rw [can_pairs r]
    rfl
theorem depth_pairs : ∀ r : Row, PyData.depthAll (r.map pD) ≤ 1
  | [] => Nat.zero_le _
  | p :: r => by
    show max (PyData.depth (pD p)) (PyData.depthAll (r.map pD)) ≤ 1
    exact Nat.max_le.mpr ⟨Nat.le_refl 1, depth_pairs r⟩
theorem shaped_row (r : Row) : SeqAt.shaped (rD r) = true := by
  have h1 : PyData.canLay0 (rD r) = true := can_pairs r
  have h2 : PyData.depth (rD r) ≤ 64 := by
    show PyData.depthAll (r.map pD) + 1 ≤ 64
    have := depth_pairs r
    omega
  unfold SeqAt.shaped
  rw [h1, decide_eq_true h2]
  rfl
theorem eqv_pD (p q : Int × Int) : PyData.eqv (pD p) (pD q) = decide (p = q) := by
  show (PyData.eqv (.int p.1) (.int q.1) && (PyData.eqv (.int p.2) (.int q.2) && true)) = _
  show ((p.1 == q.1) && ((p.2 == q.2) && true)) = _
  obtain ⟨a, b⟩ := p
  obtain ⟨c, d⟩ := q
  rw [Bool.eq_iff_iff]
  simp
theorem eqv_pairs : ∀ r s : Row, PyData.eqvAll (r.map pD) (s.map pD) = decide (r = s)
  | [], [] => rfl
  | [], _ :: _ => by simp [PyData.eqvAll]
  | _ :: _, [] => by simp [PyData.eqvAll]
  | p :: r, q :: s => by
    show (PyData.eqv (pD p) (pD q) && PyData.eqvAll (r.map pD) (s.map pD)) = _
    rw [eqv_pD, eqv_pairs r s, Bool.eq_iff_iff]
    simp
theorem eqv_row (r s : Row) : PyData.eqv (rD r) (rD s) = decide (r = s) := eqv_pairs r s
theorem row_det {H : Hp} {v : V} {r s : Row} (h : RowV H v r) (k : RowV H v s) : r = s := by
  have e : ∀ {vs : List V} {r s : Row}, Paired (PairV H) vs r → Paired (PairV H) vs s → r = s := by
    intro vs
    induction vs with
    | nil =>
      intro r s h k
      cases h
      cases k
      rfl
    | cons v vs ih =>
      intro r s h k
      cases h with
      | cons h1 h2 =>
        cases k with
        | cons k1 k2 =>
          obtain ⟨a, rfl, e1⟩ := h1
          obtain ⟨b, eb, e2⟩ := k1
          cases eb
          rw [e1] at e2
          simp only [Option.some.injEq, HO.tup.injEq, List.cons.injEq, V.int.injEq, and_true] at e2
          rw [Prod.ext e2.1 e2.2, ih h2 k2]
  obtain ⟨a, vs, rfl, h1, h2⟩ := h
  obtain ⟨b, ws, eb, k1, k2⟩ := k
  cases eb
  rw [h1] at k1
  cases k1
  exact e h2 k2
/-! ### tables compared -/
def sameT (t u : Tab) : Bool := decide (t.length = u.length) && t.all fun e => decide (e ∈ u)
section
variable {X : Cx} {pins : List (Addr × Obj)} {σ : L2.St} {H : Hp} {s : Shared}
theorem row_eqAt (I : Inv X pins σ H s) {A : Around} (hu : A.units + 64 < cLine) {x y : V} {r q : Row} {v u : Value} (hx : RowV H x r) (hy : RowV H y q) (rx : RelV x v) (ry : RelV y u) : SeqAt.EqAt A s v u (decide (r = q)) := by
  obtain ⟨as, r1⟩ := Dp.reads I (rD r) x v (dp_row hx) rx
  obtain ⟨bs, r2⟩ := Dp.reads I (rD q) y u (dp_row hy) ry
  obtain ⟨a, _, ea, _⟩ := id hx
  obtain ⟨b, _, eb, _⟩ := id hy
  subst ea eb
  cases rx
  cases ry
  by_cases g : a = b
  · subst g
    rw [row_det hx hy, decide_eq_true rfl]
    exact SeqAt.EqAt.same _
  · refine SeqAt.EqAt.of_refs g fun prog w E Q hq => ?_
    refine SeqAt.compareEq_shaped r1 r2 (shaped_row r) (shaped_row q) hu ?_
    rw [eqv_row]
    exact hq
theorem tab_hits (I : Inv X pins σ H s) {A : Around} (hu : A.units + 64 < cLine) {kb : List (L2.Key × V)} {vb : List (L2.Key × Value)} {u : Tab} (rb : KV kb vb) (hb : TabV H kb u) (nd : (namesT u).Nodup) :
    ∀ {ka : List (L2.Key × V)} {va : List (L2.Key × Value)} {t : Tab}, KV ka va → TabV H ka t → PySem.W.KeqHits A s vb va (t.all fun e => decide (e ∈ u))
  | _, _, _, .nil, .nil => .nil
  | _, q :: _, e :: t, .cons r1 ra, .cons h1 ht => by
    obtain ⟨k1, v1⟩ := r1
    obtain ⟨h1, h2⟩ := h1
    obtain ⟨key, v⟩ := q
    have ek : key = Sum.inr e.1 := (show key = _ from k1.symm).trans h1
    subst ek
    have ih := tab_hits I hu rb hb nd ra ht
    show PySem.W.KeqHits A s vb ((Sum.inr e.1, v) :: _) (decide (e ∈ u) && t.all fun e => decide (e ∈ u))
    have rr : RelO (valV kb (Sum.inr e.1)) (valueAt vb (Sum.inr e.1)) := rb.val _
    by_cases g : e.1 ∈ namesT u
    · obtain ⟨⟨x, row⟩, hm, ex⟩ := List.mem_map.mp g
      have ex2 : x = e.1 := ex
      subst ex2
      obtain ⟨y, hy, hrow⟩ := tab_look hb nd hm
      rw [hy] at rr
      obtain ⟨z, hz, rz⟩ := rr.some_of
      have ed : decide (e ∈ u) = decide (e.2 = row) := decide_eq_decide.mpr ⟨fun me => row_unique nd (x := e.1) me hm, fun er => by rw [← er] at hm; exact hm⟩
      rw [ed]
      exact .hit hz (row_eqAt I hu h2 hrow v1 rz) ih
    · have hn : valV kb (Sum.inr e.1) = none := by
        have := tab_isSome e.1 hb
        rw [decide_eq_false g] at this
        cases hv : valV kb (Sum.inr e.1) with
        | none => rfl
        | some _ => rw [hv] at this; cases this
      rw [hn] at rr
      have hz : valueAt vb (Sum.inr e.1) = none := by
        cases hv : valueAt vb (Sum.inr e.1) with
        | none => rfl
        | some _ => rw [hv] at rr; exact rr.elim
      have ed : decide (e ∈ u) = false := decide_eq_false fun me => g (List.mem_map.mpr ⟨e, me, rfl⟩)
      rw [ed]
      exact .miss hz
end
section
variable {X : Cx}
def rTabs (neg : Bool) : R2 := fun x y H Q => ∃ a b ka kb t u, x = .ref a ∧ y = .ref b ∧ H a = some (.dK ka) ∧ H b = some (.dK kb) ∧ TabV H ka t ∧ TabV H kb u ∧ (namesT u).Nodup ∧ Q (.bl (if neg then !sameT t u else sameT t u)) H
theorem op_eqTab (hu : X.A.units + 65 < cLine) : OpR X (compareOp .Eq) (rTabs false) := by
  intro pins s σ H x y v w Q I rx ry h
  obtain ⟨a, b, ka, kb, t, u, rfl, rfl, ea, eb, ht, hu', nd, q⟩ := h
  cases rx
  cases ry
  obtain ⟨_, ya, va, ra, da⟩ := (show ObjOk X.prog X.w H s.heap a (.dK ka) from I.hok a _ ea)
  obtain ⟨_, yb, vb, rb, db⟩ := (show ObjOk X.prog X.w H s.heap b (.dK kb) from I.hok b _ eb)
  have hl : va.length = t.length := by rw [← ra.length]; exact Paired.length ht
  have hl2 : vb.length = u.length := by rw [← rb.length]; exact Paired.length hu'
  exact PySem.W.keq_eq (knd := mixKind X.prog X.w) ya yb da db (by omega) (fun _ => tab_hits I (A := X.A.in1) (by show X.A.units + 1 + 64 < _; omega) rb hu' nd ra ht) (fin_bl I q (by
    unfold sameT
    rw [hl, hl2, Bool.eq_iff_iff]
    simp))
theorem op_neTab (hu : X.A.units + 65 < cLine) : OpR X (compareOp .NotEq) (rTabs true) := by
  intro pins s σ H x y v w Q I rx ry h
  obtain ⟨a, b, ka, kb, t, u, rfl, rfl, ea, eb, ht, hu', nd, q⟩ := h
  cases rx
  cases ry
  obtain ⟨_, ya, va, ra, da⟩ := (show ObjOk X.prog X.w H s.heap a (.dK ka) from I.hok a _ ea)
  obtain ⟨_, yb, vb, rb, db⟩ := (show ObjOk X.prog X.w H s.heap b (.dK kb) from I.hok b _ eb)
  have hl : va.length = t.length := by rw [← ra.length]; exact Paired.length ht
  have hl2 : vb.length = u.length := by rw [← rb.length]; exact Paired.length hu'
  exact PySem.W.keq_ne (knd := mixKind X.prog X.w) ya yb da db (by omega) (fun _ => tab_hits I (A := X.A.in1) (by show X.A.units + 1 + 64 < _; omega) rb hu' nd ra ht) (fin_bl I q (by
    unfold sameT
    rw [hl, hl2, Bool.eq_iff_iff]
    simp))
end
end Tm

/-! sep.join(d), d a dict of texts. -/
namespace TmJ
open PySem PySem.Spec PyProof.Rows PySem.Builtin
theorem no_len : typeLookup (.type "dict_keyiterator") "__len__" = pure none := by rw [typeLookup_type, builtinLookup_eq_fast]; kernel_rfl
theorem has_hint : typeLookup (.type "dict_keyiterator") "__length_hint__" = pure (some (.builtin "dict_keyiterator.__length_hint__")) := by rw [typeLookup_type, builtinLookup_eq_fast]; kernel_rfl
section
variable {prog : Program} {w : World} {A : Around} {E : Value → Shared → Prop} {s : Shared} {J : Addr} {fp wr : List Addr} {G : Array GenState → Array GenState → Prop} {n : Nat} {Pi : Nat → Value → Prop} {St : Nat → Shared → Prop}
abbrev newL : Obj := { cls := .type "list", data := .seq ([] : List Value).toArray }
theorem gather_keys {Q : List Value → Shared → Prop} (W : WalksS prog w A.in1 J fp wr G n Pi St) (ty : ∀ i s, St i s → s.TypeIs (.ref J) "dict_keyiterator") (st0 : St 0 s) (below : ∀ b ∈ fp, b < s.heap.objs.size) (own : J ∈ fp) (hn : n ≤ sizeLine)
    (hq : ∀ s2 got, Moved wr G s s2 → ItemsOf Pi got n → Q got.toList s2) : wpAny (model prog w) A (collect (.ref J)) Q E s := by
  have out : s.heap.objs.size ∉ fp := fun m => absurd (below _ m) (Nat.lt_irrefl _)
  have apart : s.heap.objs.size ≠ J := fun e => out (by rw [e]; exact own)
  unfold collect
  refine wpAny_bind (wpAny_runValue (codeAny_builtin F.entry_proto_collect ?_))
  rw [Around.under_plainId F.plain_proto_collect _]
  show wpAny _ A.in1 (newList [] >>= fun L => again (.builtin "list.__iadd__" ⟨[L, .ref J], []⟩)) _ _ s
  refine wpAny_bind (wpAny_newObj_type (wpAny_pure ⟨plainId_quiet F.plain_list_iadd _, codeAny_builtin F.entry_list_iadd ?_⟩))
  rw [Around.under_plainId F.plain_list_iadd _]
  have st1 := W.frame 0 s (s.heap.push newL) s.toks st0 (Nat.le_refl _) fun b _ o e => Heap.get?_push_of_some _ e
  have at1 : (s.heap.push newL).get? s.heap.objs.size = some newL := Heap.get?_push_size _ rfl
  have ns : List.listSameRef (.ref s.heap.objs.size) (.ref J) = false := by simp [List.listSameRef, apart]
  show wpAny _ A.in1 (List.listExtendWith (.ref s.heap.objs.size) (.ref J) (.ref s.heap.objs.size)) _ _ _
  unfold List.listExtendWith
  refine wpAny_bind (wpAny_typeOf (ty 0 _ st1) ?_)
  rw [if_neg (by rw [ns]; decide)]
  refine wpAny_bind (W.self 0 _ _ _ st1 (wpAny_bind (wpAny_holding ?_)))
  unfold List.listLengthHint
  refine wpAny_bind (wpAny_specialOf (ty 0 _ st1) no_len ?_)
  show wpAny _ A.in1 (specialOf (Value.ref J) (Str.ofString "__length_hint__") >>= _) _ _ _
  refine wpAny_bind (wpAny_specialOf (ty 0 _ st1) has_hint ?_)
  generalize hx : ("dict_keyiterator.__length_hint__" : String) = x0
  (fail_if_success (clear hx x0))
  wp_delta
  rw [show splitId x0 = some ("dict_keyiterator", "__length_hint__") from by subst hx; decide +kernel]
  subst hx
  refine wpAny_bind (wpAny_isInstance (b := true) (ty 0 _ st1) (by rw [isSubtype_type]; kernel_rfl) (wpAny_pure ?_))
  rw [if_neg (by decide)]
  refine wpAny_pure ⟨plainId_quiet F.plain_extend_loop _, codeAny_extend_loopS W hn _ out _ n 0 _ _ _ rfl (Nat.zero_le _) st1 at1 (ItemsOf.nil Pi) fun s2 got c mv at2 it => ?_⟩
  show wpAny _ A (load s.heap.objs.size >>= _) _ _ s2
  exact wpAny_bind (wpAny_load at2 (wpAny_pure (hq s2 got (Moved.drop_new (o := newL) (tk := s.toks) mv (Nat.le_refl _)) it)))
end
end TmJ
namespace TmJ
open PySem PySem.Spec PyProof.Rows PySem.Builtin
section
variable {prog : Program} {w : World} {A : Around} {E : Value → Shared → Prop} {s : Shared} {x : Str} {t : Tok} {d : Addr} {kvs : List (L2.Key × Value)} {ep : Nat}
theorem join_dict {Q : Value → Shared → Prop} (hh : A.handled = none) (hd : (d == sysModules) = false) (hm : s.heap.DictAt (L2.mixKind prog w) d kvs ep) (hn : kvs.length ≤ sizeLine) (ys : List Str)
    (hv : ∀ got : List Value, got.length = kvs.length → (∀ (i : Nat) (v : Value), got[i]? = some v → ∃ k x, kvs[i]? = some (k, x) ∧ (L2.mixKind prog w).is k v = true) → StrsAre got ys)
    (hok : (ys.map (·.length)).sum + ys.length * x.length ≤ 16777216) (hq : ∀ (h' : Heap) (t' : Tok) (k : Nat), (∀ b o, s.heap.get? b = some o → h'.get? b = some o) → Q (.str (Txt.join x ys) t') { s with heap := h', toks := k }) :
    wpAny (model prog w) A (call (.builtin "str.join") [.str x t, .ref d]) Q E s := by
  have dty : s.TypeIs (.ref d) "dict" := hm.dictOf.typeIs
  have hlt : d < s.heap.objs.size := by
    obtain ⟨o, es, ho, _⟩ := id hm
    exact Heap.lt_size ho
  have hne : d ≠ s.heap.objs.size := Nat.ne_of_lt hlt
  refine wpAny_call (codeAny_call_builtin F.slot_str_join.plain F.entry_str_join (F.slot_str_join.check _ _ _ _ _ _ _ _ (typeIs_str _ _ _) (F.args_str_join_2 _ _) ?_))
  rw [join_tree_other]
  refine wpAny_bind (wpAny_typeOf dty ?_)
  show wpAny _ A.in1 ((pyIter (.ref d)).tryCatch _ >>= fun it => collect it >>= fun items => joinTail x items) _ _ s
  refine wpAny_bind (wpAny_tryCatch (wpAny_pyIter_dict hd hm ?_))
  have W := (Walks.dictKeys (knd := L2.mixKind prog w) (A := A.in1.in1) hh s.heap.objs.size d hne kvs ep).toS
  refine wpAny_bind (gather_keys W (fun i s st => st.1.typeIs) ⟨⟨_, Heap.get?_push_size _ rfl, rfl, rfl⟩, hm.push _⟩ (fun b hb => ?_) List.mem_cons_self hn fun s2 got mv hg => ?_)
  · have hsz : ∀ o : Obj, (s.heap.push o).objs.size = s.heap.objs.size + 1 := fun o => by simp [Heap.push]
    rw [hsz]
    rcases List.mem_cons.mp hb with z | z
    · rw [z]
      exact Nat.lt_succ_self _
    · rw [List.mem_singleton.mp z]
      exact Nat.lt_succ_of_lt hlt
  · obtain ⟨L, hL, hy⟩ := strsAre_values (hv got.toList (by rw [Array.length_toList]; exact hg.1) fun i v e => hg.2 i v (by rw [← Array.getElem?_toList]; exact e))
    subst hy
    rw [hL]
    have fit := joinOk_of hok
    unfold JoinOk at fit
    rw [Bool.not_eq_true'] at fit
    have g : Gives (joinTail x (strValues L)) (joinMade x L) := by
      have g0 := gives_joinTail x L fit
      cases L with
      | nil => exact g0
      | cons p r => cases r with
        | nil => exact g0
        | cons q r' => exact g0
    have es : s2 = { s with heap := s2.heap, toks := s2.toks } := by
      obtain ⟨h2, g2, d2, t2, o2⟩ := s2
      have e1 : g2 = s.gens := mv.gens
      have e2 : d2 = s.drawn := mv.drawn
      have e3 : o2 = s.os := mv.os
      rw [e1, e2, e3]
    have keep : ∀ b o, s.heap.get? b = some o → s2.heap.get? b = some o := fun b o e => mv.heap b o (fun hb => by
      rw [List.mem_singleton.mp hb] at e
      exact absurd (Heap.lt_size e) (Nat.lt_irrefl _)) (Heap.get?_push_of_some _ e)
    refine g prog w A (wants Q E) s2 (post_join L ⟨joinFit_length fit, fun t' k => ?_⟩)
    rw [es]
    exact hq s2.heap t' k keep
end
end TmJ
namespace Tm
open PySem PySem.Spec PyProof.Rows L2
/-- sep.join(d) -/
theorem mt_joinD {X : Cx} (hc : X.calm = true := by rfl) : MtR X "str.join" (fun x xs H Q => ∃ (a : Str) (d : Addr) (kvs : List (L2.Key × V)) (ys : List Str), x = .str a ∧ xs = [.ref d] ∧ H d = some (.dK kvs) ∧ kvs.map (·.1) = ys.map Sum.inr ∧
    (ys.map (·.length)).sum + ys.length * a.length ≤ 16777216 ∧ Q (.str (Txt.join a ys)) H) := by
  intro pins s σ H x xs v us Q I rx rs h
  obtain ⟨a, d, kvs, ys, rfl, rfl, hd, hk, hz, q⟩ := h
  obtain ⟨t, rfl⟩ := rx
  rw [Vals.ref1 rs]
  obtain ⟨hl, sys, vs, kv, hdo⟩ := I.hok d _ hd
  obtain ⟨ep, hat⟩ := hdo.dictAt
  have lk : kvs.length = vs.length := Paired.length kv
  refine TmJ.join_dict (I.ok.hd hc) sys hat (by rw [← lk]; exact hl) ys (fun got hg hi => ?_) hz fun h' t' k keep => ⟨.str _, H, I.kept keep, ⟨t', rfl⟩, q⟩
  have ev : (kvs.map fun e => kV e.1) = ys.map V.str := by
    have e1 := congrArg (List.map kV) hk
    rw [List.map_map, List.map_map] at e1
    exact e1
  have r := vals_keys kv got hg hi
  rw [ev] at r
  exact strs_of_vals r
end Tm

/-! Kind: size, operations, len, ==, str. -/
namespace Tm
open PySem PySem.Spec PyProof.Rows L2
local macro_rules | `(tactic| walk_at "x") => `(tactic| dsimp only [tNext, tRet, tSeq, tCall, tCB, tC, tCons, tNil, tAsg, tDrop, sFld])
structure DfS (K : PySem.W.Frag) (C : Addr) (m q : Str) (st : Stmt) (ps : List Str) : Prop where
  ex : ∃ (f : Addr) (fd : FuncData), SpM K C m f ∧ Fun K m q st f fd ∧ Binds K fd ps []
section
variable {P : Program} {w : World} {K : PySem.W.Frag} {mg : Str → Option Value} {base : Heap} {C : Addr} {m q x : Str} {st : Stmt} {ps N : List Str} {k : Nat} {sp : Sp}
theorem DfS.ok (D : DfS K C m q st ps) (S : FnScope N ps (defScope st)) (len : ∀ vs H Q E, sp vs H Q E → vs.length = ps.length) (hb : BodyOk P w K mg base q st N k sp) : OkS P w K mg base C m (k + 1) ps sp := by
  obtain ⟨f, fd, h1, h2, h3⟩ := D.ex
  exact ⟨f, fd, h1, h2.ok S len (fun cdv A outer s H vs Q E hr h => hb f cdv A outer s H vs Q E hr h), h3⟩
end
/-- what is true of the class, further -/
structure KcE (K : PySem.W.Frag) (C : Addr) : Prop where
  is_ : PySem.W.kitOne K (.ref C) (.ref C) = some true
  cla : PySem.W.findIn K (.ref C) "__class__" = some (some (.builtin "object.__class__"))
  cg : PySem.W.specialIn K (.builtin "object.__class__") "__get__" = some (some (.builtin "getset_descriptor.__get__"))
  ct : PySem.W.takesIn K (.builtin "object.__class__") = some true
  mr : PySem.W.mroIn K C (.type "object") = some true
section
variable {P : Program} {w : World} {K : PySem.W.Frag} {mg : Str → Option Value} {base : Heap} {C : Addr}
abbrev s_size : Stmt := inClass (top 19) 3
theorem sc_size : FnScope ["self"] ["self"] (defScope s_size) := ⟨rfl, rfl, rfl, by decide +kernel, rfl, by decide +kernel, by decide +kernel⟩
def sp_size (C : Addr) : Sp := fun vs H Q _ => ∃ (v : V) (t : Tab), vs = [v] ∧ KindV C H v t ∧ Q (.int (sizeT t : Int)) H
theorem ok_size (T : Kc K C) (D : DfP K C "size" "Kind.size" s_size) : OkP P w K mg base C "size" 1 (sp_size C) := by
  refine D.ok sc_size (fun vs H Q E h => ?_) (fun f cdv A outer s H vs Q E hr h => ?_)
  · obtain ⟨v, t, rfl, _⟩ := h
    rfl
  · obtain ⟨v, t, rfl, ⟨a, dx, d, kvs, rfl, ha, hd, ht, hok, nd, hst⟩, q⟩ := h
    exact ⟨_, pss_one (ps_ret (pe_fld (pv 0) rfl)), _, rfl, a, C, dx, _, _, rfl, ha, T.cl, T.nS, kf_S _ _, q⟩
abbrev s_ops : Stmt := inClass (top 19) 1
theorem sc_ops : FnScope ["self"] ["self"] (defScope s_ops) := ⟨rfl, rfl, rfl, by decide +kernel, rfl, by decide +kernel, by decide +kernel⟩
def sp_ops (C : Addr) : Sp := fun vs H Q _ => ∃ (v : V) (t : Tab), vs = [v] ∧ KindV C H v t ∧ ∀ p kvs, H p = none → TabV H kvs t → Q (.ref p) (upd H p (.dK kvs))
theorem ok_ops (B : Bt mg) (T : Kc K C) (D : DfP K C "operations" "Kind.operations" s_ops) : OkP P w K mg base C "operations" 1 (sp_ops C) := by
  refine D.ok sc_ops (fun vs H Q E h => ?_) (fun f cdv A outer s H vs Q E hr h => ?_)
  · obtain ⟨v, t, rfl, _⟩ := h
    rfl
  · obtain ⟨v, t, rfl, ⟨a, dx, d, kvs, rfl, ha, hd, ht, hok, nd, hst⟩, q⟩ := h
    refine ⟨_, pss_one (ps_ret (pe_callTy call_dictD (by rfl) B.dict (by decide +kernel) (pa_cons (pe_fld (pv 0) rfl) (pa_nil)))), ?_⟩
    exact ⟨_, rfl, a, C, dx, _, _, rfl, ha, T.cl, T.nT, kf_T _ _, d, kvs, rfl, .inl hd, fun p hp => q p kvs hp ht⟩
abbrev s_klen : Stmt := inClass (top 19) 15
theorem sc_klen : FnScope ["self"] ["self"] (defScope s_klen) := ⟨rfl, rfl, rfl, by decide +kernel, rfl, by decide +kernel, by decide +kernel⟩
def sp_klen (C : Addr) : Sp := fun vs H Q _ => ∃ (v : V) (t : Tab), vs = [v] ∧ KindV C H v t ∧ Q (.int (t.length : Int)) H
theorem ok_klen (B : Bt mg) (T : Kc K C) (D : DfS K C "__len__" "Kind.__len__" s_klen ["self"]) : OkS P w K mg base C "__len__" 1 ["self"] (sp_klen C) := by
  refine D.ok sc_klen (fun vs H Q E h => ?_) (fun f cdv A outer s H vs Q E hr h => ?_)
  · obtain ⟨v, t, rfl, _⟩ := h
    rfl
  · obtain ⟨v, t, rfl, ⟨a, dx, d, kvs, rfl, ha, hd, ht, hok, nd, hst⟩, q⟩ := h
    refine ⟨_, pss_one (ps_ret (pe_callB call_lenD (by rfl) B.len (by decide +kernel) (pa_cons (pe_fld (pv 0) rfl) (pa_nil)))), ?_⟩
    refine ⟨_, rfl, a, C, dx, _, _, rfl, ha, T.cl, T.nT, kf_T _ _, ?_⟩
    have e : (kvs.length : Int) = (t.length : Int) := by rw [Paired.length ht]
    rw [← e] at q
    exact ⟨d, kvs, rfl, hd, q⟩
abbrev s_keq : Stmt := inClass (top 19) 16
theorem sc_keq : FnScope ["self", "other"] ["self", "other"] (defScope s_keq) := ⟨rfl, rfl, rfl, by decide +kernel, rfl, by decide +kernel, by decide +kernel⟩
def sp_keq (C : Addr) : Sp := fun vs H Q _ => ∃ (v u : V) (t s : Tab), vs = [v, u] ∧ KindV C H v t ∧ KindV C H u s ∧ Q (.bl (sameT t s)) H
theorem ok_keq (B : Bt mg) (T : Kc K C) (TE : KcE K C) (gC : mg "Kind" = some (.ref C)) (D : DfS K C "__eq__" "Kind.__eq__" s_keq ["self", "other"]) : OkS P w K mg base C "__eq__" 1 ["self", "other"] (sp_keq C) := by
  refine D.ok sc_keq (fun vs H Q E h => ?_) (fun f cdv A outer s H vs Q E hr h => ?_)
  · obtain ⟨v, u, t, s, rfl, _⟩ := h
    rfl
  · obtain ⟨v, u, t, s', rfl, ⟨a, dx, d, kvs, rfl, ha, hd, ht, hok, nd, hst⟩, ⟨b, dy, e, kvu, rfl, hb, he, hu, hok2, nd2, hst2⟩, q⟩ := h
    have hu65 : (A.deeper (envOfC "Kind.__eq__" (defScope s_keq) s.heap.objs.size f cdv)).units + 65 < cLine := by
      have := hr.un
      omega
    refine ⟨_, pss_one (ps_ret (pe_and (pe_callB (isiK (K := K)) (by rfl) B.isinstance (by decide +kernel) (pa_cons (pv 1) (pa_cons (pe_glob (v := .ref C) (by rfl) gC rfl) (pa_nil)))) (pe_one (pe_cmpR (op_eqTab hu65) (pe_fld (pv 0) rfl) (pe_fld (pv 1) rfl) (nomark _))))), ?_⟩
    refine ⟨_, rfl, _, .ref C, _, _, true, rfl, .own C, .base (.ins hb T.cl TE.cla TE.cg TE.ct TE.mr), TE.is_, _, rfl, ?_⟩
    refine ifT rfl ?_
    exact ⟨_, rfl, a, C, dx, _, _, rfl, ha, T.cl, T.nT, kf_T _ _, _, rfl, b, C, dy, _, _, rfl, hb, T.cl, T.nT, kf_T _ _, d, e, kvs, kvu, t, s', rfl, rfl, hd, he, ht, hu, nd2, q⟩
theorem sum_le8 : ∀ l : List Str, (∀ x ∈ l, x.length ≤ 8) → (l.map (·.length)).sum ≤ 8 * l.length
  | [], _ => Nat.zero_le _
  | x :: l, h => by
    have h1 := h x List.mem_cons_self
    have h2 := sum_le8 l fun y hy => h y (List.mem_cons_of_mem _ hy)
    simp only [List.map_cons, List.sum_cons, List.length_cons]
    omega
theorem dig12 : ∀ n : Nat, n < 13 → (Str.ofString (toString (n : Int))).length ≤ 2 := by decide +kernel
abbrev s_kstr : Stmt := inClass (top 19) 17
theorem sc_kstr : FnScope ["self", "words"] ["self"] (defScope s_kstr) := ⟨rfl, rfl, rfl, by decide +kernel, rfl, by decide +kernel, by decide +kernel⟩
def strT (t : Tab) : Str := ((Str.empty ++ ("kind of " : Str)) ++ (toString (sizeT t : Int) : Str)) ++ (" states: " : Str) ++ Txt.join " " (namesT t)
def sp_kstr (C : Addr) : Sp := fun vs H Q _ => ∃ (v : V) (t : Tab), vs = [v] ∧ KindV C H v t ∧ Q (.str (strT t)) H
theorem ok_kstr (B : Bt mg) (T : Kc K C) (D : DfS K C "__str__" "Kind.__str__" s_kstr ["self"]) : OkS P w K mg base C "__str__" 1 ["self"] (sp_kstr C) := by
  refine D.ok sc_kstr (fun vs H Q E h => ?_) (fun f cdv A outer s H vs Q E hr h => ?_)
  · obtain ⟨v, t, rfl, _⟩ := h
    rfl
  · obtain ⟨v, t, rfl, ⟨a, dx, d, kvs, rfl, ha, hd, ht, hok, nd, hst⟩, q⟩ := h
    refine ⟨_, pss_cons (ps_set (i := 1) sc_kstr.nd rfl (.inl rfl) (pe_bm PySem.F.plainAttrs_str PySem.F.slot_str_join PySem.F.type_str_join mt_joinD (pe_str) (pa_cons (pe_fld (pv 0) rfl) (pa_nil))))
      (pss_one (ps_ret (pe_joined (.cons pe_str (.cons (pe_fmt (pe_fld (pv 0) rfl)) (.cons pe_str (.cons (pe_fmt (pv 1)) .nil))))))), ?_⟩
    have hok' := hok
    unfold okTab at hok'
    simp only [Bool.and_eq_true, decide_eq_true_eq] at hok'
    obtain ⟨⟨⟨⟨k1, k2⟩, k3⟩, k4⟩, k5⟩ := hok'
    have hs : ((namesT t).map (·.length)).sum ≤ 8 * (namesT t).length := sum_le8 _ fun x hx => by
      obtain ⟨e, he, rfl⟩ := List.mem_map.mp hx
      have := List.all_eq_true.mp k5 e he
      simp only [Bool.and_eq_true, okName, decide_eq_true_eq] at this
      exact this.1.1.2
    have hl : (namesT t).length = t.length := List.length_map ..
    have hj : (Txt.join " " (namesT t)).length ≤ 60 := by
      have h1 := StrLaws.join_length_le " " (namesT t)
      have h2 : ((" " : Str)).length = 1 := by decide +kernel
      rw [h2] at h1
      rw [show Txt.join " " (namesT t) = Str.join " " (namesT t) from TL.join_eq _ _]
      exact Nat.le_trans h1 (show ((namesT t).map (·.length)).sum + (namesT t).length * 1 ≤ 60 by omega)
    have hd12 := dig12 (sizeT t) (by omega)
    have l1 : ("kind of " : Str).length = 8 := by decide +kernel
    have l2 : (" states: " : Str).length = 9 := by decide +kernel
    have l0 : (Str.empty).length = 0 := rfl
    refine ⟨rfl, _, rfl, a, C, dx, _, _, rfl, ha, T.cl, T.nT, kf_T _ _, " ", d, kvs, namesT t, rfl, rfl, hd, tabV_keys ht, ?_, ?_⟩
    · have h2 : ((" " : Str)).length = 1 := by decide +kernel
      rw [h2]
      omega
    · refine ⟨"kind of ", rfl, by rw [Str.length_append]; exact sz_le (by omega), _, rfl, a, C, dx, _, _, rfl, ha, T.cl, T.nS, kf_S _ _, .inr ⟨_, rfl, ?_, _, rfl, ?_, " states: ", rfl, ?_, _, rfl, .inl ⟨Txt.join " " (namesT t), rfl, sz_le (Nat.le_trans hj (by decide)), _, rfl, ?_, q⟩⟩⟩
      · have : (sizeT t : Int).natAbs ≤ 12 := by omega
        have h3 : (sizeT t : Int).natAbs.log2 ≤ (sizeT t : Int).natAbs := Nat.log2_le_self _
        omega
      · refine sz_le ?_
        rw [Str.length_append, Str.length_append]
        have h7 : (Str.ofString (toString (sizeT t : Int))).length ≤ 2 := hd12
        show Str.empty.length + ("kind of " : Str).length + (Str.ofString (toString (sizeT t : Int))).length ≤ 100000
        omega
      · refine sz_le ?_
        rw [Str.length_append, Str.length_append, Str.length_append]
        have h7 : (Str.ofString (toString (sizeT t : Int))).length ≤ 2 := hd12
        show Str.empty.length + ("kind of " : Str).length + (Str.ofString (toString (sizeT t : Int))).length + (" states: " : Str).length ≤ 100000
        omega
      · refine sz_le ?_
        rw [Str.length_append, Str.length_append, Str.length_append, Str.length_append]
        have h7 : (Str.ofString (toString (sizeT t : Int))).length ≤ 2 := hd12
        show Str.empty.length + ("kind of " : Str).length + (Str.ofString (toString (sizeT t : Int))).length + (" states: " : Str).length + (Txt.join " " (namesT t)).length ≤ 100000
        omega
end
end Tm

set_option maxHeartbeats 4000000
/-! A tuple times 1; cell_kind(1) too (for k08). -/
namespace Tm
open PySem PySem.Spec PyProof.Rows L2
local macro_rules | `(tactic| walk_at "x") => `(tactic| dsimp only [tNext, tRet, tSeq, tCall, tCB, tC, tCons, tNil, tAsg, tDrop, sFld])
theorem tup_once (a : Addr) (us : Array Value) (k : Nat) (dd : Option Addr) (sl : Array (Option Value)) (t : Tok) (c : (us.isEmpty || (1 : Int) == 1) = true) :
    Meets (Builtin.«tuple.__mul__» ⟨[.ref a, .int 1 t], []⟩) fun _ R s => s.heap.get? a = some { cls := .type "tuple", dict := dd, data := .seq us k, slots := sl } ∧ R (.ok (.ret (.ref a))) s :=
  .of_wp fun P w A R s h => by
    obtain ⟨hp, gs, dr, tk, os⟩ := s
    obtain ⟨at_, q⟩ := h
    have e1 := AutoSeq1.idx_int
    wp_walk using AutoSeq1.wpAny_loadPart' at_
    exact ⟨_, rfl, q⟩
/-- tuple * k, k from 1 on; times 1 is the tuple itself -/
def rRep1 (K : PySem.W.Frag) : R2 := fun x y H Q => ∃ l k xs, x = .ref l ∧ y = .int k ∧ SqT K H l xs ∧ xs ≠ [] ∧ 1 ≤ k ∧ k ≤ 1000 ∧ xs.length ≤ 1000 ∧ (k = 1 → Q (.ref l) H) ∧ (2 ≤ k → ∀ p, H p = none → Q (.ref p) (upd H p (.tup (List.replicate k.toNat xs).flatten)))
theorem op_rep1 {X : Cx} : OpR X (binaryOp .Mult) (rRep1 X.K) := by
  intro pins s σ H x y v u Q I rx ry h
  obtain ⟨l, k, xs, rfl, rfl, sq, ne, lo, hi, few, one, more⟩ := h
  by_cases g : 2 ≤ k
  · exact op_repT pins s σ H (.ref l) (.int k) v u Q I rx ry ⟨l, k, xs, rfl, rfl, sq, ne, g, hi, few, more g⟩
  · have e : k = 1 := by omega
    subst e
    cases rx
    obtain ⟨t, rfl⟩ := ry
    obtain ⟨its, r, ⟨⟨oc, dd, od, sl⟩, at_, c, n, d⟩, _⟩ := I.tuple sq
    dsimp only at c d
    cases c
    cases d
    refine wpAny_binaryOp_repeat_ref (T := "tuple") (U := "int") (by decide) ⟨_, at_, rfl⟩ (fun z => typeIs_int z 1 t) noFill_tuple_mul F.fills_int_mul F.slot_int_rmul repeat_tuple F.slot_int_index.lookup
      (call_meets F.slot_int_rmul (typeIs_int s 1 t) F.entry_int_rmul (F.args_int_rmul_2 _ _) (int_rmul_tuple 1 t l its.toArray n dd sl) ⟨at_, rfl, ⟨_, at_, rfl⟩, call_meets F.slot_tuple_mul ⟨_, at_, rfl⟩ F.entry_tuple_mul (F.args_tuple_mul_2 _ _) (tup_once l its.toArray n dd sl t (Bool.or_true _)) ⟨at_, ?_⟩⟩)
    exact ⟨.ref l, H, I, rfl, one rfl⟩
theorem rep1K {X : Cx} {K : PySem.W.Frag} (hK : X.K = K := by rfl) : OpR X (binaryOp .Mult) (rRep1 K) := by subst hK; exact op_rep1
section
variable {K : PySem.W.Frag} {σ : L2.St} {H : Hp} {ta tb tn : TE}
/-- ((x, y),) * n -/
theorem ev_rep {x y : Int} {n : Nat} (ha : Ev ta σ H fun v _ => v = .int x) (hb : ∀ H1, Same H H1 → Ev tb σ H1 fun v _ => v = .int y) (hn : ∀ H1, Same H H1 → Ev tn σ H1 fun v _ => v = .int (n : Int)) (lo : 1 ≤ n) (hi : n ≤ 1000) :
    Ev (tOp (rRep1 K) (tTup (tCons (tTup (tCons ta (tCons tb tNil))) tNil)) tn) σ H fun v H1 => RowV H1 v (List.replicate n (x, y)) := fun Q q =>
  have k : tTup (tCons ta (tCons tb tNil)) σ H (fun v H1 => [v].length ≤ sizeLine ∧ ∀ p2, H1 p2 = none → tn σ (upd H1 p2 (.tup [v])) fun u H2 => rRep1 K (.ref p2) u H2 Q) := ev_pair ha hb _ fun v H1 e1 hv => by
    obtain ⟨p, ev, hp⟩ := hv
    subst ev
    refine ⟨by show 1 ≤ sizeLine; decide, fun p2 hp2 => hn _ (e1.trans (same_new hp2)) _ fun u H2 e2 eu => ?_⟩
    subst eu
    have s2 : Same H1 H2 := (same_new hp2).trans e2
    have h2 : H2 p2 = some (.tup [.ref p]) := e2 _ _ upd_same
    refine ⟨p2, (n : Int), [.ref p], rfl, rfl, SqT.of h2, by simp, by omega, by omega, by simp, fun e => ?_, fun _ p3 hp3 => ?_⟩
    · have en : n = 1 := by omega
      subst en
      exact q _ _ (e1.trans s2) ⟨p2, _, rfl, h2, .cons ⟨p, rfl, s2 _ _ hp⟩ .nil⟩
    · have er : (List.replicate (n : Int).toNat [V.ref p]).flatten = List.replicate n (V.ref p) := by simp
      rw [er]
      have s3 := s2.trans (same_new (o := .tup (List.replicate n (V.ref p))) hp3)
      exact q _ _ (e1.trans s3) ⟨p3, _, rfl, upd_same, paired_rep ⟨p, rfl, s3 _ _ hp⟩ n⟩
  k
end
theorem cell_ok1 : ∀ n, n < 7 → 1 ≤ n → okTab (cellT n) = true ∧ (namesT (cellT n)).Nodup := by decide +kernel
section
variable {P : Program} {w : World} {K : PySem.W.Frag} {mg : Str → Option Value} {base : Heap} {C : Addr}
theorem ok_cell1 (B : Bt mg) (O_need_number : NeedNum P w K mg base) (O_lettered : Lett P w K mg base C) (D : Df K mg "cell_kind" s_cell ["many"]) : Ok P w K mg base "cell_kind" 8 ["many"] (sp_made C 1 6 cellT) := by
  refine D.ok sc_cell_kind (fun vs H Q E h => ?_) (fun f cdv A outer s H vs Q E hr h => ?_)
  · obtain ⟨n, rfl, _⟩ := h
    rfl
  · obtain ⟨n, rfl, h2, h6, q⟩ := h
    have hT := cell_ok1 n (by omega) h2
    refine ⟨_, pss_cons (ps_expr (O_need_number.call hr (ha := pa_cons (pv 0) (pa_cons (pe_int) (pa_cons (pe_int) (pa_nil))))))
      (pss_one (ps_ret (O_lettered.call hr (ha := pa_cons (pe_str) (pa_cons (pe_lc (own := [("value", 1)]) (g := gName 1) (tt := tYes) rfl sc_cell_kind.nd (pi_range1 (by rfl) B.range (pa_cons (pv 0) (pa_nil))) (blkOk_by (own := [("value", 1)]) (N := ["many", "value"]) (sc := defScope s_cell) (by decide +kernel)) (fun _ _ _ _ _ => pg_name (i := 1) sc_cell_kind.nd rfl (.inl rfl)) (fun _ _ _ _ _ => pts_nil) (fun _ _ _ _ _ => pe_op (rep1K (K := K)) (pe_tup (pa_cons (pe_tup (pa_cons (pv 1) (pa_cons (pe_int) (pa_nil)))) (pa_nil))) (pv 0))) (pa_nil)))))), ?_⟩
    refine ⟨_, rfl, n, 1, 6, rfl, by omega, by omega, ?_⟩
    walk_at "x"
    refine lcR_go (n := n) (fun Q q => ⟨_, rfl, q _ _ (Same.refl _) rfl⟩) (by omega) (fun i v H => RowV H v (List.replicate n ((i : Int), (0 : Int)))) (by intro _; rfl) (fun z v H H' e h => h.mono e) (fun i H1 hi e => ?_) fun p H1 ys e hl hP => ?_
    · exact ev_rep (ev_is rfl rfl) (fun _ _ => ev_c rfl) (fun _ _ => ev_is rfl rfl) h2 (by omega)
    · exact ⟨"put", p, ys, _, rfl, hl, paired_mapR _ hP, by decide, hT.1, hT.2, fun v H' t' e' hk pm => q v H' t' (e.trans e') hk pm⟩
end
end Tm

set_option maxHeartbeats 2000000
/-! A lambda without parameters that keeps one name of the def that made it, called when that def is over: the cell is tracked from the def's end on. -/
namespace TmC
open PySem PySem.Spec PyProof.Rows L2 LamX NdefX
structure LamK where
  qual : Str
  params : Arguments
  body : Expr
  scope : Scope
  cl : List (Str × Addr)
def LamK.nf (F : LamK) (c : Addr) : NF := ⟨"<lambda>", F.qual, F.params, [], F.scope, F.cl, c⟩
abbrev LamK.obj (F : LamK) (pm : Value) (c : Addr) (ctv : Value) : Obj := PySem.W.kla_obj "<lambda>" F.qual F.params F.body F.scope F.cl pm c ctv
def LamO (f c : Addr) (F : LamK) : HO := .ext fun h => ∃ pm ctv : Value, h.get? f = some (F.obj pm c ctv)
def LamAt (H : Hp) (f : Addr) (F : LamK) : Prop := ∃ c, H f = some (LamO f c F) ∧ H c = some (CodeO c F.qual)
theorem lamO_ne {f c : Addr} {F : LamK} (ps : Array Value) : LamO f c F ≠ .tbl ps := fun z => by
  unfold LamO at z
  cases z
theorem lamO_nl {f c : Addr} {F : LamK} (xs : List V) : LamO f c F ≠ .lst xs := fun z => by
  unfold LamO at z
  cases z
theorem codeO_nl {c : Addr} {q : Str} (xs : List V) : CodeO c q ≠ .lst xs := fun z => by
  unfold CodeO at z
  cases z
theorem LamAt.obj {P : Program} {w : World} {H : Hp} {h : Heap} {f : Addr} {F : LamK} (hok : HOk P w H h) (a : LamAt H f F) : ∃ (c : Addr) (pm ctv : Value), h.get? f = some (F.obj pm c ctv) ∧ h.CodeRec (.ref c) F.qual := by
  obtain ⟨c, a1, a2⟩ := a
  obtain ⟨⟨pm, ctv, z⟩, _, _⟩ := hok f _ a1
  exact ⟨c, pm, ctv, z, codeO_at hok a2⟩
theorem LamAt.ext {H H' : Hp} {f : Addr} {F : LamK} (a : LamAt H f F) (e : ExtN H H') : LamAt H' f F := by
  obtain ⟨c, a1, a2⟩ := a
  exact ⟨c, e _ _ a1 lamO_ne, e _ _ a2 codeO_ne⟩
/-- the cell at c holds v, and will -/
def CellO (c : Addr) (v : V) : HO := .ext fun h => ∃ u, L2.RelV v u ∧ h.IsCell c (some u)
theorem cellO_ne {c : Addr} {v : V} (ps : Array Value) : CellO c v ≠ .tbl ps := fun z => by
  unfold CellO at z
  cases z
theorem cellO_own {c : Addr} {v : V} (y : Addr) : CellO c v ≠ .own y := fun z => by
  unfold CellO at z
  cases z
theorem cellO_tup {c : Addr} {v : V} (xs : List V) : CellO c v ≠ .tup xs := fun z => by
  unfold CellO at z
  cases z
theorem cellO_frz {c : Addr} {v : V} (o : Obj) (u : HO) : CellO c v ≠ .frz o u := fun z => by
  unfold CellO at z
  cases z
theorem cellO_lst {c : Addr} {v : V} (xs : List V) : CellO c v ≠ .lst xs := fun z => by
  unfold CellO at z
  cases z
def delH (H : Hp) (c : Addr) : Hp := fun b => if b = c then none else H b
theorem delH_same {H : Hp} {c : Addr} : delH H c c = none := by
  unfold delH
  rw [if_pos rfl]
theorem delH_ne {H : Hp} {b c : Addr} (h : b ≠ c) : delH H c b = H b := by
  unfold delH
  rw [if_neg h]
theorem delH_none {H : Hp} {b c : Addr} (h : H b = none) : delH H c b = none := by
  unfold delH
  split
  · rfl
  · exact h
theorem cellO_ok {P : Program} {w : World} {H : Hp} {h : Heap} {c : Addr} {v : V} {u : Value} (r : L2.RelV v u) (i : h.IsCell c (some u)) : ObjOk P w H h c (CellO c v) := by
  refine ⟨⟨u, r, i⟩, ?_, fun h1 h2 ⟨u', r', o, e1, e2⟩ st => ⟨u', r', o, st _ e1, e2⟩⟩
  obtain ⟨o, e1, _⟩ := i
  exact ⟨o, e1⟩
theorem hok_del {P : Program} {w : World} {H : Hp} {h : Heap} {c : Addr} {v : V} (x : HOk P w H h) (hc : H c = some (CellO c v)) : HOk P w (delH H c) h := fun b o e => by
  have hb : b ≠ c := fun z => by
    rw [z, delH_same] at e
    cases e
  rw [delH_ne hb] at e
  refine (x b o e).stay (fun _ _ _ q => q) (fun d q => ?_) fun d xs q => ?_
  · have hd : d ≠ c := fun z => by
      rw [z, hc] at q
      exact cellO_own _ (Option.some.inj q)
    rw [delH_ne hd]
    exact q
  · have hd : d ≠ c := fun z => by
      rw [z, hc] at q
      exact cellO_tup _ (Option.some.inj q)
    rw [delH_ne hd]
    exact q
theorem hok_put {P : Program} {w : World} {H : Hp} {h : Heap} {c : Addr} {v : V} {u : Value} (x : HOk P w H h) (hc : H c = none) (r : L2.RelV v u) (i : h.IsCell c (some u)) : HOk P w (upd H c (CellO c v)) h := fun b o e => by
  by_cases hb : b = c
  · rw [hb, upd_same] at e
    cases e
    rw [hb]
    exact cellO_ok r i
  · rw [upd_ne hb] at e
    refine (x b o e).stay (fun _ _ _ q => q) (fun d q => ?_) fun d xs q => ?_
    · rw [upd_ne (ne_of_none q hc)]
      exact q
    · rw [upd_ne (ne_of_none q hc)]
      exact q
section
variable {P : Program} {w : World} {K : PySem.W.Frag} {mg : Str → Option Value} {base : Heap} {A : Around} {outer : List Env} {s : Shared} {H : Hp} {c : Addr} {v : V}
theorem env0_del (e0 : Env0 P w K mg base A outer s H) (hc : H c = some (CellO c v)) : Env0 P w K mg base A outer s (delH H c) :=
  ⟨e0.frames, e0.mod, fun b o e => ⟨(e0.bs b o e).1, delH_none (e0.bs b o e).2⟩, e0.bsz, e0.funs, fun b hb => delH_none (e0.frf b hb), hok_del e0.hok hc, e0.bare⟩
theorem un_put {fs : List Addr} {H' : Hp} {h h' : Heap} (un : Un fs [] (delH H c) H' h h') (hc : H c = some (CellO c v)) (hn : H' c = none) : Un fs [] H (upd H' c (CellO c v)) h h' where
  keep := fun b o q n hb hx => un.keep b o q (delH_none n) hb hx
  slot := fun b o q n hb hx => un.slot b o q (delH_none n) hb hx
  free := fun b o q n hx => by
    have hb : b ≠ c := fun z => by
      rw [z, hc] at n
      cases n
    rw [upd_ne hb]
    exact un.free b o q (delH_none n) hx
  there := fun b o q hx => un.there b o q hx
  tups := fun b xs q => by
    have hb : b ≠ c := fun z => by
      rw [z, hc] at q
      exact cellO_tup _ (Option.some.inj q)
    rw [upd_ne hb]
    exact un.tups b xs (by rw [delH_ne hb]; exact q)
  frzs := fun b o u q => by
    have hb : b ≠ c := fun z => by
      rw [z, hc] at q
      exact cellO_frz _ _ (Option.some.inj q)
    rw [upd_ne hb]
    exact un.frzs b o u (by rw [delH_ne hb]; exact q)
  tbls := fun b ps q => by
    have hb : b ≠ c := fun z => by
      rw [z, hc] at q
      exact cellO_ne _ (Option.some.inj q)
    rw [upd_ne hb]
    exact un.tbls b ps (by rw [delH_ne hb]; exact q)
theorem ub_put {fs : List Addr} {H' : Hp} {h B h' : Heap} (un : UB fs (delH H c) H' h B h') (hc : H c = some (CellO c v)) (hn : H' c = none) : UB fs H (upd H' c (CellO c v)) h B h' where
  keep := fun b o q n hb => un.keep b o q (delH_none n) hb
  slot := fun b o q hb => un.slot b o q hb
  free := fun b o q n => by
    have hb : b ≠ c := fun z => by
      rw [z, hc] at n
      cases n
    rw [upd_ne hb]
    exact un.free b o q (delH_none n)
  there := fun b o q hx => un.there b o q hx
  tups := fun b xs q => by
    have hb : b ≠ c := fun z => by
      rw [z, hc] at q
      exact cellO_tup _ (Option.some.inj q)
    rw [upd_ne hb]
    exact un.tups b xs (by rw [delH_ne hb]; exact q)
  frzs := fun b o u q => by
    have hb : b ≠ c := fun z => by
      rw [z, hc] at q
      exact cellO_frz _ _ (Option.some.inj q)
    rw [upd_ne hb]
    exact un.frzs b o u (by rw [delH_ne hb]; exact q)
  tbls := fun b ps q => by
    have hb : b ≠ c := fun z => by
      rw [z, hc] at q
      exact cellO_ne _ (Option.some.inj q)
    rw [upd_ne hb]
    exact un.tbls b ps (by rw [delH_ne hb]; exact q)
/-- the cell is put back behind a call that did not track it -/
theorem cr_put {Q : VK} {E : XK} {r : Result} {s' : Shared} (e0 : Env0 P w K mg base A outer s H) (hc : H c = some (CellO c v))
    (h : CR (L2.CX P w) outer P w (delH H c) s (fun x H' => H' c = none → Q x (upd H' c (CellO c v))) (fun cls d H' => H' c = none → E cls d (upd H' c (CellO c v))) r s') : CR (L2.CX P w) outer P w H s Q E r s' := by
  obtain ⟨⟨u, ru, oc, ho, hd⟩, _, _⟩ := e0.hok c _ hc
  have nf : c ∉ frs outer := fun z => by
    have q := e0.frf c z
    rw [hc] at q
    cases q
  cases r with
  | error e =>
    obtain ⟨a, B, H', cls, d, ea, fly, hok, ub, na, os, bare, q⟩ := h
    have kb := ub.keep c oc ho delH_same nf
    have hn := ub.free c oc ho delH_same
    have nac : a ≠ c := fun z => by
      have q := fly.2.1
      rw [z, kb] at q
      cases q
    exact ⟨a, B, _, cls, d, ea, fly, hok_put hok hn ru ⟨oc, kb, hd⟩, ub_put ub hc hn, by rw [upd_ne nac]; exact na, os, bare, q hn⟩
  | ok fl =>
    cases fl with
    | ret x =>
      obtain ⟨v', H', os, bare, un, hok, rv, q⟩ := h
      have kb := un.keep c oc ho delH_same nf (by simp)
      have hn := un.free c oc ho delH_same (by simp)
      exact ⟨v', _, os, bare, un_put un hc hn, hok_put hok hn ru ⟨oc, kb, hd⟩, rv, q hn⟩
    | next => exact h
    | brk => exact h
    | cont => exact h
/-- the lambda runs -/
theorem lamC_run {F : LamK} {k : Nat} {x : Str} {sp : VK → XK → Hp → Prop} (S : NScope [x] [] [x] F.scope) (hcl : F.cl = [(x, c)])
    (hb : ∀ (c' : Addr) (pm ctv : Value), bindArgs (PySem.W.kla_fn "<lambda>" F.qual F.params F.body F.scope F.cl pm (.ref c') ctv) ⟨[], []⟩ = pure [])
    (hbody : ∀ (f c' : Addr) (A : Around) (outer : List Env) (s : Shared) (H : Hp) (Q : VK) (E : XK), Room k (A.deeper (envF (F.nf c') f s.heap.objs.size)) → sp Q E H →
      ∃ t, PE (ncx (L2.CX P w) P w K mg base [x] (F.nf c') f A outer s H E) F.body t ∧ t [some v] H Q)
    {f : Addr} {Q : VK} {E : XK} (hr : Room (k + 1) A) (e0 : Env0 P w K mg base A outer s H) (at_ : LamAt H f F) (hc : H c = some (CellO c v))
    (h : sp (fun r H' => H' c = none → Q r (upd H' c (CellO c v))) (fun cls d H' => H' c = none → E cls d (upd H' c (CellO c v))) (delH H c)) :
    codeAny (model P w) A (.call (.ref f) ⟨[], []⟩) (CR (L2.CX P w) outer P w H s Q E) s := by
  refine codeAny_mono (?_ : codeAny (model P w) A (.call (.ref f) ⟨[], []⟩) (CR (L2.CX P w) outer P w (delH H c) s (fun r H' => H' c = none → Q r (upd H' c (CellO c v))) (fun cls d H' => H' c = none → E cls d (upd H' c (CellO c v)))) s) fun r s' hq => cr_put e0 hc hq
  obtain ⟨c', pm, ctv, ob, cr⟩ := at_.obj e0.hok
  obtain ⟨⟨u, ru, ic⟩, _, _⟩ := e0.hok c _ hc
  have e1 := env0_del e0 hc
  have nolim : s.heap.NoLimit := e0.mod.nolimit.keeps fun b o e => (e0.bs b o e).1
  refine PySem.W.kla_callFunE hr.depth ob rfl S.co S.gen rfl cr ?_
  rw [hb c' pm ctv]
  refine wpAny_pure (wpAny_newFunctionEnv S.nocell (fun y hy => absurd hy (by simp)) (fun g ns sb => ⟨nolim.fresh _ sb, ?_⟩) S.kind)
  show codeAny _ _ (.expr F.body (envF (F.nf c') f s.heap.objs.size)) _ _
  have keep : ∀ b o, s.heap.get? b = some o → g.get? b = some o := fun b o e => sb.extBut b o (Nat.ne_of_lt (Heap.lt_size e)) (Heap.get?_push_of_some _ e)
  obtain ⟨t, ht, hq⟩ := hbody f c' A outer s (delH H c) _ _ (hr.deeper _) h
  have look : ∀ y d, F.cl.lookup y = some d → y = x ∧ d = c := fun y d e => by
    rw [hcl] at e
    by_cases hy : y = x
    · rw [hy] at e
      simp [List.lookup] at e
      exact ⟨hy, e.symm⟩
    · have q : (y == x) = false := by simpa using hy
      simp [List.lookup, q] at e
  have cells : CellsAt (F.nf c').cl [x] [some v] s.heap (delH H c) := by
    refine ⟨rfl, fun y d e => ?_, fun y z d e1 e2 => ?_, fun i y e => ?_⟩
    · obtain ⟨_, rfl⟩ := look y d e
      exact ⟨delH_same, _, ic⟩
    · exact (look y d e1).1.trans (look z d e2).1.symm
    · cases i with
      | zero =>
        obtain rfl : x = y := by simpa using e
        refine ⟨c, ?_, fun v' e' => ⟨u, ?_, ic⟩⟩
        · show F.cl.lookup x = some c
          rw [hcl]
          simp [List.lookup]
        · obtain rfl : v = v' := by simpa using e'
          exact ru
      | succ j => simp at e
  have J := inv_startN (CX := L2.CX P w) (N := [x]) (f := f) (us := []) (vs := []) (E := fun cls d H' => H' c = none → E cls d (upd H' c (CellO c v))) (F := F.nf c') (tk := s.toks + ([] : List (Str × Value)).length) S hr.hd e1 rfl .nil cells ns keep
  refine PySem.W.kla_codeExpr (wpAny_mono (ht.run [] _ _ (delH H c) _ J hq) (fun v s2 hv => ?_) fun e s2 he => he)
  obtain ⟨v2, H2, J2, rv, q⟩ := hv
  exact ⟨v2, H2, J2.os, J2.bare, J2.base, J2.hok, rv, q⟩
end
/-! ### the making -/
section
variable {X : Cx} {pins : List (Addr × Obj)} {σ : L2.St} {H : Hp} {s : Shared}
theorem laid_lam (F : LamK) {tk : Nat} {c : Addr} {pm ctv : Value} (I : Inv X pins σ H s) : Inv X pins σ (upd H s.heap.objs.size (LamO s.heap.objs.size c F)) { s with heap := s.heap.push (F.obj pm c ctv), toks := tk } := by
  have here : (s.heap.push (F.obj pm c ctv)).get? s.heap.objs.size = some (F.obj pm c ctv) := Heap.get?_push_size _ rfl
  exact I.laid (fun b u q => Heap.get?_push_of_some _ q) (Nat.le_refl _) (show ObjOk _ _ _ _ _ (LamO _ _ _) from ⟨⟨pm, ctv, here⟩, ⟨_, here⟩, fun _ _ ⟨a, b, z⟩ st => ⟨a, b, st _ z⟩⟩)
/-- what comes of a lambda: an object, known from now on; only tables grow -/
def tLamE (T : List (Addr × Str)) (F : LamK) : TE := fun σ H Q => Tabs T H ∧ ∀ (f : Addr) (H1 : Hp), ExtN H H1 → Tabs T H1 → H f = none → LamAt H1 f F → (∀ b, H1 b = none → H b = none) → Q (.ref f) H1
theorem pe_lam {T : List (Addr × Str)} {c P : Addr} {params : Arguments} {body : Expr} {scope : Scope} {pos : Pos} {q : Str} (TB : TabB X.base X.mg c P) (hcode : X.env.code = .ref c) (hq : X.env.qual ++ "<lambda>" = q) (hm : (P, q) ∈ T) (hu : ∀ p ∈ T, p.1 = P → p.2 = q)
    (hdef : defaultsOf params X.env = ([], [])) (hfr : ∀ y ∈ scope.names, y.2 = .free → X.env.scope.names.lookup y.1 = some .cell ∨ X.env.scope.names.lookup y.1 = some .free) : PE X (.Lambda params body scope pos) (tLamE T ⟨q, params, body, scope, cloFrom X.env.cells scope.names []⟩) := by
  subst hq
  refine ⟨fun pins s σ H Q I h => ?_⟩
  obtain ⟨hT, h⟩ := h
  obtain ⟨rows, atP, three, known⟩ := hT _ hm
  refine PySem.W.kla_eval hdef ?_
  have nsP : s.heap.BuiltinsAt X.mg P := TB.bm.keeps I.bk
  have obP : s.heap.get? P = some { cls := .none, data := .fields rows } := I.hok P _ atP
  have clo : closureFor scope X.env = pure (cloFrom X.env.cells scope.names []) := closure_ok (env := X.env) (scope := scope) fun y hy e => (hfr y hy e).elim (fun z => I.ok.has _ (.inl z)) fun z => I.ok.has _ (.inr z)
  cases fd : codeAmong pos rows.toList with
  | some cv =>
    obtain ⟨c0, ec, old⟩ := known pos cv fd
    subst ec
    refine PySem.W.kla_makeFunctionHit (mg := X.mg) (c := c) (P := P) (ps := rows) clo I.ok.glob (I.mod.glob.keeps I.bk) hcode (TB.code.keeps I.bk) obP three fd nsP fun ctv g tk grow _ => ?_
    have J : Inv X pins σ H { s with heap := g, toks := tk } := I.kept grow
    have none0 : H g.objs.size = none := J.hok.fresh (Nat.le_refl _)
    have J2 := laid_lam ⟨X.env.qual ++ "<lambda>", params, body, scope, cloFrom X.env.cells scope.names []⟩ (tk := tk) (c := c0) (pm := (X.mg "__name__").getD .none) (ctv := ctv) J
    have up : ∀ b o, H b = some o → upd H g.objs.size (LamO g.objs.size c0 ⟨X.env.qual ++ "<lambda>", params, body, scope, cloFrom X.env.cells scope.names []⟩) b = some o := fun b o e => (upd_ne (ne_of_none e none0)).trans e
    exact ⟨.ref g.objs.size, _, J2, rfl, h _ _ (ExtN.of up) (hT.ext up) none0 ⟨c0, upd_same, up _ _ old⟩ fun b e => upd_none e⟩
  | none =>
    refine PySem.W.kla_makeFunction (mg := X.mg) (c := c) (P := P) (ps := rows) clo I.ok.glob (I.mod.glob.keeps I.bk) hcode (TB.code.keeps I.bk) obP three fd TB.gP nsP fun c0 ctv g tk grow ge lt rec_ tab => ?_
    obtain ⟨c2, oc, vs, t, e2, g1, g2, g3⟩ := rec_
    cases e2
    have n0 : H c0 = none := I.hok.fresh ge
    have J := inv_table (t' := tk) (more := #[rawInt pos.line, rawInt pos.col, .ref c0]) (h' := g) I atP (fun b o hb e => grow b o hb e) tab ge ⟨oc, vs, t, g1, g2, g3⟩
    generalize hH1 : upd (upd H P (.tbl (rows ++ #[rawInt pos.line, rawInt pos.col, .ref c0]))) c0 (CodeO c0 (X.env.qual ++ "<lambda>")) = H1 at J
    have atC : H1 c0 = some (CodeO c0 (X.env.qual ++ "<lambda>")) := by rw [← hH1]; exact upd_same
    have atT : H1 P = some (.tbl (rows ++ #[rawInt pos.line, rawInt pos.col, .ref c0])) := by rw [← hH1, upd_ne (ne_of_none atP n0), upd_same]
    have ext : ExtN H H1 := fun b o e nt => by
      have nP : b ≠ P := fun z => nt rows (Option.some.inj (e.symm.trans (by rw [z]; exact atP)))
      rw [← hH1, upd_ne (ne_of_none e n0), upd_ne nP]
      exact e
    have back : ∀ b, H1 b = none → H b = none := fun b e => by
      rw [← hH1] at e
      exact upd_none (upd_none e)
    have tabs1 : Tabs T H1 := fun p hp => by
      by_cases z : p.1 = P
      · refine (show TabS H1 p.1 p.2 from ?_)
        rw [z, hu p hp z]
        have el : (rows ++ #[rawInt pos.line, rawInt pos.col, Value.ref c0]).toList = rows.toList ++ [rawInt pos.line, rawInt pos.col, .ref c0] := by simp
        refine ⟨_, atT, by rw [el]; exact PySem.TriplesOk_snoc _ _ _ _ three, fun p2 cv hcv => ?_⟩
        rw [el] at hcv
        cases among_app _ three hcv with
        | inl y =>
          obtain ⟨c3, y1, y2⟩ := known p2 cv y
          exact ⟨c3, y1, ext _ _ y2 codeO_ne⟩
        | inr y => exact ⟨c0, y, atC⟩
      · obtain ⟨r3, y1, y2, y3⟩ := hT p hp
        refine ⟨r3, ?_, y2, fun p2 cv hcv => ?_⟩
        · rw [← hH1, upd_ne (ne_of_none y1 n0), upd_ne z]
          exact y1
        · obtain ⟨c3, w1, w2⟩ := y3 p2 cv hcv
          exact ⟨c3, w1, ext _ _ w2 codeO_ne⟩
    have none1 : H1 g.objs.size = none := J.hok.fresh (Nat.le_refl _)
    have J2 := laid_lam ⟨X.env.qual ++ "<lambda>", params, body, scope, cloFrom X.env.cells scope.names []⟩ (tk := tk) (c := c0) (pm := (X.mg "__name__").getD .none) (ctv := ctv) J
    have up : ∀ b o, H1 b = some o → upd H1 g.objs.size (LamO g.objs.size c0 ⟨X.env.qual ++ "<lambda>", params, body, scope, cloFrom X.env.cells scope.names []⟩) b = some o := fun b o e => (upd_ne (ne_of_none e none1)).trans e
    exact ⟨.ref g.objs.size, _, J2, rfl, h _ _ (ext.trans (ExtN.of up)) (tabs1.ext up) (I.hok.fresh (Nat.le_trans ge (Nat.le_of_lt lt))) ⟨c0, upd_same, up _ _ atC⟩ fun b e => back b (upd_none e)⟩
end
end TmC

/-! A def whose parameter is kept by lambdas that it returns: its cell is tracked from its end on. -/
namespace TmC
open PySem PySem.Spec PyProof.Rows L2 LamX NdefX
/-- a block that ends in a return: what the slot i holds then is told too -/
structure PR (X : Cx) (i : Nat) (body : List Stmt) (t : (V → V → Hp → Prop) → L2.St → Hp → Prop) : Prop where
  run : ∀ (pins : List (Addr × Obj)) (s : Shared) (σ : L2.St) (H : Hp) (Q : V → V → Hp → Prop), Inv X pins σ H s → t Q σ H →
    wpAny (model X.prog X.w) X.A (execs body X.env) (fun fl s' => ∃ u v w σ' H', fl = .ret u ∧ Inv X pins σ' H' s' ∧ σ'[i]? = some (some w) ∧ L2.RelV v u ∧ Q w v H') X.xe s
section
variable {X : Cx} {i : Nat} {e : Expr} {te : TE} {st : Stmt} {rest : List Stmt} {t : TS} {u : (V → V → Hp → Prop) → L2.St → Hp → Prop} {pos : Pos}
def tRetR (i : Nat) (te : TE) : (V → V → Hp → Prop) → L2.St → Hp → Prop := fun Q σ H => te σ H fun v H' => ∃ w, σ[i]? = some (some w) ∧ Q w v H'
def tSeqR (t : TS) (u : (V → V → Hp → Prop) → L2.St → Hp → Prop) : (V → V → Hp → Prop) → L2.St → Hp → Prop := fun Q σ H => t { nx := u Q, rt := fun _ _ => False } σ H
theorem pr_ret (he : PE X e te) : PR X i [.Return (some e) pos] (tRetR i te) := by
  refine ⟨fun pins s σ H Q I h => ?_⟩
  refine wpAny_execs_cons (wpAny_Return_some (thn (he.run pins s σ H _ I h) fun u s1 ⟨v, H1, I1, r1, w, q1, q2⟩ => ?_))
  exact ⟨u, v, w, σ, H1, rfl, I1, q1, r1, q2⟩
theorem pr_cons (h1 : PS X st t) (h2 : PR X i rest u) : PR X i (st :: rest) (tSeqR t u) := by
  refine ⟨fun pins s σ H Q I h => ?_⟩
  refine wpAny_execs_cons (thn (h1.run pins s σ H _ I h) fun f s1 q => ?_)
  cases f with
  | next =>
    obtain ⟨σ', H', I', q⟩ := q
    exact h2.run pins s1 σ' H' Q I' q
  | ret v =>
    obtain ⟨_, _, _, _, _, q⟩ := q
    exact q.elim
  | brk =>
    obtain ⟨_, _, _, q⟩ := q
    exact q.elim
  | cont =>
    obtain ⟨_, _, _, q⟩ := q
    exact q.elim
end
theorem PR.nox {X : Cx} {i : Nat} {body : List Stmt} {t : (V → V → Hp → Prop) → L2.St → Hp → Prop} (h : PR X.nox i body t) : PR X i body t := ⟨fun pins s σ H Q I hw =>
  wpAny_mono (h.run pins s σ H Q (I.wish _) hw) (fun _ _ ⟨u, v, w, σ', H', e, I', q⟩ => ⟨u, v, w, σ', H', e, I'.unwish, q⟩) fun _ _ z => False.elim z⟩
theorem un_new {fs : List Addr} {H H' : Hp} {h h' : Heap} {c : Addr} {o : HO} (un : Un fs [] H H' h h') (hn : H' c = none) (hs : h.objs.size ≤ c) : Un fs [] H (upd H' c o) h h' where
  keep := un.keep
  slot := un.slot
  free := fun b ob q n hx => by
    have hb : b ≠ c := Nat.ne_of_lt (Nat.lt_of_lt_of_le (Heap.lt_size q) hs)
    rw [upd_ne hb]
    exact un.free b ob q n hx
  there := un.there
  tups := fun b xs q => by
    have e := un.tups b xs q
    rw [upd_ne (ne_of_none e hn)]
    exact e
  frzs := fun b ob u q => by
    have e := un.frzs b ob u q
    rw [upd_ne (ne_of_none e hn)]
    exact e
  tbls := fun b ps q => by
    obtain ⟨more, e⟩ := un.tbls b ps q
    refine ⟨more, ?_⟩
    rw [upd_ne (ne_of_none e hn)]
    exact e
theorem fn_cell {CX : CXT} {P : Program} {w : World} {K : PySem.W.Frag} {mg : Str → Option Value} {base : Heap} {k : Nat} {f : Addr} {name qual : Str} {params : Arguments} {body : List Stmt} {scope : Scope} {dV kV doc pm cdv ct oc : Value} {an od : Option Addr}
    {osl : Array (Option Value)} {N ps : List Str} {sp : Sp} {i : Nat} {x : Str} (lk : K.lookup f = some ⟨oc, od, .func (PySem.W.fnOf name qual params body scope dV kV doc pm an cdv ct), osl⟩) (hcd : PySem.W.codeIn K cdv qual = true) (S : FnScope N ps scope)
    (len : ∀ vs H Q E, sp vs H Q E → vs.length = ps.length) (hx : N[i]? = some x) (hk : scope.names.lookup x = some .cell)
    (hbody : ∀ (A : Around) (outer : List Env) (s : Shared) (H : Hp) (vs : List V) (Q : VK) (E : XK) (c : Addr), Room k (A.deeper (envOfC qual scope s.heap.objs.size f cdv)) → (cellsFrom (s.heap.objs.size + 1) scope.names []).lookup x = some c → H c = none → sp vs H Q E →
      ∃ t, PR (cxOf CX P w K mg base N qual scope f cdv A outer s H E) i body t ∧ t (fun w v H' => H' c = none → Q v (upd H' c (CellO c w))) (L2.start N vs) H) :
    FnOk P w K mg base CX (k + 1) f (PySem.W.fnOf name qual params body scope dV kV doc pm an cdv ct) ps sp := by
  refine ⟨len, fun A outer s H args us vs Q E hr e0 hb r hsp => ?_⟩
  have hl := len _ _ _ _ hsp
  have KX : K.In s.heap := e0.mod.kin.keeps fun b o e => (e0.bs b o e).1
  have lim : s.heap.NoLimit := e0.mod.nolimit.keeps fun b o e => (e0.bs b o e).1
  have hkind : ∀ y ∈ ps.zip us, scope.names.lookup y.1 = some .local ∨ (scope.names.lookup y.1 = some .cell ∧ ((cellsFrom (s.heap.objs.size + 1) scope.names []).lookup y.1).isSome = true) := fun ⟨n, v⟩ hy => by
    rcases S.par n (List.of_mem_zip hy).1 with q | q
    · exact .inl q
    · exact .inr ⟨q, PySem.W.cellsFrom_some _ _ _ (.inl q)⟩
  refine codeAny_call_function hr.depth (KX _ _ lk) rfl S.co S.gen rfl (PySem.W.codeRec_of KX hcd) (hb _ _ _ _ ?_)
  refine wpAny_newFunctionEnv_cells S.kind hkind fun env he s1 xx => ?_
  subst he
  refine ⟨lim.keeps xx.toInCall.keep, codeAny_func ?_⟩
  have I : Inv (cxOf CX P w K mg base N qual scope f cdv A outer s H E) [] (L2.start N vs) H s1 := inv_start S hr.hd e0 hl r xx
  obtain ⟨c, hc⟩ := cell_has (n := s.heap.objs.size + 1) hk
  have hcs : s.heap.objs.size ≤ c := I.ok.cab x c rfl hc
  obtain ⟨t, ht, hq⟩ := hbody A outer s H vs Q E c (hr.deeper _) hc (e0.hok.fresh hcs) hsp
  refine wpAny_mono (ht.run [] s1 (L2.start N vs) H _ I hq) (fun fl s' hs => ?_) fun e s' hs => hs
  obtain ⟨u, v, w', σ', H', rfl, J, e1, rv, q⟩ := hs
  obtain ⟨m, hn, hl'⟩ := J.loc
  obtain ⟨u', ru, look⟩ := hl' i x w' hx e1 (.inr (.inl hk))
  rcases look with ⟨k', _⟩ | ⟨_, c2, ec, ic⟩
  · have k' : scope.names.lookup x = some .local := k'
    rw [hk] at k'
    cases k'
  · have ec' : (cellsFrom (s.heap.objs.size + 1) scope.names []).lookup x = some c2 := ec
    rw [hc] at ec'
    obtain rfl : c = c2 := Option.some.inj ec'
    have hn0 := J.freeC x c ec
    exact ⟨v, _, J.os, J.bare, un_new J.base hn0 hcs, hok_put J.hok hn0 ru ic, rv, q hn0⟩
/-! ### x(), x a name that holds something that can be called without arguments -/
def Callable (P : Program) (w : World) (K : PySem.W.Frag) (mg : Str → Option Value) (base : Heap) (k : Nat) (f : Addr) (H : Hp) (Q : VK) (E : XK) : Prop :=
  ∀ (A : Around) (outer : List Env) (s : Shared), Room k A → Env0 P w K mg base A outer s H → PySem.W.FnAt f s.heap ∧ codeAny (model P w) A (.call (.ref f) ⟨[], []⟩) (CR (L2.CX P w) outer P w H s Q E) s
def tCall0C (P : Program) (w : World) (K : PySem.W.Frag) (mg : Str → Option Value) (base : Heap) (k i : Nat) (W : WX) : TE := fun σ H Q => ∃ f : Addr, σ[i]? = some (some (.ref f)) ∧ Callable P w K mg base k f H Q (fun cls d H' => W cls d σ H')
theorem pe_call0C {X : Cx} {x : Str} {i j k : Nat} {W : WX} {p pos : Pos} (tk : Takes X W) (hr : Room j X.A) (hk : k ≤ j) (hN : X.N[i]? = some x) (hv : Vis X.env.scope x)
    (hd : (x == ("__debug__" : Str)) = false := by decide) (hcd : (x == ("__classdict__" : Str)) = false := by decide) :
    PE X (.Call (.Name x p) [] [] pos) (tCall0C X.prog X.w X.K X.mg X.base k i W) := by
  refine ⟨fun pins s σ H Q I h => ?_⟩
  obtain ⟨f, slot, call_⟩ := h
  refine wpAny_Call_Name_kw (thn ((pe_var (pos := p) hN hv hd hcd).run pins s σ H (fun v H1 => v = .ref f ∧ H1 = H) I ⟨.ref f, slot, rfl, rfl⟩) fun u s1 ⟨v, H1, I1, r1, q1⟩ => ?_)
  obtain ⟨ev, eH⟩ := q1
  subst ev eH
  obtain rfl : u = Value.ref f := r1
  obtain ⟨fn, run⟩ := call_ X.A X.stack s1 (hr.mono hk) I1.env0
  refine PySem.W.callWith_F0 fn ?_
  refine wpAny_call (codeAny_mono run fun r s' hq => ?_)
  cases r with
  | error e => exact tk e s' (XE.of_call I1 (fun cls d H' h => h) hq)
  | ok fl =>
    cases fl with
    | ret u => exact I1.after hq
    | next => exact False.elim hq
    | brk => exact False.elim hq
    | cont => exact False.elim hq
end TmC

/-! repr of values as they are passed to made kinds; defs whose promise holds where nothing is being told (guards). -/
namespace TmC
open PySem PySem.Spec PyProof.Rows L2 LamX NdefX Tm
/-- a value, and the data that it is: None, a truth, a number, a text, (n,), [n], {} -/
inductive OddV (H : Hp) : V → PyData → Prop where
  | non : OddV H .non .none
  | bl (b : Bool) : OddV H (.bl b) (.bool b)
  | int (i : Int) (h : i.natAbs.log2 < 1920) : OddV H (.int i) (.int i)
  | str (x : Str) (h : (reprText x).length ≤ 1000) : OddV H (.str x) (.str x)
  | tup {a : Addr} (i : Int) (h : i.natAbs.log2 < 1920) (e : H a = some (.tup [.int i])) : OddV H (.ref a) (.tuple [.int i])
  | lst {a : Addr} (i : Int) (h : i.natAbs.log2 < 1920) (e : H a = some (.lst [.int i])) : OddV H (.ref a) (.list [.int i])
  | dct {a : Addr} (e : H a = some (.dK [])) : OddV H (.ref a) (.dict [])
theorem OddV.mono {H H' : Hp} {v : V} {d : PyData} (o : OddV H v d) (e : ExtN H H') : OddV H' v d := by
  cases o with
  | non => exact .non
  | bl b => exact .bl b
  | int i h => exact .int i h
  | str x h => exact .str x h
  | tup i h q => exact .tup i h (e _ _ q fun ps z => by cases z)
  | lst i h q => exact .lst i h (e _ _ q fun ps z => by cases z)
  | dct q => exact .dct (e _ _ q fun ps z => by cases z)
section
variable {X : Cx}
theorem call_reprO (hg : X.A.guards = some []) (hu : X.A.units + 100 < cLine) : CallR X (.builtin "repr") (fun xs H Q => ∃ v d, xs = [v] ∧ OddV H v d ∧ d.shown.length ≤ sizeLine ∧ Q (.str d.shown) H) := by
  intro pins s σ H xs us Q I r h
  obtain ⟨v, d, rfl, o, hz, q⟩ := h
  obtain ⟨u, rfl, ru⟩ := vals1 r
  cases o with
  | non =>
    obtain rfl : u = Value.none := ru
    exact PySem.P.repr_of_none ⟨.str _, H, I.tok _, ⟨_, rfl⟩, q⟩
  | bl b =>
    obtain rfl : u = Value.bool b := ru
    exact PySem.P.repr_of_bool ⟨.str _, H, I.tok _, ⟨_, rfl⟩, q⟩
  | int i h =>
    obtain ⟨t, rfl⟩ := ru
    exact PySem.P.repr_of_int h ⟨.str _, H, I.tok _, ⟨_, rfl⟩, q⟩
  | str x h =>
    obtain ⟨t, rfl⟩ := ru
    exact PySem.P.repr_of_str ⟨.str _, H, I.tok _, ⟨_, rfl⟩, q⟩ hz
  | @tup a i h e =>
    obtain rfl : u = Value.ref a := ru
    obtain ⟨_, its, rv, ob, e1, e2, n, e3⟩ := I.hok a _ e
    obtain ⟨w, rfl, t, rfl⟩ := vals1 rv
    exact repr_of_reads' (h₀ := s.heap) (.tuple e1 e2 e3 (.cons (.int i t) .nil)) (by simp [PyData.showable, PyData.showableAll, h]) (fun z => by simp [PyData.hasDict, PyData.hasDictAll] at z) hg (by simp [PyData.depth, PyData.depthAll]; omega) (fun _ _ z => z)
      (fun h' u tk k => ⟨.str _, H, I.kept k, ⟨_, rfl⟩, q⟩) hz
  | @lst a i h e =>
    obtain rfl : u = Value.ref a := ru
    obtain ⟨_, its, n, rv, e1⟩ := I.hok a _ e
    obtain ⟨w, rfl, t, rfl⟩ := vals1 rv
    exact repr_of_reads' (h₀ := s.heap) (.list e1 rfl rfl (.cons (.int i t) .nil)) (by simp [PyData.showable, PyData.showableAll, h]) (fun z => by simp [PyData.hasDict, PyData.hasDictAll] at z) hg (by simp [PyData.depth, PyData.depthAll]; omega) (fun _ _ z => z)
      (fun h' u tk k => ⟨.str _, H, I.kept k, ⟨_, rfl⟩, q⟩) hz
  | @dct a e =>
    obtain rfl : u = Value.ref a := ru
    obtain ⟨_, ns, vs, kv, ob, es, ep, e1, e2, e3, e4, e5, e6⟩ := I.hok a _ e
    cases kv
    have e0 : es.toList = [] := by
      generalize es.toList = l at e5
      cases e5
      rfl
    refine repr_of_reads' (h₀ := s.heap) (.dict (as := []) (bs := []) (kvs := []) e1 e2.1 e3 (by rw [e0]; exact .nil) (by rw [e0]; exact .nil)) (by simp [PyData.showable, PyData.showableKv]) (fun _ z => ?_) hg (by simp [PyData.depth, PyData.depthKv]; omega) (fun _ _ z => z)
      (fun h' u tk k => ⟨.str _, H, I.kept k, ⟨_, rfl⟩, q⟩) hz
    have z' : sysModules = a := by simpa using z
    rw [z'] at ns
    simp at ns
end
end TmC

/-! The seven made kinds with both ends: a number that is let, and any other value. -/
namespace TmC
open PySem PySem.Spec PyProof.Rows L2 LamX NdefX Tm
/-- a def that may raise, called by position -/
structure OkY (P : Program) (w : World) (K : PySem.W.Frag) (mg : Str → Option Value) (base : Heap) (x : Str) (k : Nat) (sp : Sp) : Prop where
  ex : ∃ f : Addr, mg x = some (.ref f) ∧ PySem.W.keepIn K (.ref f) = true ∧ ∀ (A : Around) (outer : List Env) (s : Shared) (H : Hp) (us : List Value) (vs : List V) (Q : VK) (E : XK), Room k A → Env0 P w K mg base A outer s H → Vals vs us → sp vs H Q E →
    codeAny (model P w) A (.call (.ref f) ⟨us, []⟩) (CR (L2.CX P w) outer P w H s Q E) s
def tCallY (sp : Sp) (E : XK) (t : TA) : TE := fun σ H Q => t σ H fun vs H1 => sp vs H1 Q E
section
variable {X : Cx} {x : Str} {k j : Nat} {sp : Sp} {e : Expr} {es : List Expr} {t : TA} {p pos : Pos} {E : XK} {W : WX}
theorem OkY.call (O : OkY X.prog X.w X.K X.mg X.base x k sp) (tk : Takes X W) (hW : ∀ cls d σ H, E cls d H → W cls d σ H) (hr : Room j X.A) (hk : k ≤ j) (ha : PA X (e :: es) t) (hg : Gl X x := by rfl) (hdb : (x == ("__debug__" : Str)) = false := by decide)
    (he : starEach (e :: es) X.env = (false, eval e X.env) :: starEach es X.env := by rfl) (hpl : (backTo pos (starEach es X.env)).any (·.1) = false := by rfl) :
    PE X (.Call (.Name x p) (e :: es) [] pos) (tCallY sp E t) := by
  refine ⟨fun pins s σ H Q I h => ?_⟩
  obtain ⟨f, hm, hk', run⟩ := O.ex
  refine wpAny_Call_Name_kw (ld_glob I hg hm ?_ hdb)
  refine PySem.W.callWith_K (h₀ := X.base) I.ok.mod.kin hk' (thn (ha.run pos pins s σ H _ I h) fun us s1 ⟨vs, H1, I1, r, q⟩ => ⟨I1.kIn, ?_⟩) he hpl
  refine wpAny_call (codeAny_mono (run X.A X.stack s1 H1 us vs Q E (hr.mono hk) I1.env0 r q) fun r s' hq => ?_)
  cases r with
  | error e => exact passes_call tk hW pins σ H1 s1 e s' I1 hq
  | ok fl =>
    cases fl with
    | ret u => exact I1.after hq
    | next => exact False.elim hq
    | brk => exact False.elim hq
    | cont => exact False.elim hq
end
section
variable {P : Program} {w : World} {K : PySem.W.Frag} {mg : Str → Option Value} {base : Heap} {x : Str} {k j : Nat} {ps : List Str} {sp spg spb : Sp}
theorem OkY.ofOk (O : Ok P w K mg base x k ps sp) : OkY P w K mg base x k (fun vs H Q _ => sp vs H Q E0) := by
  obtain ⟨f, fd, h1, h2, F, B⟩ := O.ex
  refine ⟨f, h1, h2, fun A outer s H us vs Q E hr e0 r h => ?_⟩
  have KX : K.In s.heap := e0.mod.kin.keeps fun b o e => (e0.bs b o e).1
  have hl : (us ++ []).length = ps.length := by
    rw [List.append_nil, ← r.length]
    exact F.len _ _ _ _ h
  have b := B s us KX hl
  rw [List.append_nil] at b
  refine codeAny_mono (F.run A outer s H ⟨us, []⟩ us vs Q E0 hr e0 b r h) fun r s' hq => ?_
  cases r with
  | error e => exact False.elim hq
  | ok fl => cases fl <;> exact hq
theorem OkY.ofX (O : OkX P w K mg base x k ps sp) : OkY P w K mg base x k sp := by
  obtain ⟨f, fd, h1, h2, F, B⟩ := O.ex
  refine ⟨f, h1, h2, fun A outer s H us vs Q E hr e0 r h => ?_⟩
  have KX : K.In s.heap := e0.mod.kin.keeps fun b o e => (e0.bs b o e).1
  have hl : (us ++ []).length = ps.length := by
    rw [List.append_nil, ← r.length]
    exact F.len _ _ _ _ h
  have b := B s us KX hl
  rw [List.append_nil] at b
  exact F.run A outer s H ⟨us, []⟩ us vs Q E hr e0 b r h
theorem OkY.or (a : OkY P w K mg base x k spg) (b : OkY P w K mg base x j spb) (h : j ≤ k) : OkY P w K mg base x k (fun vs H Q E => spg vs H Q E ∨ spb vs H Q E) := by
  obtain ⟨f, h1, h2, F⟩ := a.ex
  obtain ⟨f', g1, g2, G⟩ := b.ex
  rw [h1] at g1
  cases g1
  refine ⟨f, h1, h2, fun A outer s H us vs Q E hr e0 r q => ?_⟩
  rcases q with q | q
  · exact F A outer s H us vs Q E hr e0 r q
  · exact G A outer s H us vs Q E (hr.mono h) e0 r q
theorem OkY.imp (a : OkY P w K mg base x k spg) (h : ∀ vs H Q E, sp vs H Q E → spg vs H Q E) : OkY P w K mg base x k sp := by
  obtain ⟨f, h1, h2, F⟩ := a.ex
  exact ⟨f, h1, h2, fun A outer s H us vs Q E hr e0 r q => F A outer s H us vs Q E hr e0 r (h _ _ _ _ q)⟩
end
def sp_bad (K : PySem.W.Frag) (CI : Addr) (lo hi : Int) : Sp := fun vs H _ E => ∃ v : V, vs = [v] ∧ NumV K H v lo hi false ∧ ∀ d : Addr, H d = none → E (.ref CI) (some d) (upd H d (.xd [(("given" : Str), v)]))
def sp_both (K : PySem.W.Frag) (CI : Addr) (lo hi : Int) : Sp := fun vs H Q E => ∃ (v : V) (b : Bool), vs = [v] ∧ NumV K H v lo hi b ∧ (b = true → ∀ r H', Same H H' → Q r H') ∧ (b = false → ∀ d : Addr, H d = none → E (.ref CI) (some d) (upd H d (.xd [(("given" : Str), v)])))
section
variable {P : Program} {w : World} {K : PySem.W.Frag} {mg : Str → Option Value} {base : Heap} {C CI : Addr}
abbrev NeedX (P : Program) (w : World) (K : PySem.W.Frag) (mg : Str → Option Value) (base : Heap) (CI : Addr) := OkX P w K mg base "need_number" 3 ["value", "least", "most"] (sp_needV K CI)
theorem both_of {x : Str} {ps : List Str} {lo hi : Nat} {T : Nat → Tab} (O : Ok P w K mg base x 8 ps (sp_made C lo hi T)) (Bd : OkX P w K mg base x 4 ["many"] (sp_bad K CI lo hi)) : OkY P w K mg base x 8 (sp_both K CI lo hi) := by
  refine OkY.imp ((OkY.ofOk O).or (OkY.ofX Bd) (by decide)) fun vs H Q E h => ?_
  obtain ⟨v, b, rfl, nv, q1, q2⟩ := h
  cases b with
  | false => exact .inr ⟨v, rfl, nv, q2 rfl⟩
  | true =>
    rcases nv with ⟨n, rfl, e⟩ | ⟨z, _⟩
    · have e' : (decide ((lo : Int) ≤ n) && decide (n ≤ (hi : Int))) = true := e.symm
      rw [Bool.and_eq_true, decide_eq_true_eq, decide_eq_true_eq] at e'
      obtain ⟨e1, e2⟩ := e'
      refine .inl ⟨n.toNat, ?_, by omega, by omega, fun v H' t' e _ _ => q1 rfl v H' e⟩
      rw [show ((n.toNat : Nat) : Int) = n by omega]
    · cases z
theorem bad_cell (O_need : NeedX P w K mg base CI) (D : Df K mg "cell_kind" s_cell ["many"]) : OkX P w K mg base "cell_kind" 4 ["many"] (sp_bad K CI 1 6) := by
  refine D.okX sc_cell_kind (fun vs H Q E h => ?_) (fun f cdv A outer s H vs Q E hr h => ?_)
  · obtain ⟨v, rfl, _⟩ := h
    rfl
  · obtain ⟨v, rfl, nv, q⟩ := h
    refine ⟨_, pss_cons (ps_expr (O_need.call (E := E) (takes_of rfl rfl rfl rfl) (fun _ _ _ _ z => z) hr (ha := pa_cons (pv 0) (pa_cons (pe_int) (pa_cons (pe_int) (pa_nil)))))) pss_never, ?_⟩
    exact ⟨_, rfl, v, 1, 6, false, rfl, nv, (fun z => nomatch z), fun _ d hd => q d hd⟩
theorem bad_adder (O_need : NeedX P w K mg base CI) (D : Df K mg "adder_kind" s_adder ["many"]) : OkX P w K mg base "adder_kind" 4 ["many"] (sp_bad K CI 2 12) := by
  refine D.okX sc_adder_kind (fun vs H Q E h => ?_) (fun f cdv A outer s H vs Q E hr h => ?_)
  · obtain ⟨v, rfl, _⟩ := h
    rfl
  · obtain ⟨v, rfl, nv, q⟩ := h
    refine ⟨_, pss_cons (ps_expr (O_need.call (E := E) (takes_of rfl rfl rfl rfl) (fun _ _ _ _ z => z) hr (ha := pa_cons (pv 0) (pa_cons (pe_int) (pa_cons (pe_int) (pa_nil)))))) pss_never, ?_⟩
    exact ⟨_, rfl, v, 2, 12, false, rfl, nv, (fun z => nomatch z), fun _ d hd => q d hd⟩
theorem bad_swap (O_need : NeedX P w K mg base CI) (D : Df K mg "swap_kind" s_swap ["many"]) : OkX P w K mg base "swap_kind" 4 ["many"] (sp_bad K CI 2 6) := by
  refine D.okX sc_swap_kind (fun vs H Q E h => ?_) (fun f cdv A outer s H vs Q E hr h => ?_)
  · obtain ⟨v, rfl, _⟩ := h
    rfl
  · obtain ⟨v, rfl, nv, q⟩ := h
    refine ⟨_, pss_cons (ps_expr (O_need.call (E := E) (takes_of rfl rfl rfl rfl) (fun _ _ _ _ z => z) hr (ha := pa_cons (pv 0) (pa_cons (pe_int) (pa_cons (pe_int) (pa_nil)))))) pss_never, ?_⟩
    exact ⟨_, rfl, v, 2, 6, false, rfl, nv, (fun z => nomatch z), fun _ d hd => q d hd⟩
theorem bad_slot (O_need : NeedX P w K mg base CI) (D : Df K mg "slot_kind" s_slot ["many"]) : OkX P w K mg base "slot_kind" 4 ["many"] (sp_bad K CI 1 6) := by
  refine D.okX sc_slot_kind (fun vs H Q E h => ?_) (fun f cdv A outer s H vs Q E hr h => ?_)
  · obtain ⟨v, rfl, _⟩ := h
    rfl
  · obtain ⟨v, rfl, nv, q⟩ := h
    refine ⟨_, pss_cons (ps_expr (O_need.call (E := E) (takes_of rfl rfl rfl rfl) (fun _ _ _ _ z => z) hr (ha := pa_cons (pv 0) (pa_cons (pe_int) (pa_cons (pe_int) (pa_nil)))))) pss_never, ?_⟩
    exact ⟨_, rfl, v, 1, 6, false, rfl, nv, (fun z => nomatch z), fun _ d hd => q d hd⟩
theorem bad_fading (O_need : NeedX P w K mg base CI) (D : Df K mg "fading_kind" s_fading ["many"]) : OkX P w K mg base "fading_kind" 4 ["many"] (sp_bad K CI 1 5) := by
  refine D.okX sc_fading_kind (fun vs H Q E h => ?_) (fun f cdv A outer s H vs Q E hr h => ?_)
  · obtain ⟨v, rfl, _⟩ := h
    rfl
  · obtain ⟨v, rfl, nv, q⟩ := h
    refine ⟨_, pss_cons (ps_expr (O_need.call (E := E) (takes_of rfl rfl rfl rfl) (fun _ _ _ _ z => z) hr (ha := pa_cons (pv 0) (pa_cons (pe_int) (pa_cons (pe_int) (pa_nil)))))) pss_never, ?_⟩
    exact ⟨_, rfl, v, 1, 5, false, rfl, nv, (fun z => nomatch z), fun _ d hd => q d hd⟩
theorem bad_queue (O_need : NeedX P w K mg base CI) (D : Df K mg "queue_kind" s_queue ["many"]) : OkX P w K mg base "queue_kind" 4 ["many"] (sp_bad K CI 1 2) := by
  refine D.okX sc_queue_kind (fun vs H Q E h => ?_) (fun f cdv A outer s H vs Q E hr h => ?_)
  · obtain ⟨v, rfl, _⟩ := h
    rfl
  · obtain ⟨v, rfl, nv, q⟩ := h
    refine ⟨_, pss_cons (ps_expr (O_need.call (E := E) (takes_of rfl rfl rfl rfl) (fun _ _ _ _ z => z) hr (ha := pa_cons (pv 0) (pa_cons (pe_int) (pa_cons (pe_int) (pa_nil)))))) pss_never, ?_⟩
    exact ⟨_, rfl, v, 1, 2, false, rfl, nv, (fun z => nomatch z), fun _ d hd => q d hd⟩
theorem bad_high (O_need : NeedX P w K mg base CI) (D : Df K mg "highest_kind" s_high ["many"]) : OkX P w K mg base "highest_kind" 4 ["many"] (sp_bad K CI 2 6) := by
  refine D.okX sc_highest_kind (fun vs H Q E h => ?_) (fun f cdv A outer s H vs Q E hr h => ?_)
  · obtain ⟨v, rfl, _⟩ := h
    rfl
  · obtain ⟨v, rfl, nv, q⟩ := h
    refine ⟨_, pss_cons (ps_expr (O_need.call (E := E) (takes_of rfl rfl rfl rfl) (fun _ _ _ _ z => z) hr (ha := pa_cons (pv 0) (pa_cons (pe_int) (pa_cons (pe_int) (pa_nil)))))) pss_never, ?_⟩
    exact ⟨_, rfl, v, 2, 6, false, rfl, nv, (fun z => nomatch z), fun _ d hd => q d hd⟩
end
end TmC

/-! _law_calls: seven lambdas that keep the number. -/
namespace TmC
open PySem PySem.Spec PyProof.Rows L2 LamX NdefX Tm
local macro_rules | `(tactic| walk_at "x") => `(tactic| dsimp only [tNext, tRet, tSeq, tSeqR, tRetR, tCall, tCB, tC, tCons, tNil, tAsg, tDrop, sFld])
abbrev s_calls : Stmt := top 38
theorem sc_calls : FnScope ["_law_number", "_law_calls_here"] ["_law_number"] (defScope s_calls) := ⟨rfl, rfl, rfl, by decide +kernel, rfl, by decide +kernel, by decide +kernel⟩
def QC : Str := "_law_calls.<locals>.<lambda>"
theorem qc_is (sc : Scope) (L f : Addr) (cd : Value) : (envOfC "_law_calls" sc L f cd).qual ++ ("<lambda>" : Str) = QC := by
  show (("_law_calls" : Str) ++ (".<locals>." : Str)) ++ ("<lambda>" : Str) = QC
  decide +kernel
def lamE (i : Nat) : Expr := match (defBody s_calls)[i]? with
  | some (.Assign _ (.List [e] _) _) => e
  | some (.Expr (.Call _ [e] _ _) _) => e
  | _ => .Constant .none 0 ⟨0, 0, 0, 0⟩
def lamA (i : Nat) : Arguments := match lamE i with
  | .Lambda p _ _ _ => p
  | _ => defArgs s_calls
def lamB (i : Nat) : Expr := match lamE i with
  | .Lambda _ b _ _ => b
  | e => e
def lamS (i : Nat) : Scope := match lamE i with
  | .Lambda _ _ s _ => s
  | _ => defScope s_calls
def lamC (i : Nat) (c : Addr) : LamK := ⟨QC, lamA i, lamB i, lamS i, [("_law_number", c)]⟩
theorem lam_sc : ∀ i < 7, NScope ["_law_number"] [] ["_law_number"] (lamS i) := fun i hi => nscope_by (by
  revert i
  decide +kernel)
theorem lam_bind : ∀ i < 7, ∀ (q : Str) (cl : List (Str × Addr)) (c' : Addr) (pm ctv : Value), bindArgs (PySem.W.kla_fn "<lambda>" q (lamA i) (lamB i) (lamS i) cl pm (.ref c') ctv) ⟨[], []⟩ = pure [] := fun i hi q cl c' pm ctv => by
  match i, hi with
  | 0, _ => rfl
  | 1, _ => rfl
  | 2, _ => rfl
  | 3, _ => rfl
  | 4, _ => rfl
  | 5, _ => rfl
  | 6, _ => rfl
/-! ### what is passed -/
def okD (d : PyData) (lo hi : Int) : Bool := match d with
  | .int i => decide (lo ≤ i) && decide (i ≤ hi)
  | _ => false
theorem num_of {K : PySem.W.Frag} {H : Hp} {v : V} {d : PyData} (o : OddV H v d) (lo hi : Int) : NumV K H v lo hi (okD d lo hi) := by
  cases o with
  | non => exact .inr ⟨rfl, _, .base .non, .inl (kit_ty (by decide +kernel))⟩
  | bl b => exact .inr ⟨rfl, _, .base (.bl b), .inr ⟨kit_ty (by decide +kernel), kit_ty (by decide +kernel)⟩⟩
  | int i h => exact .inl ⟨i, rfl, rfl⟩
  | str x h => exact .inr ⟨rfl, _, .base (.str x), .inl (kit_ty (by decide +kernel))⟩
  | tup i h e => exact .inr ⟨rfl, _, .base (.tup e), .inl (kit_ty (by decide +kernel))⟩
  | lst i h e => exact .inr ⟨rfl, _, .base (.lst e), .inl (kit_ty (by decide +kernel))⟩
  | dct e => exact .inr ⟨rfl, _, .base (.dK e), .inl (kit_ty (by decide +kernel))⟩
theorem OddV.del {H : Hp} {v u : V} {d : PyData} {c : Addr} (o : OddV H v d) (hc : H c = some (CellO c u)) : OddV (delH H c) v d := by
  have ne : ∀ {a : Addr} {x : HO}, H a = some x → x ≠ CellO c u → a ≠ c := fun e n z => by
    rw [z, hc] at e
    exact n (Option.some.inj e).symm
  cases o with
  | non => exact .non
  | bl b => exact .bl b
  | int i h => exact .int i h
  | str x h => exact .str x h
  | tup i h e => exact .tup i h (by rw [delH_ne (ne e fun z => by unfold CellO at z; cases z)]; exact e)
  | lst i h e => exact .lst i h (by rw [delH_ne (ne e fun z => by unfold CellO at z; cases z)]; exact e)
  | dct e => exact .dct (by rw [delH_ne (ne e fun z => by unfold CellO at z; cases z)]; exact e)
/-! ### what each lambda does -/
def loC : Nat → Int := fun i => [1, 2, 2, 1, 1, 1, 2].getD i 0
def hiC : Nat → Int := fun i => [6, 12, 6, 6, 5, 2, 6].getD i 0
section
variable {P : Program} {w : World} {K : PySem.W.Frag} {mg : Str → Option Value} {base : Heap} {CI : Addr}
structure Seven (P : Program) (w : World) (K : PySem.W.Frag) (mg : Str → Option Value) (base : Heap) (CI : Addr) : Prop where
  cell : OkY P w K mg base "cell_kind" 8 (sp_both K CI 1 6)
  adder : OkY P w K mg base "adder_kind" 8 (sp_both K CI 2 12)
  swap : OkY P w K mg base "swap_kind" 8 (sp_both K CI 2 6)
  slot : OkY P w K mg base "slot_kind" 8 (sp_both K CI 1 6)
  fading : OkY P w K mg base "fading_kind" 8 (sp_both K CI 1 5)
  queue : OkY P w K mg base "queue_kind" 8 (sp_both K CI 1 2)
  high : OkY P w K mg base "highest_kind" 8 (sp_both K CI 2 6)
def spL (K : PySem.W.Frag) (CI : Addr) (lo hi : Int) (v : V) : VK → XK → Hp → Prop := fun Q E H => sp_both K CI lo hi [v] H Q E
theorem lam_body (S : Seven P w K mg base CI) (v : V) : ∀ i < 7, ∀ (c f c' : Addr) (A : Around) (outer : List Env) (s : Shared) (H : Hp) (Q : VK) (E : XK), Room 8 (A.deeper (envF ((lamC i c).nf c') f s.heap.objs.size)) → spL K CI (loC i) (hiC i) v Q E H →
    ∃ t, PE (ncx (L2.CX P w) P w K mg base ["_law_number"] ((lamC i c).nf c') f A outer s H E) (lamC i c).body t ∧ t [some v] H Q := fun i hi c f c' A outer s H Q E hr h => by
  match i, hi with
  | 0, _ => exact ⟨_, S.cell.call (E := E) (takes_of rfl rfl rfl rfl) (fun _ _ _ _ z => z) hr (by decide) (pa_cons (pv 0) pa_nil), ⟨v, rfl, h⟩⟩
  | 1, _ => exact ⟨_, S.adder.call (E := E) (takes_of rfl rfl rfl rfl) (fun _ _ _ _ z => z) hr (by decide) (pa_cons (pv 0) pa_nil), ⟨v, rfl, h⟩⟩
  | 2, _ => exact ⟨_, S.swap.call (E := E) (takes_of rfl rfl rfl rfl) (fun _ _ _ _ z => z) hr (by decide) (pa_cons (pv 0) pa_nil), ⟨v, rfl, h⟩⟩
  | 3, _ => exact ⟨_, S.slot.call (E := E) (takes_of rfl rfl rfl rfl) (fun _ _ _ _ z => z) hr (by decide) (pa_cons (pv 0) pa_nil), ⟨v, rfl, h⟩⟩
  | 4, _ => exact ⟨_, S.fading.call (E := E) (takes_of rfl rfl rfl rfl) (fun _ _ _ _ z => z) hr (by decide) (pa_cons (pv 0) pa_nil), ⟨v, rfl, h⟩⟩
  | 5, _ => exact ⟨_, S.queue.call (E := E) (takes_of rfl rfl rfl rfl) (fun _ _ _ _ z => z) hr (by decide) (pa_cons (pv 0) pa_nil), ⟨v, rfl, h⟩⟩
  | 6, _ => exact ⟨_, S.high.call (E := E) (takes_of rfl rfl rfl rfl) (fun _ _ _ _ z => z) hr (by decide) (pa_cons (pv 0) pa_nil), ⟨v, rfl, h⟩⟩
theorem lam_call (S : Seven P w K mg base CI) {i : Nat} (hi : i < 7) {c f : Addr} {v : V} {d : PyData} {H : Hp} {Q : VK} {E : XK} (la : LamAt H f (lamC i c)) (hc : H c = some (CellO c v)) (o : OddV H v d)
    (h1 : okD d (loC i) (hiC i) = true → ∀ r H', Same H H' → Q r H') (h2 : okD d (loC i) (hiC i) = false → ∀ (dd : Addr) H', Same H H' → H' dd = some (.xd [(("given" : Str), v)]) → E (.ref CI) (some dd) H') : Callable P w K mg base 9 f H Q E := by
  intro A outer s hr e0
  refine ⟨?_, ?_⟩
  · obtain ⟨c', pm, ctv, z, _⟩ := la.obj e0.hok
    exact ⟨_, _, _, _, z⟩
  · refine lamC_run (F := lamC i c) (k := 8) (x := "_law_number") (sp := spL K CI (loC i) (hiC i) v) (lam_sc i hi) rfl (fun c' pm ctv => lam_bind i hi _ _ _ _ _) (fun f c' A outer s H Q E hr h => lam_body S v i hi c f c' A outer s H Q E hr h) hr e0 la hc ?_
    have back : ∀ H', Same (delH H c) H' → Same H (upd H' c (CellO c v)) := fun H' e b x q => by
      by_cases hb : b = c
      · rw [hb] at q ⊢
        rw [hc] at q
        rw [← Option.some.inj q]
        exact upd_same
      · rw [upd_ne hb]
        exact e b x (by rw [delH_ne hb]; exact q)
    refine ⟨v, _, rfl, num_of (o.del hc) _ _, fun z r H' e _ => h1 z r _ (back H' e), fun z dd hd n => h2 z dd _ (back _ (same_new hd)) ?_⟩
    have hne : dd ≠ c := fun y => by
      rw [y, upd_same] at n
      cases n
    rw [upd_ne hne, upd_same]
end
end TmC

/-! _law_calls, its contract. -/
namespace TmC
open PySem PySem.Spec PyProof.Rows L2 LamX NdefX Tm
local macro_rules | `(tactic| walk_at "x") => `(tactic| dsimp only [tNext, tRet, tSeq, tSeqR, tRetR, tCall, tCB, tC, tCons, tNil, tAsg, tDrop, sFld])
structure DfL (K : PySem.W.Frag) (mg : Str → Option Value) (base : Heap) (x : Str) (st : Stmt) (ps : List Str) (c Pt : Addr) : Prop where
  ex : ∃ (f : Addr) (oc : Value) (od : Option Addr) (kV doc pm : Value) (an : Option Addr) (ct : Value) (osl : Array (Option Value)), mg x = some (.ref f) ∧ PySem.W.keepIn K (.ref f) = true ∧
    K.lookup f = some ⟨oc, od, .func (PySem.W.fnOf x x (defArgs st) (defBody st) (defScope st) .none kV doc pm an (.ref c) ct), osl⟩ ∧ PySem.W.codeIn K (.ref c) x = true ∧ Binds K (PySem.W.fnOf x x (defArgs st) (defBody st) (defScope st) .none kV doc pm an (.ref c) ct) ps []
  tb : TabB base mg c Pt
structure CallsJ (T : List (Addr × Str)) (c l : Addr) (H0 H : Hp) (fs : List Addr) : Prop where
  ext : ExtN H0 H
  tabs : Tabs T H
  at_ : H l = some (.lst (fs.map V.ref))
  nl : H0 l = none
  lam : ∀ i f, fs[i]? = some f → LamAt H f (lamC i c)
theorem tabs_lst {T : List (Addr × Str)} {H : Hp} {l : Addr} {xs ys : List V} (t : Tabs T H) (h : H l = some (.lst xs)) : Tabs T (upd H l (.lst ys)) := fun p hp => by
  obtain ⟨ps, h1, h2, h3⟩ := t p hp
  refine ⟨ps, ?_, h2, fun pos cv hc => ?_⟩
  · rw [upd_ne (ne_of h1 h (by intro z; cases z))]
    exact h1
  · obtain ⟨c0, e1, e2⟩ := h3 pos cv hc
    exact ⟨c0, e1, by rw [upd_ne (ne_of e2 h (codeO_nl _))]; exact e2⟩
theorem lam_lst {H : Hp} {f l : Addr} {F : LamK} {xs ys : List V} (a : LamAt H f F) (h : H l = some (.lst xs)) : LamAt (upd H l (.lst ys)) f F := by
  obtain ⟨c, a1, a2⟩ := a
  exact ⟨c, by rw [upd_ne (ne_of a1 h (lamO_nl _))]; exact a1, by rw [upd_ne (ne_of a2 h (codeO_nl _))]; exact a2⟩
theorem CallsJ.step {T : List (Addr × Str)} {c l f : Addr} {H0 H H1 : Hp} {fs : List Addr} (j : CallsJ T c l H0 H fs) (e : ExtN H H1) (t : Tabs T H1) (la : LamAt H1 f (lamC fs.length c)) :
    H1 l = some (.lst (fs.map V.ref)) ∧ CallsJ T c l H0 (upd H1 l (.lst (fs.map V.ref ++ [.ref f]))) (fs ++ [f]) := by
  have h1 : H1 l = some (.lst (fs.map V.ref)) := e _ _ j.at_ fun ps z => by cases z
  refine ⟨h1, fun b o h n => ?_, tabs_lst t h1, ?_, j.nl, fun i g hg => ?_⟩
  · rw [upd_ne (ne_of_none h j.nl)]
    exact e _ _ (j.ext b o h n) n
  · rw [upd_same, List.map_append]
    rfl
  · by_cases hi : i < fs.length
    · rw [List.getElem?_append_left hi] at hg
      exact lam_lst ((j.lam i g hg).ext e) h1
    · rw [List.getElem?_append_right (by omega)] at hg
      have hz : i - fs.length = 0 := by
        cases h : i - fs.length with
        | zero => rfl
        | succ m =>
          rw [h] at hg
          simp at hg
      rw [hz] at hg
      obtain rfl : f = g := by simpa using hg
      have hi2 : i = fs.length := by omega
      rw [hi2]
      exact lam_lst la h1
def sp_calls (T : List (Addr × Str)) : Sp := fun vs H Q _ => ∃ v : V, vs = [v] ∧ Tabs T H ∧ ∀ (l c : Addr) (fs : List Addr) H', ExtN H H' → Tabs T H' → H' l = some (.lst (fs.map V.ref)) → H l = none → fs.length = 7 → (∀ i f, fs[i]? = some f → LamAt H' f (lamC i c)) → H' c = some (CellO c v) → Q (.ref l) H'
section
variable {P : Program} {w : World} {K : PySem.W.Frag} {mg : Str → Option Value} {base : Heap}
theorem ok_calls {cd Pt : Addr} (D : DfL K mg base "_law_calls" s_calls ["_law_number"] cd Pt) : Ok P w K mg base "_law_calls" 2 ["_law_number"] (sp_calls [(Pt, QC)]) := by
  obtain ⟨f, oc, od, kV, doc, pm, an, ct, osl, h1, h2, h3, h4, h5⟩ := D.ex
  refine ⟨f, _, h1, h2, fn_cell (CX := CX0) (i := 0) (x := "_law_number") h3 h4 sc_calls (fun vs H Q E h => ?_) rfl (by decide +kernel) (fun A outer s H vs Q E c hr hc hn h => ?_), h5⟩
  · obtain ⟨v, rfl, _⟩ := h
    rfl
  · obtain ⟨v, rfl, ht, q⟩ := h
    obtain rfl : s.heap.objs.size + 1 = c := Option.some.inj ((show some (s.heap.objs.size + 1) = _ from rfl).trans hc)
    have hm : (Pt, QC) ∈ [(Pt, QC)] := List.mem_cons_self
    have hu : ∀ p ∈ [(Pt, QC)], p.1 = Pt → p.2 = QC := fun p hp _ => by rw [List.mem_singleton.mp hp]
    have body : ∃ t, PR (cxOf CX0 P w K mg base ["_law_number", "_law_calls_here"] "_law_calls" (defScope s_calls) f (.ref cd) A outer s H E).nox 0 (defBody s_calls) t ∧ t (fun w v H' => H' (s.heap.objs.size + 1) = none → Q v (upd H' (s.heap.objs.size + 1) (CellO (s.heap.objs.size + 1) w))) (L2.start ["_law_number", "_law_calls_here"] [v]) H := by
      refine ⟨_, pr_cons (ps_set (i := 1) sc_calls.nd rfl (.inl rfl) (pe_lst (pa_cons (pe_lam (T := [(Pt, QC)]) (q := QC) D.tb rfl (qc_is _ _ _ _) hm hu rfl (ndef_free (sc := defScope s_calls) (fr := ["_law_number"]) (by decide +kernel))) (pa_nil))))
        (pr_cons (ps_expr (pe_bm PySem.F.plainAttrs_list PySem.F.slot_list_append PySem.F.type_list_append mt_append (pv 1) (pa_cons (pe_lam (T := [(Pt, QC)]) (q := QC) D.tb rfl (qc_is _ _ _ _) hm hu rfl (ndef_free (sc := defScope s_calls) (fr := ["_law_number"]) (by decide +kernel))) (pa_nil))))
        (pr_cons (ps_expr (pe_bm PySem.F.plainAttrs_list PySem.F.slot_list_append PySem.F.type_list_append mt_append (pv 1) (pa_cons (pe_lam (T := [(Pt, QC)]) (q := QC) D.tb rfl (qc_is _ _ _ _) hm hu rfl (ndef_free (sc := defScope s_calls) (fr := ["_law_number"]) (by decide +kernel))) (pa_nil))))
        (pr_cons (ps_expr (pe_bm PySem.F.plainAttrs_list PySem.F.slot_list_append PySem.F.type_list_append mt_append (pv 1) (pa_cons (pe_lam (T := [(Pt, QC)]) (q := QC) D.tb rfl (qc_is _ _ _ _) hm hu rfl (ndef_free (sc := defScope s_calls) (fr := ["_law_number"]) (by decide +kernel))) (pa_nil))))
        (pr_cons (ps_expr (pe_bm PySem.F.plainAttrs_list PySem.F.slot_list_append PySem.F.type_list_append mt_append (pv 1) (pa_cons (pe_lam (T := [(Pt, QC)]) (q := QC) D.tb rfl (qc_is _ _ _ _) hm hu rfl (ndef_free (sc := defScope s_calls) (fr := ["_law_number"]) (by decide +kernel))) (pa_nil))))
        (pr_cons (ps_expr (pe_bm PySem.F.plainAttrs_list PySem.F.slot_list_append PySem.F.type_list_append mt_append (pv 1) (pa_cons (pe_lam (T := [(Pt, QC)]) (q := QC) D.tb rfl (qc_is _ _ _ _) hm hu rfl (ndef_free (sc := defScope s_calls) (fr := ["_law_number"]) (by decide +kernel))) (pa_nil))))
        (pr_cons (ps_expr (pe_bm PySem.F.plainAttrs_list PySem.F.slot_list_append PySem.F.type_list_append mt_append (pv 1) (pa_cons (pe_lam (T := [(Pt, QC)]) (q := QC) D.tb rfl (qc_is _ _ _ _) hm hu rfl (ndef_free (sc := defScope s_calls) (fr := ["_law_number"]) (by decide +kernel))) (pa_nil))))
        (pr_ret (pv 1)))))))), ?_⟩
      walk_at "x"
      refine ⟨ht, fun f0 H1 e1 t1 n1 la1 b1 => ⟨by show 1 ≤ sizeLine; decide, fun l hl => ?_⟩⟩
      have nl : H l = none := b1 l hl
      have j1 : CallsJ [(Pt, QC)] (s.heap.objs.size + 1) l H (upd H1 l (.lst [.ref f0])) [f0] := by
        refine ⟨e1.trans (ExtN.of fun b o e => (upd_ne (ne_of_none e hl)).trans e), t1.ext fun b o e => (upd_ne (ne_of_none e hl)).trans e, upd_same, nl, fun i g hg => ?_⟩
        cases i with
        | zero =>
          obtain rfl : f0 = g := by simpa using hg
          exact (show LamAt H1 f0 (lamC 0 (s.heap.objs.size + 1)) from la1).ext (ExtN.of fun b o e => (upd_ne (ne_of_none e hl)).trans e)
        | succ m => simp at hg
      refine ⟨_, rfl, .inl ⟨rfl, _, SqL.of j1.at_⟩, j1.tabs, fun f1 H2 e2 t2 n2 la2 b2 => ?_⟩
      obtain ⟨a2, j2⟩ := j1.step e2 t2 (f := f1) la2
      refine ⟨l, _, _, rfl, rfl, a2, by show 1 < sizeLine; decide, ?_⟩
      refine ⟨_, rfl, .inl ⟨rfl, _, SqL.of j2.at_⟩, j2.tabs, fun f2 H3 e3 t3 n3 la3 b3 => ?_⟩
      obtain ⟨a3, j3⟩ := j2.step e3 t3 (f := f2) la3
      refine ⟨l, _, _, rfl, rfl, a3, by show 2 < sizeLine; decide, ?_⟩
      refine ⟨_, rfl, .inl ⟨rfl, _, SqL.of j3.at_⟩, j3.tabs, fun f3 H4 e4 t4 n4 la4 b4 => ?_⟩
      obtain ⟨a4, j4⟩ := j3.step e4 t4 (f := f3) la4
      refine ⟨l, _, _, rfl, rfl, a4, by show 3 < sizeLine; decide, ?_⟩
      refine ⟨_, rfl, .inl ⟨rfl, _, SqL.of j4.at_⟩, j4.tabs, fun f4 H5 e5 t5 n5 la5 b5 => ?_⟩
      obtain ⟨a5, j5⟩ := j4.step e5 t5 (f := f4) la5
      refine ⟨l, _, _, rfl, rfl, a5, by show 4 < sizeLine; decide, ?_⟩
      refine ⟨_, rfl, .inl ⟨rfl, _, SqL.of j5.at_⟩, j5.tabs, fun f5 H6 e6 t6 n6 la6 b6 => ?_⟩
      obtain ⟨a6, j6⟩ := j5.step e6 t6 (f := f5) la6
      refine ⟨l, _, _, rfl, rfl, a6, by show 5 < sizeLine; decide, ?_⟩
      refine ⟨_, rfl, .inl ⟨rfl, _, SqL.of j6.at_⟩, j6.tabs, fun f6 H7 e7 t7 n7 la7 b7 => ?_⟩
      obtain ⟨a7, j7⟩ := j6.step e7 t7 (f := f6) la7
      refine ⟨l, _, _, rfl, rfl, a7, by show 6 < sizeLine; decide, ?_⟩
      refine ⟨_, rfl, v, rfl, fun hn' => ?_⟩
      generalize upd H7 l _ = H8 at j7 hn'
      have up : ∀ b o, H8 b = some o → upd H8 (s.heap.objs.size + 1) (CellO (s.heap.objs.size + 1) v) b = some o := fun b o e => (upd_ne (ne_of_none e hn')).trans e
      exact q l _ _ _ (j7.ext.trans (ExtN.of up)) (j7.tabs.ext up) (up _ _ j7.at_) nl rfl (fun i g hg => (j7.lam i g hg).ext (ExtN.of up)) upd_same
    obtain ⟨t, a, b⟩ := body
    exact ⟨t, a.nox, b⟩
end
end TmC

/-! _law_called: a lambda called in a try; defs where nothing is being told. -/
namespace TmC
open PySem PySem.Spec PyProof.Rows L2 LamX NdefX Tm
local macro_rules | `(tactic| walk_at "x") => `(tactic| dsimp only [tNext, tRet, tSeq, tSeqR, tRetR, tCall, tCB, tC, tCons, tNil, tAsg, tDrop, sFld])
structure OkG (P : Program) (w : World) (K : PySem.W.Frag) (mg : Str → Option Value) (base : Heap) (x : Str) (k : Nat) (sp : Sp) : Prop where
  ex : ∃ f : Addr, mg x = some (.ref f) ∧ PySem.W.keepIn K (.ref f) = true ∧ ∀ (A : Around) (outer : List Env) (s : Shared) (H : Hp) (us : List Value) (vs : List V) (Q : VK), Room k A → A.guards = some [] → Env0 P w K mg base A outer s H → Vals vs us → sp vs H Q E0 →
    codeAny (model P w) A (.call (.ref f) ⟨us, []⟩) (CR CX0 outer P w H s Q E0) s
section
variable {X : Cx} {x : Str} {k j : Nat} {sp : Sp} {e : Expr} {es : List Expr} {t : TA} {p pos : Pos}
theorem OkG.call (O : OkG X.prog X.w X.K X.mg X.base x k sp) (gu : X.A.guards = some []) (hr : Room j X.A) (hk : k ≤ j) (ha : PA X (e :: es) t) (hg : Gl X x := by rfl) (hdb : (x == ("__debug__" : Str)) = false := by decide)
    (he : starEach (e :: es) X.env = (false, eval e X.env) :: starEach es X.env := by rfl) (hpl : (backTo pos (starEach es X.env)).any (·.1) = false := by rfl) :
    PE X (.Call (.Name x p) (e :: es) [] pos) (tCallY sp E0 t) := by
  refine ⟨fun pins s σ H Q I h => ?_⟩
  obtain ⟨f, hm, hk', run⟩ := O.ex
  refine wpAny_Call_Name_kw (ld_glob I hg hm ?_ hdb)
  refine PySem.W.callWith_K (h₀ := X.base) I.ok.mod.kin hk' (thn (ha.run pos pins s σ H _ I h) fun us s1 ⟨vs, H1, I1, r, q⟩ => ⟨I1.kIn, ?_⟩) he hpl
  refine wpAny_call (codeAny_mono (run X.A X.stack s1 H1 us vs Q (hr.mono hk) gu I1.env0 r q) fun r s' hq => ?_)
  cases r with
  | error e => exact False.elim hq
  | ok fl =>
    cases fl with
    | ret u => exact I1.after hq
    | next => exact False.elim hq
    | brk => exact False.elim hq
    | cont => exact False.elim hq
end
/-- a def by its body, where nothing is being told -/
theorem fnG_of {CX : CXT} {P : Program} {w : World} {K : PySem.W.Frag} {mg : Str → Option Value} {base : Heap} {k : Nat} {f : Addr} {name qual : Str} {params : Arguments} {body : List Stmt} {scope : Scope} {dV kV doc pm cdv ct oc : Value} {an od : Option Addr}
    {osl : Array (Option Value)} {N ps : List Str} {sp : Sp} (lk : K.lookup f = some ⟨oc, od, .func (PySem.W.fnOf name qual params body scope dV kV doc pm an cdv ct), osl⟩) (hcd : PySem.W.codeIn K cdv qual = true) (S : FnScope N ps scope)
    (len : ∀ vs H Q E, sp vs H Q E → vs.length = ps.length)
    (hbody : ∀ (A : Around) (outer : List Env) (s : Shared) (H : Hp) (vs : List V) (Q : VK) (E : XK), Room k (A.deeper (envOfC qual scope s.heap.objs.size f cdv)) → A.guards = some [] → sp vs H Q E →
      ∃ t, PSs (cxOf CX P w K mg base N qual scope f cdv A outer s H E) body t ∧ t { nx := fun _ H' => Q .non H', rt := Q } (L2.start N vs) H) :
    ∀ (A : Around) (outer : List Env) (s : Shared) (H : Hp) (args : Args) (us : List Value) (vs : List V) (Q : VK) (E : XK), Room (k + 1) A → A.guards = some [] → Env0 P w K mg base A outer s H → BindsTo s (PySem.W.fnOf name qual params body scope dV kV doc pm an cdv ct) args (ps.zip us) → Vals vs us → sp vs H Q E →
      codeAny (model P w) A (.call (.ref f) args) (CR CX outer P w H s Q E) s := by
  intro A outer s H args us vs Q E hr gu e0 hb r hsp
  have hl := len _ _ _ _ hsp
  have KX : K.In s.heap := e0.mod.kin.keeps fun b o e => (e0.bs b o e).1
  have lim : s.heap.NoLimit := e0.mod.nolimit.keeps fun b o e => (e0.bs b o e).1
  have hkind : ∀ y ∈ ps.zip us, scope.names.lookup y.1 = some .local ∨ (scope.names.lookup y.1 = some .cell ∧ ((cellsFrom (s.heap.objs.size + 1) scope.names []).lookup y.1).isSome = true) := fun ⟨n, v⟩ hy => by
    rcases S.par n (List.of_mem_zip hy).1 with q | q
    · exact .inl q
    · exact .inr ⟨q, PySem.W.cellsFrom_some _ _ _ (.inl q)⟩
  refine codeAny_call_function hr.depth (KX _ _ lk) rfl S.co S.gen rfl (PySem.W.codeRec_of KX hcd) (hb _ _ _ _ ?_)
  refine wpAny_newFunctionEnv_cells S.kind hkind fun env he s1 xx => ?_
  subst he
  refine ⟨lim.keeps xx.toInCall.keep, codeAny_func ?_⟩
  obtain ⟨t, ht, hq⟩ := hbody A outer s H vs Q E (hr.deeper _) gu hsp
  have I : Inv (cxOf CX P w K mg base N qual scope f cdv A outer s H E) [] (L2.start N vs) H s1 := inv_start S hr.hd e0 hl r xx
  refine wpAny_mono (ht.run [] s1 (L2.start N vs) H _ I hq) (fun fl s' hs => ?_) fun e s' hs => hs
  have fin : ∀ {σ' : L2.St} {H' : Hp} {v : V} {u : Value}, Inv (cxOf CX P w K mg base N qual scope f cdv A outer s H E) [] σ' H' s' → L2.RelV v u → Q v H' → CE outer P w H s Q u s' :=
    fun {σ' H' v u} J rv q => ⟨v, H', J.os, J.bare, J.base, J.hok, rv, q⟩
  cases fl with
  | ret u =>
    obtain ⟨v, σ', H', J, rv, q⟩ := hs
    exact fin J rv q
  | next =>
    obtain ⟨σ', H', J, q⟩ := hs
    exact fin (v := V.non) (u := Value.none) J rfl q
  | brk =>
    obtain ⟨_, _, _, q⟩ := hs
    exact False.elim q
  | cont =>
    obtain ⟨_, _, _, q⟩ := hs
    exact False.elim q
abbrev s_called : Stmt := top 37
theorem sc_called : FnScope ["_law_call", "e"] ["_law_call"] (defScope s_called) := ⟨rfl, rfl, rfl, by decide +kernel, rfl, by decide +kernel, by decide +kernel⟩
def wordC (b : Bool) (d : PyData) : Str := if b = true then "" else ("number " : Str) ++ d.shown
def sp_called : Sp := fun vs H Q _ => ∃ (f c : Addr) (i : Nat) (v : V) (d : PyData), vs = [.ref f] ∧ i < 7 ∧ LamAt H f (lamC i c) ∧ H c = some (CellO c v) ∧ OddV H v d ∧ d.shown.length ≤ 1000 ∧ ∀ H', Same H H' → Q (.str (wordC (okD d (loC i) (hiC i)) d)) H'
section
variable {P : Program} {w : World} {K : PySem.W.Frag} {mg : Str → Option Value} {base : Heap} {CI fI : Addr}
theorem ok_called (S : Seven P w K mg base CI) (N : PySem.NumX.NumTxt K mg CI fI) (hrepr : mg "repr" = none) (D : Df K mg "_law_called" s_called ["_law_call"]) : OkG P w K mg base "_law_called" 10 sp_called := by
  obtain ⟨f, fd, h1, h2, F, h5⟩ := D.ex
  obtain ⟨oc, od, kV, doc, pm, an, cdv, ct, osl, rfl, h3, h4⟩ := F.ex
  refine ⟨f, h1, h2, fun A outer s H us vs Q hr gu e0 r h => ?_⟩
  have hl : us.length = 1 := by
    obtain ⟨lf, c, i, v, d, rfl, _⟩ := h
    exact r.length.symm
  have KX : K.In s.heap := e0.mod.kin.keeps fun b o e => (e0.bs b o e).1
  have bt := h5 s us KX (by rw [List.append_nil]; exact hl)
  rw [List.append_nil] at bt
  refine fnG_of (CX := CX0) (k := 9) h3 h4 sc_called (sp := sp_called) (fun vs H Q E h => ?_) (fun A outer s H vs Q E hr gu h => ?_) A outer s H ⟨us, []⟩ us vs Q E0 hr gu e0 bt r h
  · obtain ⟨lf, c, i, v, d, rfl, _⟩ := h
    rfl
  · obtain ⟨lf, c, i, v, d, rfl, hi, la, hc, o, hlen, q⟩ := h
    have body : ∃ t, PSs (cxOf CX0 P w K mg base ["_law_call", "e"] "_law_called" (defScope s_called) f cdv A outer s H E).nox (defBody s_called) t ∧ t { nx := fun _ H' => Q .non H', rt := Q } (L2.start ["_law_call", "e"] [.ref lf]) H := by
      refine ⟨_, pss_cons (ps_try_as (i := 1) (tb := fun W => tDrop (tCall0C P w K mg base 9 0 W)) rfl rfl sc_called.nd rfl rfl ⟨rfl, by decide, .inl N.gC⟩ L2.takes0 (fun W pn xe tk _ => pss_one (ps_expr (pe_call0C (i := 0) (k := 9) tk hr (by decide) rfl (.inl rfl))))
          (fun a oe cls dx pn hz hf => pss_one (ps_ret (pe_op op_add_str (pe_str) (pe_callB (call_reprO (by exact gu) (by have := hr.un; show A.units + 3 + 100 < cLine; have h' : A.units + 3 + 16 * 9 + 200 < cLine := this; omega)) (by rfl) hrepr (by decide +kernel) (pa_cons (pe_given N hz hf (pv 1)) (pa_nil)))))))
        (pss_one (ps_ret (pe_str))), ?_⟩
      refine ⟨lf, rfl, lam_call S hi la hc o (fun hb r H' e => ?_) (fun hb dd H' e hd => ?_)⟩
      · have := q H' e
        rw [hb] at this
        exact this
      · refine ⟨true, N.te, fun _ a ha => ?_, fun z => Bool.noConfusion z⟩
        have := q H' e
        rw [hb] at this
        have sl : (1100 : Nat) ≤ sizeLine := by decide
        refine ⟨_, rfl, rfl, rfl, dd, v, rfl, hd, v, d, rfl, o.mono (ExtN.of e), by omega, _, _, rfl, rfl, ?_, this⟩
        have h7 : ("number " : Str).length = 7 := by decide +kernel
        show ("number " : Str).length + d.shown.length ≤ sizeLine
        omega
    obtain ⟨t, a, b⟩ := body
    exact ⟨t, a.nox, b⟩
end
end TmC

/-! What the law's turns need: words, ranges, what stays. -/
namespace TmC
open PySem PySem.Spec PyProof.Rows L2 LamX NdefX Tm
def KX (l : Addr) (H H' : Hp) : Prop := ∀ b o, H b = some o → b ≠ l → (∀ ps, o ≠ .tbl ps) → H' b = some o
structure Good (l : Addr) (T : List (Addr × Str)) (H0 H : Hp) : Prop where
  kx : KX l H0 H
  vat : VatV H l
  tabs : Tabs T H
theorem Good.same {l : Addr} {T : List (Addr × Str)} {H0 H H' : Hp} (g : Good l T H0 H) (e : Same H H') : Good l T H0 H' :=
  ⟨fun b o h n1 n2 => e b o (g.kx b o h n1 n2), (KL.of g.vat e).2, g.tabs.ext e⟩
theorem tabs_kl {l : Addr} {T : List (Addr × Str)} {H H' : Hp} (v : VatV H l) (k : KL l H H') (t : Tabs T H) : Tabs T H' := fun p hp => by
  obtain ⟨a, b, c, hv⟩ := v
  obtain ⟨ps, h1, h2, h3⟩ := t p hp
  refine ⟨ps, k.1 _ _ h1 (fun z => ?_), h2, fun pos cv hc => ?_⟩
  · rw [z, hv] at h1
    cases h1
  · obtain ⟨c0, e1, e2⟩ := h3 pos cv hc
    refine ⟨c0, e1, k.1 _ _ e2 (fun z => ?_)⟩
    rw [z, hv] at e2
    exact codeO_nl _ (Option.some.inj e2).symm
theorem Good.draw {l : Addr} {T : List (Addr × Str)} {H0 H H' : Hp} (g : Good l T H0 H) (k : KL l H H') : Good l T H0 H' :=
  ⟨fun b o h n1 n2 => k.1 b o (g.kx b o h n1 n2) n1, k.2, tabs_kl g.vat k g.tabs⟩
theorem Good.lam {l : Addr} {T : List (Addr × Str)} {H0 H H' : Hp} (g : Good l T H0 H) (e : ExtN H H') (t : Tabs T H') : Good l T H0 H' :=
  ⟨fun b o h n1 n2 => e b o (g.kx b o h n1 n2) n2, by obtain ⟨a, b, c, h⟩ := g.vat; exact ⟨a, b, c, e _ _ h (fun ps z => by cases z)⟩, t⟩
/-! ### the words that seven calls tell -/
def wordsC (d : PyData) : List Str := (List.range 7).map fun j => wordC (okD d (loC j) (hiC j)) d
theorem can_all : ∀ {ds : List PyData}, (∀ d ∈ ds, PyData.canLay0 d = true) → PyData.canLayAll0 ds = true
  | [], _ => rfl
  | d :: r, h => by
    show (PyData.canLay0 d && PyData.canLayAll0 r) = true
    rw [h d List.mem_cons_self, can_all fun x hx => h x (List.mem_cons_of_mem _ hx)]
    rfl
theorem depth_all {n : Nat} : ∀ {ds : List PyData}, (∀ d ∈ ds, PyData.depth d ≤ n) → PyData.depthAll ds ≤ n
  | [], _ => Nat.zero_le _
  | d :: r, h => Nat.max_le.mpr ⟨h d List.mem_cons_self, depth_all fun x hx => h x (List.mem_cons_of_mem _ hx)⟩
theorem eqv_all : ∀ {ds : List PyData}, (∀ d ∈ ds, PyData.eqv d d = true) → PyData.eqvAll ds ds = true
  | [], _ => rfl
  | d :: r, h => by
    show (PyData.eqv d d && PyData.eqvAll r r) = true
    rw [h d List.mem_cons_self, eqv_all fun x hx => h x (List.mem_cons_of_mem _ hx)]
    rfl
/-- what a list and a tuple of it need -/
structure Nice (n : Nat) (d : PyData) : Prop where
  can : PyData.canLay0 d = true
  deep : PyData.depth d ≤ n
  eqv : PyData.eqv d d = true
theorem Nice.shaped {n : Nat} {d : PyData} (h : Nice n d) (hn : n ≤ 64) : SeqAt.shaped d = true := by
  unfold SeqAt.shaped
  rw [h.can, decide_eq_true (Nat.le_trans h.deep hn)]
  rfl
theorem Nice.list {n : Nat} {ds : List PyData} (h : ∀ d ∈ ds, Nice n d) : Nice (n + 1) (.list ds) :=
  ⟨can_all fun d hd => (h d hd).can, Nat.succ_le_succ (depth_all fun d hd => (h d hd).deep), eqv_all fun d hd => (h d hd).eqv⟩
theorem nice_str {x : Str} (h : PyData.strOk x = true) : Nice 0 (.str x) := ⟨h, Nat.le_refl _, beq_self_eq_true x⟩
theorem nice_strs {xs : List Str} (h : xs.all PyData.strOk = true) : Nice 1 (.list (xs.map .str)) := .list fun d hd => by
  obtain ⟨x, hx, rfl⟩ := List.mem_map.mp hd
  exact nice_str (List.all_eq_true.mp h x hx)
theorem words_ok {d : PyData} (h : (wordsC d).all PyData.strOk = true) : SeqAt.shaped (.list ((wordsC d).map .str)) = true ∧ PyData.eqv (.list ((wordsC d).map .str)) (.list ((wordsC d).map .str)) = true :=
  ⟨(nice_strs h).shaped (by decide), (nice_strs h).eqv⟩
theorem dp_words {K : PySem.W.Frag} {H : Hp} {p : Addr} {ws : List Str} (h : H p = some (.lst (ws.map V.str))) : Dp K H (.ref p) (.list (ws.map .str)) := by
  refine .lst (SqL.of h) ?_
  clear h
  induction ws with
  | nil => exact .nil
  | cons w ws ih => exact .cons (.str w) ih
theorem range7_at {i z : Nat} (h : (List.range 7)[i]? = some z) : z = i ∧ i < 7 := by
  obtain ⟨h1, h2⟩ := List.getElem?_eq_some_iff.mp h
  rw [List.getElem_range] at h2
  exact ⟨h2.symm, by simpa using h1⟩
section
variable {K : PySem.W.Frag} {H : Hp} {Q : VK} {T : List (Addr × Str)}
theorem ev_words {a0 a1 a2 a3 a4 a5 a6 a7 a8 a9 a10 a11 a12 : Option V} {i : Nat} {v : V} {d : PyData} (hv : [a0, a1, a2, a3, a4, a5, a6, a7, a8, a9, a10, a11, a12][i]? = some (some v)) (ht : Tabs T H) (o : OddV H v d) (hl : d.shown.length ≤ 1000)
    (q : ∀ p H', ExtN H H' → Tabs T H' → H' p = some (.lst ((wordsC d).map V.str)) → Q (.ref p) H') :
    tLc (iList K (tCall (sp_calls T) [] E0 (tCons (tVar i) tNil))) (gName 10) tYes (tCallY sp_called E0 (tCons (tVar 10) tNil)) [10] [a0, a1, a2, a3, a4, a5, a6, a7, a8, a9, a10, a11, a12] H Q := by
  refine ⟨v, hv, v, rfl, ht, fun l c fs H1 e1 t1 hl1 nl h7 la hc => ⟨l, rfl, ⟨_, SqL.of hl1⟩, ?_⟩⟩
  refine lc_name (Q := Q) (walk_list) (List.range 7) (fun _ => true) (fun z v _ => v = V.str (wordC (okD d (loC z) (hiC z)) d)) (by rw [List.length_map, h7]; rfl) (by rw [List.length_map, h7]; decide) (fun _ => rfl) (fun _ _ _ _ _ h => h) (fun H2 e2 => SqL.of (e2 _ _ hl1)) (fun i H x H' y => by rw [y.1]; exact Same.refl _)
    (fun j z x H2 H' hz e2 y => ?_) (fun p H2 ys hp e2 hys hP => ?_)
  · obtain ⟨rfl, hj⟩ := range7_at hz
    obtain ⟨rfl, y⟩ := y
    obtain ⟨f, hf, rfl⟩ : ∃ f, fs[z]? = some f ∧ V.ref f = x := by
      rw [List.getElem?_map] at y
      exact Option.map_eq_some_iff.mp y
    refine ⟨evt_yes, fun _ H3 e3 Q q => ?_⟩
    have e13 := e2.trans e3
    refine ⟨_, rfl, f, c, z, v, d, rfl, hj, (la z f hf).ext (ExtN.of e13), e13 _ _ hc, (o.mono e1).mono (ExtN.of e13), hl, fun H4 e4 => ?_⟩
    exact q _ _ e4 rfl
  · rw [Tm.filter_all] at hP
    have ey := strs_eq (paired_mapR (F := fun v z => v = V.str z) (fun z => wordC (okD d (loC z) (hiC z)) d) hP)
    rw [ey] at hys
    exact q p H2 (e1.trans (ExtN.of e2)) (t1.ext e2) hys
/-! ### the ranges -/
def RngV (H : Hp) (r : Addr) : Prop := ∃ ps : List Addr, ps.length = 7 ∧ H r = some (.lst (ps.map V.ref)) ∧ ∀ j a, ps[j]? = some a → H a = some (.tup [.int (loC j), .int (hiC j)])
theorem RngV.keep {H H' : Hp} {r : Addr} (h : RngV H r) (e : ∀ b o, H b = some o → (∀ ps, o ≠ .tbl ps) → H' b = some o) : RngV H' r := by
  obtain ⟨ps, h1, h2, h3⟩ := h
  exact ⟨ps, h1, e _ _ h2 (fun _ z => by cases z), fun j a hj => e _ _ (h3 j a hj) (fun _ z => by cases z)⟩
theorem lc_pairs {σ : L2.St} {j k : Nat} {te : TE} {vs : List Nat} {tl : TE} {r : Addr} (hl : Ev tl σ H fun v _ => v = .ref r) (R : RngV H r) (W : Nat → Str) (hw : ∀ x y, wipe (((wipe σ vs).set j (some x)).set k (some y)) vs = wipe σ vs)
    (he : ∀ i < 7, ∀ H3, Same H H3 → Ev te (((wipe σ vs).set j (some (.int (loC i)))).set k (some (.int (hiC i)))) H3 (fun v _ => v = .str (W i))) (hq : ∀ p H1, Same H H1 → H1 p = some (.lst (((List.range 7).map W).map V.str)) → Q (.ref p) H1) :
    tLc (iList K tl) (gTup K 2 (gCons (gName j) (gCons (gName k) gNil))) tYes te vs σ H Q := by
  obtain ⟨ps, h7, hp, hps⟩ := R
  refine hl _ fun v H1 e ev => ?_
  subst ev
  refine ⟨r, rfl, ⟨_, SqL.of (e _ _ hp)⟩, lc_go (Q := Q) (walk_list) (List.range 7) (fun _ => true) (fun z v _ => v = V.str (W z)) (by rw [List.length_map, h7]; rfl) (by rw [List.length_map, h7]; decide) (fun _ _ _ _ _ h => h) (fun H2 e2 => SqL.of (e2 _ _ (e _ _ hp))) (fun i z x H2 H' hz e2 y Qg qg => ?_) (fun p2 H2 ys hp2 e2 hys hP => ?_)⟩
  · obtain ⟨rfl, hi⟩ := range7_at hz
    obtain ⟨rfl, y⟩ := y
    obtain ⟨f, hf, rfl⟩ : ∃ f, ps[z]? = some f ∧ V.ref f = x := by
      rw [List.getElem?_map] at y
      exact Option.map_eq_some_iff.mp y
    refine ⟨f, _, rfl, SqT.of (e2 _ _ (e _ _ (hps z f hf))), rfl, _, _, rfl, ?_⟩
    dsimp only [gName]
    refine ⟨_, _, rfl, ?_⟩
    dsimp only [gName]
    refine ⟨rfl, ?_⟩
    exact qg _ _ (hw _ _) (Same.refl _) evt_yes fun _ H3 e3 => he z hi H3 (e.trans (e2.trans e3))
  · rw [Tm.filter_all] at hP
    have ey := strs_eq (paired_mapR (F := fun v z => v = V.str z) W hP)
    rw [ey] at hys
    exact hq p2 H2 (e.trans e2) hys
end
section
variable {P : Program} {w : World} {K : PySem.W.Frag} {mg : Str → Option Value} {base : Heap}
def sp_pick : Sp := fun vs H Q _ => ∃ (l a : Addr) (xs : List V), vs = [.ref l, .ref a] ∧ VatV H l ∧ H a = some (.lst xs) ∧ a ≠ l ∧ 0 < xs.length ∧ xs.length ≤ 1000 ∧ ∀ v H', v ∈ xs → KL l H H' → Q v H'
theorem ok_pick (B : Bt mg) (O_law_draw : Ok P w K mg base "_law_draw" 1 ["_law_vat_here", "_law_total"] sp_draw) (D : Df K mg "_law_choice" s_choice ["_law_vat_here", "_law_items"]) : Ok P w K mg base "_law_choice" 2 ["_law_vat_here", "_law_items"] sp_pick := by
  refine D.ok sc_law_choice (fun vs H Q E h => ?_) (fun f cdv A outer s H vs Q E hr h => ?_)
  · obtain ⟨l, a, xs, rfl, _⟩ := h
    rfl
  · obtain ⟨l, a, xs, rfl, hv, ha, nal, h0, h1, q⟩ := h
    refine ⟨_, pss_one (ps_ret (pe_ix (ixLK (K := K)) (pv 1) (O_law_draw.call hr (ha := pa_cons (pv 0) (pa_cons (pe_callB (lenK (K := K)) (by rfl) B.len (by decide +kernel) (pa_cons (pv 1) (pa_nil))) (pa_nil)))) (fun _ _ => rfl))), ?_⟩
    refine ⟨_, rfl, _, rfl, _, rfl, a, xs, rfl, .inl (SqL.of ha), l, _, rfl, hv, by omega, by omega, fun d H' d0 d1 k => ?_⟩
    obtain ⟨j, rfl⟩ := Int.eq_ofNat_of_zero_le d0
    have hj : j < xs.length := by omega
    exact ⟨a, xs, _, xs[j], rfl, rfl, SqL.of (k.1 _ _ ha nal), atI_nat (List.getElem?_eq_getElem hj), q _ H' (List.getElem_mem hj) k⟩
end
end TmC

set_option maxHeartbeats 4000000
/-! The law. -/
namespace TmC
open PySem PySem.Spec PyProof.Rows L2 LamX NdefX Tm
local macro_rules | `(tactic| walk_at "x") => `(tactic| dsimp only [tNext, tRet, tSeq, tCall, tCB, tC, tCons, tNil, tAsg, tDrop, sFld])
/-! ### odd values, numbers -/
def oddL (p1 p2 p3 : Addr) : List V := [.non, .bl true, .bl false, .str "2", .ref p1, .ref p2, .ref p3, .int ((10 : Int) ^ (60 : Int).toNat), .int ((10 : Int) ^ (59 : Int).toNat), .int (-1), .int 0, .int 13, .int (0 - (10 : Int) ^ (60 : Int).toNat * (10 : Int) ^ (39 : Int).toNat)]
def BadD (d : PyData) : Prop := d.shown.length ≤ 1000 ∧ (∀ i < 7, okD d (loC i) (hiC i) = false) ∧ (wordsC d).all PyData.strOk = true
instance (d : PyData) : Decidable (BadD d) := by unfold BadD; exact inferInstance
theorem odd_mem {H : Hp} {p1 p2 p3 : Addr} (h1 : H p1 = some (.tup [.int 2])) (h2 : H p2 = some (.lst [.int 2])) (h3 : H p3 = some (.dK [])) {v : V} (hv : v ∈ oddL p1 p2 p3) : ∃ d, OddV H v d ∧ BadD d := by
  unfold oddL at hv
  simp only [List.mem_cons, List.not_mem_nil, or_false] at hv
  rcases hv with rfl | rfl | rfl | rfl | rfl | rfl | rfl | rfl | rfl | rfl | rfl | rfl | rfl
  · exact ⟨_, .non, by decide +kernel⟩
  · exact ⟨_, .bl true, by decide +kernel⟩
  · exact ⟨_, .bl false, by decide +kernel⟩
  · exact ⟨_, .str _ (by decide +kernel), by decide +kernel⟩
  · exact ⟨_, .tup _ (by decide +kernel) h1, by decide +kernel⟩
  · exact ⟨_, .lst _ (by decide +kernel) h2, by decide +kernel⟩
  · exact ⟨_, .dct h3, by decide +kernel⟩
  · exact ⟨_, .int _ (by decide +kernel), by decide +kernel⟩
  · exact ⟨_, .int _ (by decide +kernel), by decide +kernel⟩
  · exact ⟨_, .int _ (by decide +kernel), by decide +kernel⟩
  · exact ⟨_, .int _ (by decide +kernel), by decide +kernel⟩
  · exact ⟨_, .int _ (by decide +kernel), by decide +kernel⟩
  · exact ⟨_, .int _ (by decide +kernel), by decide +kernel⟩
theorem words_bad {d : PyData} (h : ∀ i < 7, okD d (loC i) (hiC i) = false) : wordsC d = List.replicate 7 (("number " : Str) ++ d.shown) := by
  have e : ∀ j, j < 7 → wordC (okD d (loC j) (hiC j)) d = ("number " : Str) ++ d.shown := fun j hj => by
    rw [h j hj]
    rfl
  unfold wordsC
  rw [List.map_congr_left (g := fun _ => ("number " : Str) ++ d.shown) fun j hj => e j (List.mem_range.mp hj)]
  rfl
theorem num_fine : ∀ m : Nat, m < 15 → (PyData.int ((m : Int) - 1)).shown.length ≤ 1000 ∧ (wordsC (.int ((m : Int) - 1))).all PyData.strOk = true ∧ ((m : Int) - 1).natAbs.log2 < 1920 := by decide +kernel
theorem flat7 (w : Str) : (List.replicate (7 : Int).toNat [V.str w]).flatten = (List.replicate 7 w).map V.str := rfl
theorem slot3 : (slotT 3).length = 3 := by decide +kernel
theorem same_permT {t u : Tab} (p : t.Perm u) : sameT u t = true := by
  unfold sameT
  rw [decide_eq_true p.length_eq.symm, Bool.true_and, List.all_eq_true]
  exact fun e he => decide_eq_true (p.mem_iff.mpr he)
theorem seqL_keep {K : PySem.W.Frag} {H H' : Hp} {a : Addr} {xs : List V} (h : SqL K H a xs) (e : ∀ b o, H b = some o → (∀ ps, o ≠ .tbl ps) → H' b = some o) : SqL K H' a xs := by
  rcases h with (h | ⟨o, h⟩) | h
  · exact .inl (.inl (e _ _ h fun _ z => by cases z))
  · exact .inl (.inr ⟨o, e _ _ h fun _ z => by cases z⟩)
  · exact .inr h
theorem kind_keep {C : Addr} {H H' : Hp} {v : V} {t : Tab} (h : KindV C H v t) (e : Same H H') : KindV C H' v t := by
  obtain ⟨a, dx, d, kvs, e1, e2, e3, e4, e5⟩ := h
  exact ⟨a, dx, d, kvs, e1, e _ _ e2, e _ _ e3, e4.mono (tups_of e), e5⟩
theorem rng_made {H : Hp} {p0 p1 p2 p3 p4 p5 p6 r : Addr} (h0 : H p0 = none) (h1 : upd H p0 (.tup [.int 1, .int 6]) p1 = none) (h2 : upd (upd H p0 (.tup [.int 1, .int 6])) p1 (.tup [.int 2, .int 12]) p2 = none)
    (h3 : upd (upd (upd H p0 (.tup [.int 1, .int 6])) p1 (.tup [.int 2, .int 12])) p2 (.tup [.int 2, .int 6]) p3 = none) (h4 : upd (upd (upd (upd H p0 (.tup [.int 1, .int 6])) p1 (.tup [.int 2, .int 12])) p2 (.tup [.int 2, .int 6])) p3 (.tup [.int 1, .int 6]) p4 = none)
    (h5 : upd (upd (upd (upd (upd H p0 (.tup [.int 1, .int 6])) p1 (.tup [.int 2, .int 12])) p2 (.tup [.int 2, .int 6])) p3 (.tup [.int 1, .int 6])) p4 (.tup [.int 1, .int 5]) p5 = none)
    (h6 : upd (upd (upd (upd (upd (upd H p0 (.tup [.int 1, .int 6])) p1 (.tup [.int 2, .int 12])) p2 (.tup [.int 2, .int 6])) p3 (.tup [.int 1, .int 6])) p4 (.tup [.int 1, .int 5])) p5 (.tup [.int 1, .int 2]) p6 = none)
    (h7 : upd (upd (upd (upd (upd (upd (upd H p0 (.tup [.int 1, .int 6])) p1 (.tup [.int 2, .int 12])) p2 (.tup [.int 2, .int 6])) p3 (.tup [.int 1, .int 6])) p4 (.tup [.int 1, .int 5])) p5 (.tup [.int 1, .int 2])) p6 (.tup [.int 2, .int 6]) r = none) :
    Same H (upd (upd (upd (upd (upd (upd (upd (upd H p0 (.tup [.int 1, .int 6])) p1 (.tup [.int 2, .int 12])) p2 (.tup [.int 2, .int 6])) p3 (.tup [.int 1, .int 6])) p4 (.tup [.int 1, .int 5])) p5 (.tup [.int 1, .int 2])) p6 (.tup [.int 2, .int 6])) r (.lst [.ref p0, .ref p1, .ref p2, .ref p3, .ref p4, .ref p5, .ref p6])) ∧
    RngV (upd (upd (upd (upd (upd (upd (upd (upd H p0 (.tup [.int 1, .int 6])) p1 (.tup [.int 2, .int 12])) p2 (.tup [.int 2, .int 6])) p3 (.tup [.int 1, .int 6])) p4 (.tup [.int 1, .int 5])) p5 (.tup [.int 1, .int 2])) p6 (.tup [.int 2, .int 6])) r (.lst [.ref p0, .ref p1, .ref p2, .ref p3, .ref p4, .ref p5, .ref p6])) r := by
  have s0 := same_new (o := .tup [.int 1, .int 6]) h0
  have a0 : upd H p0 (.tup [.int 1, .int 6]) p0 = _ := upd_same
  generalize upd H p0 (.tup [.int 1, .int 6]) = H1 at *
  have s1 := same_new (o := .tup [.int 2, .int 12]) h1
  have a1 : upd H1 p1 (.tup [.int 2, .int 12]) p1 = _ := upd_same
  generalize upd H1 p1 (.tup [.int 2, .int 12]) = H2 at *
  have s2 := same_new (o := .tup [.int 2, .int 6]) h2
  have a2 : upd H2 p2 (.tup [.int 2, .int 6]) p2 = _ := upd_same
  generalize upd H2 p2 (.tup [.int 2, .int 6]) = H3 at *
  have s3 := same_new (o := .tup [.int 1, .int 6]) h3
  have a3 : upd H3 p3 (.tup [.int 1, .int 6]) p3 = _ := upd_same
  generalize upd H3 p3 (.tup [.int 1, .int 6]) = H4 at *
  have s4 := same_new (o := .tup [.int 1, .int 5]) h4
  have a4 : upd H4 p4 (.tup [.int 1, .int 5]) p4 = _ := upd_same
  generalize upd H4 p4 (.tup [.int 1, .int 5]) = H5 at *
  have s5 := same_new (o := .tup [.int 1, .int 2]) h5
  have a5 : upd H5 p5 (.tup [.int 1, .int 2]) p5 = _ := upd_same
  generalize upd H5 p5 (.tup [.int 1, .int 2]) = H6 at *
  have s6 := same_new (o := .tup [.int 2, .int 6]) h6
  have a6 : upd H6 p6 (.tup [.int 2, .int 6]) p6 = _ := upd_same
  generalize upd H6 p6 (.tup [.int 2, .int 6]) = H7 at *
  have s7 := same_new (o := .lst [.ref p0, .ref p1, .ref p2, .ref p3, .ref p4, .ref p5, .ref p6]) h7
  have a7 : upd H7 r (.lst [.ref p0, .ref p1, .ref p2, .ref p3, .ref p4, .ref p5, .ref p6]) r = _ := upd_same
  generalize upd H7 r (.lst [.ref p0, .ref p1, .ref p2, .ref p3, .ref p4, .ref p5, .ref p6]) = H8 at *
  refine ⟨s0.trans (s1.trans (s2.trans (s3.trans (s4.trans (s5.trans (s6.trans s7)))))), [p0, p1, p2, p3, p4, p5, p6], rfl, a7, fun j a hj => ?_⟩
  match j, hj with
  | 0, hj => cases hj; exact s7 _ _ (s6 _ _ (s5 _ _ (s4 _ _ (s3 _ _ (s2 _ _ (s1 _ _ a0))))))
  | 1, hj => cases hj; exact s7 _ _ (s6 _ _ (s5 _ _ (s4 _ _ (s3 _ _ (s2 _ _ a1)))))
  | 2, hj => cases hj; exact s7 _ _ (s6 _ _ (s5 _ _ (s4 _ _ (s3 _ _ a2))))
  | 3, hj => cases hj; exact s7 _ _ (s6 _ _ (s5 _ _ (s4 _ _ a3)))
  | 4, hj => cases hj; exact s7 _ _ (s6 _ _ (s5 _ _ a4))
  | 5, hj => cases hj; exact s7 _ _ (s6 _ _ a5)
  | 6, hj => cases hj; exact s7 _ _ a6
  | n + 7, hj => simp at hj
end TmC

/-! The law, its run. -/
namespace TmC
open PySem PySem.Spec PyProof.Rows L2 LamX NdefX Tm
abbrev s_law : Stmt := top 39
abbrev NL : List Str := ["_law_script", "_law_ranges", "_law_at", "_law_kind", "_law_told", "_law_vat_here", "_law_turn", "_law_odd", "_law_number", "_law_due", "_law_call", "_law_low", "_law_high"]
theorem sc_law : FnScope NL ["_law_script"] (defScope s_law) := ⟨rfl, rfl, rfl, by decide +kernel, rfl, by decide +kernel, by decide +kernel⟩
def sp_law (K : PySem.W.Frag) (T : List (Addr × Str)) : Sp := fun vs H Q _ => ∃ (a : Addr) (xs : List Int), vs = [.ref a] ∧ SqL K H a (xs.map V.int) ∧ xs.length ≤ 63 ∧ Tabs T H ∧ ∀ H', Q (.bl true) H'
section
variable {P : Program} {w : World} {K : PySem.W.Frag} {mg : Str → Option Value} {base : Heap} {C : Addr}
theorem run_law {f : Addr} {fd : FuncData} {T : List (Addr × Str)} (B : Bt mg) (hrepr : mg "repr" = none) (TK : Kc K C)
    (O_law_vat : Ok P w K mg base "_law_vat" 1 ["_law_script", "_law_at"] (sp_vat K)) (O_law_draw : Ok P w K mg base "_law_draw" 1 ["_law_vat_here", "_law_total"] sp_draw) (O_law_choice : Ok P w K mg base "_law_choice" 2 ["_law_vat_here", "_law_items"] sp_pick)
    (O_law_calls : Ok P w K mg base "_law_calls" 2 ["_law_number"] (sp_calls T)) (O_law_called : OkG P w K mg base "_law_called" 10 sp_called)
    (O_slot_kind : Ok P w K mg base "slot_kind" 8 ["many"] (sp_made C 1 6 slotT)) (OP_operations : OkP P w K mg base C "operations" 1 (sp_ops C)) (OS_eq : OkS P w K mg base C "__eq__" 1 ["self", "other"] (sp_keq C)) (OS_len : OkS P w K mg base C "__len__" 1 ["self"] (sp_klen C))
    (F : Fun K "law" "law" s_law f fd) : ∀ (A : Around) (outer : List Env) (s : Shared) (H : Hp) (args : Args) (us : List Value) (vs : List V) (Q : VK) (E : XK), Room 11 A → A.guards = some [] → Env0 P w K mg base A outer s H → BindsTo s fd args ((["_law_script"] : List Str).zip us) → Vals vs us → sp_law K T vs H Q E →
      codeAny (model P w) A (.call (.ref f) args) (CR CX0 outer P w H s Q E) s := by
  obtain ⟨oc, od, kV, doc, pm, an, cdv, ct, osl, rfl, lk, hcd⟩ := F.ex
  refine fnG_of (CX := CX0) (k := 10) lk hcd sc_law (fun vs H Q E h => ?_) (fun A outer s H vs Q E hr gu h => ?_)
  · obtain ⟨a, xs, rfl, _⟩ := h
    rfl
  · obtain ⟨a, xs, rfl, hs, hlen, ht, q⟩ := h
    have hun := hr.un
    have hu65 : (A.deeper (envOfC "law" (defScope s_law) s.heap.objs.size f cdv)).units + 65 < cLine := by omega
    have hu64 : (A.deeper (envOfC "law" (defScope s_law) s.heap.objs.size f cdv)).units + 64 < cLine := by omega
    have hu100 : (A.deeper (envOfC "law" (defScope s_law) s.heap.objs.size f cdv)).units + 100 < cLine := by omega
    have hgu : (A.deeper (envOfC "law" (defScope s_law) s.heap.objs.size f cdv)).guards = some [] := gu
    have body : ∃ t, PSs (cxOf CX0 P w K mg base NL "law" (defScope s_law) f cdv A outer s H E).nox (defBody s_law) t ∧ t { nx := fun _ H' => Q .non H', rt := Q } (L2.start NL [.ref a]) H := by
      refine ⟨_, pss_cons (ps_set (i := 1) sc_law.nd rfl (.inl rfl) (pe_lst (pa_cons (pe_tup (pa_cons (pe_int) (pa_cons (pe_int) (pa_nil)))) (pa_cons (pe_tup (pa_cons (pe_int) (pa_cons (pe_int) (pa_nil)))) (pa_cons (pe_tup (pa_cons (pe_int) (pa_cons (pe_int) (pa_nil)))) (pa_cons (pe_tup (pa_cons (pe_int) (pa_cons (pe_int) (pa_nil)))) (pa_cons (pe_tup (pa_cons (pe_int) (pa_cons (pe_int) (pa_nil)))) (pa_cons (pe_tup (pa_cons (pe_int) (pa_cons (pe_int) (pa_nil)))) (pa_cons (pe_tup (pa_cons (pe_int) (pa_cons (pe_int) (pa_nil)))) (pa_nil))))))))))
        (pss_cons (ps_for PassesOwn.never rfl (pi_range1 (by rfl) B.range (pa_cons (pe_callB (call_max2 rfl) (by rfl) B.max (by decide +kernel) (pa_cons (pe_int) (pa_cons (pe_callB (call_min2 rfl) (by rfl) B.min (by decide +kernel) (pa_cons (pe_int) (pa_cons (pe_callB (lenK (K := K)) (by rfl) B.len (by decide +kernel) (pa_cons (pv 0) (pa_nil))) (pa_nil)))) (pa_nil)))) (pa_nil))) (pg_name (i := 2) sc_law.nd rfl (.inl rfl))
          (pss_cons (ps_set (i := 5) sc_law.nd rfl (.inl rfl) (O_law_vat.call hr (ha := pa_cons (pv 0) (pa_cons (pv 2) (pa_nil)))))
          (pss_one (ps_for PassesOwn.never rfl (pi_range1 (by rfl) B.range (pa_cons (pe_int) (pa_nil))) (pg_name (i := 6) sc_law.nd rfl (.inl rfl))
            (pss_cons (ps_set (i := 7) sc_law.nd rfl (.inl rfl) (pe_lst (pa_cons (pe_non) (pa_cons (pe_bl) (pa_cons (pe_bl) (pa_cons (pe_str) (pa_cons (pe_tup (pa_cons (pe_int) (pa_nil))) (pa_cons (pe_lst (pa_cons (pe_int) (pa_nil))) (pa_cons (pe_dnewK) (pa_cons (pe_op opP (pe_int) (pe_int)) (pa_cons (pe_op opP (pe_int) (pe_int)) (pa_cons (pe_un un_neg (pe_int)) (pa_cons (pe_int) (pa_cons (pe_int) (pa_cons (pe_op op_sub (pe_int) (pe_op op_mulW (pe_op opP (pe_int) (pe_int)) (pe_op opP (pe_int) (pe_int)))) (pa_nil))))))))))))))))
            (pss_cons (ps_set (i := 7) sc_law.nd rfl (.inl rfl) (O_law_choice.call hr (ha := pa_cons (pv 5) (pa_cons (pv 7) (pa_nil)))))
            (pss_cons (ps_if (pt_cmpR (op_neD hu64) (pe_lc (own := [("_law_call", 10)]) (g := gName 10) (tt := tYes) rfl sc_law.nd (pi_list (O_law_calls.call hr (ha := pa_cons (pv 7) (pa_nil)))) (blkOk_by (own := [("_law_call", 10)]) (N := NL) (sc := defScope s_law) (by decide +kernel)) (fun _ _ _ _ _ => pg_name (i := 10) sc_law.nd rfl (.inl rfl)) (fun _ _ _ _ _ => pts_nil) (fun _ _ _ _ _ => O_law_called.call hgu hr (by decide) (pa_cons (pv 10) (pa_nil))))
                (pe_op op_rep (pe_lst (pa_cons (pe_op op_add_str (pe_str) (pe_callB (call_reprO hgu hu100) (by rfl) hrepr (by decide +kernel) (pa_cons (pv 7) (pa_nil)))) (pa_nil))) (pe_int)) (nomark _))
              (pss_one (ps_ret (pe_bl)))
              (pss_nil))
            (pss_cons (ps_set (i := 8) sc_law.nd rfl (.inr rfl) (pe_op op_sub (O_law_draw.call hr (ha := pa_cons (pv 5) (pa_cons (pe_int) (pa_nil)))) (pe_int)))
            (pss_cons (ps_setLc (i := 9) (own := [("_law_low", 11), ("_law_high", 12)]) (g := gTup K 2 (gCons (gName 11) (gCons (gName 12) (gNil)))) (tt := tYes) rfl sc_law.nd rfl rfl (sw_true rfl rfl rfl (by decide +kernel)) (pi_list (pv 1)) (blkOk_by (own := [("_law_low", 11), ("_law_high", 12)]) (N := NL) (sc := defScope s_law) (by decide +kernel)) (fun _ _ _ _ _ => pg_tup (by rfl) (pgs_cons (pg_name (i := 11) sc_law.nd rfl (.inl rfl)) (pgs_cons (pg_name (i := 12) sc_law.nd rfl (.inl rfl)) (pgs_nil)))) (fun _ _ _ _ _ => pts_nil) (fun _ _ _ _ _ => pe_ifExp (pt_chain op_le op_le (pv 11) (pv 8) (pv 12)) (pe_str) (pe_op op_add_str (pe_str) (pe_callB (call_reprO hgu hu100) (by rfl) hrepr (by decide +kernel) (pa_cons (pv 8) (pa_nil))))))
            (pss_one (ps_if (pt_cmpR (op_neD hu64) (pe_lc (own := [("_law_call", 10)]) (g := gName 10) (tt := tYes) rfl sc_law.nd (pi_list (O_law_calls.call hr (ha := pa_cons (pv 8) (pa_nil)))) (blkOk_by (own := [("_law_call", 10)]) (N := NL) (sc := defScope s_law) (by decide +kernel)) (fun _ _ _ _ _ => pg_name (i := 10) sc_law.nd rfl (.inl rfl)) (fun _ _ _ _ _ => pts_nil) (fun _ _ _ _ _ => O_law_called.call hgu hr (by decide) (pa_cons (pv 10) (pa_nil)))) (pv 9) (nomark _))
              (pss_one (ps_ret (pe_bl)))
              (pss_nil))))))))))))
        (pss_cons (ps_set (i := 3) sc_law.nd rfl (.inl rfl) (O_slot_kind.call hr (ha := pa_cons (pe_int) (pa_nil))))
        (pss_cons (ps_set (i := 4) sc_law.nd rfl (.inl rfl) (OP_operations.get hr TK.cl (he := pv 3)))
        (pss_cons (ps_expr (pe_dclear (pv 4)))
        (pss_one (ps_ret (pe_and (pe_cmpR (op_eqO OS_eq (hr.mono (by decide))) (O_slot_kind.call hr (ha := pa_cons (pe_int) (pa_nil))) (pv 3) (nomark _)) (pe_and (pe_cmpR (op_eqTab hu65) (OP_operations.get hr TK.cl (he := pv 3)) (OP_operations.get hr TK.cl (he := O_slot_kind.call hr (ha := pa_cons (pe_int) (pa_nil)))) (nomark _)) (pe_one (pe_cmpR op_eq (pe_callB (call_lenO OS_len (hr.mono (by decide))) (by rfl) B.len (by decide +kernel) (pa_cons (pv 3) (pa_nil))) (pe_int) (nomark _))))))))))), ?_⟩
      refine ⟨by show 2 ≤ sizeLine; decide, fun p0 h0 => ⟨by show 2 ≤ sizeLine; decide, fun p1 h1 => ⟨by show 2 ≤ sizeLine; decide, fun p2 h2 => ⟨by show 2 ≤ sizeLine; decide, fun p3 h3 => ⟨by show 2 ≤ sizeLine; decide, fun p4 h4 => ⟨by show 2 ≤ sizeLine; decide, fun p5 h5 => ⟨by show 2 ≤ sizeLine; decide, fun p6 h6 => ⟨by show 7 ≤ sizeLine; decide, fun r h7 => ?_⟩⟩⟩⟩⟩⟩⟩⟩
      have rng := rng_made h0 h1 h2 h3 h4 h5 h6 h7
      obtain ⟨eS, rng⟩ := rng
      generalize hH8 : upd (upd (upd (upd (upd (upd (upd (upd H p0 _) p1 _) p2 _) p3 _) p4 _) p5 _) p6 _) r _ = H8 at eS rng
      have hs8 : SqL K H8 a (xs.map V.int) := seqL_keep hs fun b o e _ => eS b o e
      have ht8 : Tabs T H8 := ht.ext eS
      dsimp only [gName, tSeq]
      refine ⟨_, rfl, a, _, rfl, .inl hs8, _, _, rfl, _, _, rfl, ?_⟩
      rw [List.length_map]
      obtain ⟨m, hm, hm6⟩ : ∃ m : Nat, (if (if (xs.length : Int) < 6 then (xs.length : Int) else 6) > 1 then (if (xs.length : Int) < 6 then (xs.length : Int) else 6) else 1) = (m : Int) ∧ m ≤ 6 := by
        refine ⟨(if (if (xs.length : Int) < 6 then (xs.length : Int) else 6) > 1 then (if (xs.length : Int) < 6 then (xs.length : Int) else 6) else 1).toNat, ?_, ?_⟩
        · repeat' split
          all_goals omega
        · repeat' split
          all_goals omega
      refine ⟨_, rfl, ?_⟩
      rw [hm]
      refine ⟨by omega, by omega, ?_⟩
      refine for_range (lo := 0) (fun i σ' H' => ∃ o2 o3 o4 o5 o6 o7 o8 o9 o10 o11 o12 : Option V, σ' = [some (.ref a), some (.ref r), o2, o3, o4, o5, o6, o7, o8, o9, o10, o11, o12] ∧ SqL K H' a (xs.map V.int) ∧ RngV H' r ∧ Tabs T H') ⟨none, none, none, none, none, none, none, none, none, none, none, rfl, hs8, rng, ht8⟩ (fun i σ' H' hi pv => ?_) (fun σ' H' pv => ?_)
      · obtain ⟨o2, o3, o4, o5, o6, o7, o8, o9, o10, o11, o12, rfl, hs', rng', ht'⟩ := pv
        dsimp only [gName, tSeq]
        refine ⟨_, rfl, _, rfl, a, xs, i, ?_, hs', by omega, fun l x y z hl => ?_⟩
        · show [V.ref a, V.int ((0 : Int) + (i : Int))] = _
          rw [Int.zero_add]
        have e6 : Same H' (upd H' l (.lst [.int x, .int y, .int z])) := same_new hl
        have g6 : Good l T (upd H' l (.lst [.int x, .int y, .int z])) (upd H' l (.lst [.int x, .int y, .int z])) := ⟨fun _ _ h _ _ => h, ⟨x, y, z, upd_same⟩, ht'.ext e6⟩
        generalize upd H' l (.lst [.int x, .int y, .int z]) = H6 at e6 g6
        have keep : ∀ {H2 : Hp}, Good l T H6 H2 → ∀ b o, H' b = some o → (∀ ps, o ≠ .tbl ps) → H2 b = some o := fun g b o e n => g.kx b o (e6 b o e) (fun zz => by rw [zz, hl] at e; cases e) n
        dsimp only [gName, tSeq]
        refine ⟨6, rfl, by omega, by omega, ?_⟩
        refine for_range (lo := 0) (fun j σ2 H2 => ∃ o2 o3 o4 o6 o7 o8 o9 o10 o11 o12 : Option V, σ2 = [some (.ref a), some (.ref r), o2, o3, o4, some (.ref l), o6, o7, o8, o9, o10, o11, o12] ∧ Good l T H6 H2) ⟨_, _, _, _, _, _, _, _, _, _, rfl, g6⟩ (fun j σ2 H2 hj pv => ?_) (fun σ2 H2 pv => ?_)
        · obtain ⟨o2, o3, o4, o6, o7, o8, o9, o10, o11, o12, rfl, g⟩ := pv
          dsimp only [gName, tSeq]
          refine ⟨by show 1 ≤ sizeLine; decide, fun q1 k1 => ⟨by show 1 ≤ sizeLine; decide, fun q2 k2 => fun q3 k3 => ?_⟩⟩
          refine ⟨_, _, rfl, rfl, ⟨by decide, by decide +kernel⟩, _, _, rfl, rfl, ⟨by decide, by decide +kernel⟩, _, rfl, _, _, rfl, rfl, ⟨by decide, by decide +kernel⟩, _, _, rfl, rfl, ⟨by decide, by decide +kernel⟩, _, _, rfl, rfl, wide_mul (a := 200) (b := 140) (by decide +kernel) (by decide +kernel) (by decide) (by decide) (by decide), _, _, rfl, rfl, by show 13 ≤ sizeLine; decide, fun q4 k4 => ?_⟩
          have t1 := same_new (o := .tup [.int 2]) k1
          have b1 : upd H2 q1 (.tup [.int 2]) q1 = _ := upd_same
          generalize upd H2 q1 (.tup [.int 2]) = G1 at *
          have t2 := same_new (o := .lst [.int 2]) k2
          have b2 : upd G1 q2 (.lst [.int 2]) q2 = _ := upd_same
          generalize upd G1 q2 (.lst [.int 2]) = G2 at *
          have t3 := same_new (o := .dK []) k3
          have b3 : upd G2 q3 (.dK []) q3 = _ := upd_same
          generalize upd G2 q3 (.dK []) = G3 at *
          have t4 := same_new (o := .lst (oddL q1 q2 q3)) k4
          have b4 : upd G3 q4 (.lst (oddL q1 q2 q3)) q4 = _ := upd_same
          have t14 := t1.trans (t2.trans (t3.trans t4))
          have g4 := g.same t14
          have c1 := t4 _ _ (t3 _ _ (t2 _ _ b1))
          have c2 := t4 _ _ (t3 _ _ b2)
          have c3 := t4 _ _ b3
          have nq : q4 ≠ l := fun zz => by
            obtain ⟨xa, ya, za, e⟩ := (g.same (t1.trans (t2.trans t3))).vat
            rw [zz, e] at k4
            cases k4
          have nl1 : ∀ {b o}, upd G3 q4 (.lst (oddL q1 q2 q3)) b = some o → (∀ xa ya za, o ≠ .lst [.int xa, .int ya, .int za]) → b ≠ l := fun {b o} e n zz => by
            obtain ⟨xa, ya, za, e'⟩ := g4.vat
            rw [zz, e'] at e
            exact n xa ya za (Option.some.inj e).symm
          show (fun σ' H' => _) _ (upd G3 q4 (.lst (oddL q1 q2 q3)))
          generalize upd G3 q4 (.lst (oddL q1 q2 q3)) = G4 at *
          dsimp only [gName, tSeq]
          refine ⟨_, rfl, _, rfl, l, q4, oddL q1 q2 q3, rfl, g4.vat, b4, nq, by show 0 < 13; decide, by show 13 ≤ 1000; decide, fun v G5 hv kk => ?_⟩
          obtain ⟨d, o, bd⟩ := odd_mem (kk.1 _ _ c1 (nl1 c1 fun _ _ _ zz => by cases zz)) (kk.1 _ _ c2 (nl1 c2 fun _ _ _ zz => by cases zz)) (kk.1 _ _ c3 (nl1 c3 fun _ _ _ zz => by cases zz)) hv
          have g5 := g4.draw kk
          dsimp only [gName, tSeq, tIfS, tTest, tOp]
          refine ev_words (i := 7) rfl g5.tabs o bd.1 fun pw G6 e6' t6 hw => ?_
          have g6' := g5.lam e6' t6
          have hlen : ("number " : Str).length + d.shown.length ≤ sizeLine := by
            have h7 : ("number " : Str).length = 7 := by decide +kernel
            have sl : (1100 : Nat) ≤ sizeLine := by decide
            have := bd.1
            omega
          refine ⟨_, rfl, v, d, rfl, o.mono e6', by have := bd.1; have sl : (1100 : Nat) ≤ sizeLine := by decide
                                                    omega, _, _, rfl, rfl, hlen, by show 1 ≤ sizeLine; decide, fun q5 k5 => ⟨q5, 7, _, rfl, rfl, upd_same, by decide, by decide, by show 1 * 7 ≤ sizeLine; decide, fun q6 k6 => ?_⟩⟩
          have wb := words_bad bd.2.1
          have wo := words_ok bd.2.2
          have u1 := (same_new (o := .lst [V.str (("number " : Str) ++ d.shown)]) k5).trans (same_new (o := .lst (List.replicate (7 : Int).toNat [V.str (("number " : Str) ++ d.shown)]).flatten) k6)
          have hw2 : upd (upd G6 q5 (.lst [V.str (("number " : Str) ++ d.shown)])) q6 (.lst (List.replicate (7 : Int).toNat [V.str (("number " : Str) ++ d.shown)]).flatten) q6 = some (.lst ((wordsC d).map V.str)) := by
            rw [upd_same, flat7, wb]
          generalize upd (upd G6 q5 _) q6 _ = G7 at u1 hw2
          refine ⟨_, _, dp_words (u1 _ _ hw), dp_words hw2, wo.1, wo.1, _, rfl, ifF (by rw [wo.2]; rfl) ?_⟩
          have g7 := g6'.same u1
          dsimp only [tNext, gName, tSeq]
          refine ⟨_, rfl, l, 15, rfl, g7.vat, by decide, by decide, fun dr G8 d0 d1 kk8 => ⟨_, _, rfl, rfl, ?_⟩⟩
          have g8 := g7.draw kk8
          obtain ⟨mm, rfl⟩ : ∃ mm : Nat, dr = (mm : Int) := ⟨dr.toNat, by omega⟩
          have nf := num_fine mm (by omega)
          dsimp only [gName, tSeq]
          refine lc_pairs (r := r) (fun Q q => ⟨_, rfl, q _ _ (Same.refl _) rfl⟩) (rng'.keep (keep g8)) (fun jj => wordC (okD (.int ((mm : Int) - 1)) (loC jj) (hiC jj)) (.int ((mm : Int) - 1))) (by intro _ _; rfl) (fun jj hjj G9 e9 Q q => ?_) fun pd G9 e9 hd => ?_
          · have hlen2 : ("number " : Str).length + (PyData.int ((mm : Int) - 1)).shown.length ≤ sizeLine := by
              have h7 : ("number " : Str).length = 7 := by decide +kernel
              have sl : (1100 : Nat) ≤ sizeLine := by decide
              have := nf.1
              omega
            have hl2 : (PyData.int ((mm : Int) - 1)).shown.length ≤ sizeLine := by
              have sl : (1100 : Nat) ≤ sizeLine := by decide
              have := nf.1
              omega
            have bad : ∀ bb : Bool, bb = false → okD (.int ((mm : Int) - 1)) (loC jj) (hiC jj) = bb → Q (.str (("number " : Str) ++ (PyData.int ((mm : Int) - 1)).shown)) G9 := fun bb e1 e2 => q _ _ (Same.refl _) (by rw [e2, e1]; rfl)
            refine ⟨_, rfl, _, rfl, _, _, rfl, rfl, _, rfl, ite2 (fun z1 => ?_) (fun z1 => ?_)⟩
            · refine ⟨_, rfl, _, _, rfl, rfl, _, rfl, ite2 (fun z2 => ?_) (fun z2 => ?_)⟩
              · refine q _ _ (Same.refl _) ?_
                have e : okD (.int ((mm : Int) - 1)) (loC jj) (hiC jj) = true := by
                  show (decide (loC jj ≤ (mm : Int) - 1) && decide ((mm : Int) - 1 ≤ hiC jj)) = true
                  rw [show decide (loC jj ≤ (mm : Int) - 1) = true from z1, show decide ((mm : Int) - 1 ≤ hiC jj) = true from z2]
                  rfl
                rw [e]
                rfl
              · refine ⟨_, rfl, _, _, rfl, .int _ nf.2.2, hl2, _, _, rfl, rfl, hlen2, bad _ rfl ?_⟩
                show (decide (loC jj ≤ (mm : Int) - 1) && decide ((mm : Int) - 1 ≤ hiC jj)) = false
                rw [show decide ((mm : Int) - 1 ≤ hiC jj) = false from by simpa using z2, Bool.and_false]
            · refine ⟨_, rfl, ?_⟩
              refine ifF rfl ⟨_, rfl, _, _, rfl, .int _ nf.2.2, hl2, _, _, rfl, rfl, hlen2, bad _ rfl ?_⟩
              show (decide (loC jj ≤ (mm : Int) - 1) && decide ((mm : Int) - 1 ≤ hiC jj)) = false
              rw [show decide (loC jj ≤ (mm : Int) - 1) = false from by simpa using z1, Bool.false_and]
          · have g9 := g8.same e9
            dsimp only [gName, tSeq, tIfS, tTest, tOp]
            refine ev_words (i := 8) rfl g9.tabs (.int _ nf.2.2) nf.1 fun pw2 G10 e10 t10 hw10 => ?_
            have wo2 := words_ok nf.2.1
            refine ⟨_, rfl, _, _, dp_words hw10, dp_words (ws := wordsC (.int ((mm : Int) - 1))) (e10 _ _ (show G9 pd = some (.lst ((wordsC (.int ((mm : Int) - 1))).map V.str)) from hd) fun ps zz => by cases zz), wo2.1, wo2.1, _, rfl, ifF (by rw [wo2.2]; rfl) ?_⟩
            exact ⟨_, _, _, _, _, _, _, _, _, _, rfl, g9.lam e10 t10⟩
        · obtain ⟨o2, o3, o4, o6, o7, o8, o9, o10, o11, o12, rfl, g⟩ := pv
          exact ⟨_, _, _, _, _, _, _, _, _, _, _, rfl, seqL_keep hs' (keep g), rng'.keep (keep g), g.tabs⟩
      · obtain ⟨o2, o3, o4, o5, o6, o7, o8, o9, o10, o11, o12, rfl, hs', rng', ht'⟩ := pv
        dsimp only [tSeq, tAsg]
        refine ⟨3, rfl, by decide, by decide, fun k1 H1 t1 e1 hk1 pm1 => ?_⟩
        dsimp only [gName, tSeq, tAsg]
        obtain ⟨a1, dx1, d1, kv1, rfl, ha1, _⟩ := id hk1
        refine ⟨_, rfl, a1, dx1, _, rfl, ha1, .ref a1, t1, rfl, hk1, fun p kv hp hkv => ?_⟩
        dsimp only [gName, tSeq, tDrop]
        refine ⟨_, rfl, .inr (.inr (.inl ⟨rfl, .inl ⟨_, upd_same⟩⟩)), p, kv, rfl, rfl, upd_same, ?_⟩
        have e2 : Same H1 (upd (upd H1 p (.dK kv)) p (.dK [])) := same_mut (same_new hp) hp
        generalize upd (upd H1 p (.dK kv)) p (.dK []) = H2 at e2
        have hk2 := kind_keep hk1 e2
        dsimp only [tRet, tAndV, tOp]
        refine ⟨3, rfl, by decide, by decide, fun k3 H3 t3 e3 hk3 pm3 => ?_⟩
        obtain ⟨a3, dx3, d3, kv3, rfl, ha3, _⟩ := id hk3
        refine ⟨_, rfl, a3, a1, dx3, dx1, _, _, rfl, rfl, ha3, e3 _ _ (e2 _ _ ha1), ⟨_, _, t3, t1, rfl, hk3, kind_keep hk2 e3, _, rfl, ?_⟩⟩
        refine ⟨true, by rw [same_permT (pm1.trans pm3.symm)]; rfl, ?_⟩
        rw [if_pos rfl]
        have hk5 := kind_keep hk2 e3
        refine ⟨_, rfl, a1, dx1, _, rfl, e3 _ _ (e2 _ _ ha1), .ref a1, t1, rfl, hk5, fun p5 kv5 hp5 hkv5 => ?_⟩
        have e5 : Same H3 (upd H3 p5 (.dK kv5)) := same_new hp5
        have hat5 : upd H3 p5 (.dK kv5) p5 = _ := upd_same
        generalize upd H3 p5 (.dK kv5) = H5 at e5 hat5
        refine ⟨3, rfl, by decide, by decide, fun k6 H6 t6 e6 hk6 pm6 => ?_⟩
        obtain ⟨a6, dx6, d6, kv6, rfl, ha6, hd6, ht6, hok6, nd6, hst6⟩ := id hk6
        refine ⟨a6, dx6, _, rfl, ha6, .ref a6, t6, rfl, hk6, fun p7 kv7 hp7 hkv7 => ?_⟩
        have e7 : Same H6 (upd H6 p7 (.dK kv7)) := same_new hp7
        have hat7 : upd H6 p7 (.dK kv7) p7 = _ := upd_same
        generalize upd H6 p7 (.dK kv7) = H7 at e7 hat7
        refine ⟨p5, p7, kv5, kv7, t1, t6, rfl, rfl, e7 _ _ (e6 _ _ hat5), hat7, hkv5.mono (tups_of (e5.trans (e6.trans e7))), hkv7.mono (tups_of e7), nd6, ?_⟩
        refine ⟨true, by rw [same_permT (pm6.trans pm1.symm)]; rfl, ?_⟩
        rw [if_pos rfl]
        have e37 := e5.trans (e6.trans e7)
        refine ⟨_, rfl, a1, dx1, _, rfl, e37 _ _ (e3 _ _ (e2 _ _ ha1)), ⟨.ref a1, t1, rfl, kind_keep hk5 e37, t1.length, rfl, by rw [pm1.length_eq, slot3]; decide, ?_⟩⟩
        have e3' : t1.length = 3 := pm1.length_eq.trans slot3
        rw [e3']
        exact ⟨rfl, q _⟩
    obtain ⟨t, a, b⟩ := body
    exact ⟨t, a.nox, b⟩
end
end TmC

set_option maxHeartbeats 2000000
/-! What the top leaves: defs found by any path, facts, the tables of code objects. -/
namespace TmH
open PySem PySem.Spec PyProof.Rows L2 LamX He Tm
structure AD where
  ad : PySem.W.Frag → Addr
  name : Str
  qual : Str
  st : Stmt
def fnA (K : PySem.W.Frag) (a : Addr) : FnV := match K.lookup a with
  | some ⟨_, _, .func fd, _⟩ => some (fd.name, fd.qualname, fd.params, fd.body, fd.scope, fd.globals, fd.closure, fd.defaults, fd.builtins)
  | _ => none
def AD.val (d : AD) : FnV := some (d.name, d.qual, defArgs d.st, .stmts (defBody d.st), defScope d.st, mainGlobals, [], .none, builtinsNs)
def AD.ok (K : PySem.W.Frag) (d : AD) : Bool := PySem.W.keepIn K (.ref (d.ad K)) && (match K.lookup (d.ad K) with
  | some ⟨_, _, .func fd, _⟩ => PySem.W.codeIn K fd.code d.qual
  | _ => false)
structure FunA (K : PySem.W.Frag) (d : AD) : Prop where
  ex : ∃ (oc : Value) (od : Option Addr) (kV doc pm : Value) (an : Option Addr) (cdv ct : Value) (osl : Array (Option Value)),
    K.lookup (d.ad K) = some ⟨oc, od, .func (PySem.W.fnOf d.name d.qual (defArgs d.st) (defBody d.st) (defScope d.st) .none kV doc pm an cdv ct), osl⟩ ∧ PySem.W.codeIn K cdv d.qual = true
  kp : PySem.W.keepIn K (.ref (d.ad K)) = true
theorem AD.funA {K : PySem.W.Frag} {d : AD} (e : fnA K (d.ad K) = d.val) (c : d.ok K = true) : FunA K d := by
  obtain ⟨kp, c2⟩ := ba c
  refine ⟨?_, kp⟩
  unfold fnA at e
  cases q : K.lookup (d.ad K) with
  | none =>
    rw [q] at c2
    cases c2
  | some o =>
    obtain ⟨oc, od, dt, osl⟩ := o
    rw [q] at c2 e
    cases dt with
    | func fd =>
      obtain ⟨n1, n2, n3, n4, n5, n6, n7, n8, n9, n10, n11, n12, n13, n14, n15⟩ := fd
      have e2 : (some (n1, n2, n3, n4, n5, n6, n7, n8, n15) : FnV) = some (d.name, d.qual, defArgs d.st, .stmts (defBody d.st), defScope d.st, mainGlobals, [], .none, builtinsNs) := e
      simp only [Option.some.injEq, Prod.mk.injEq] at e2
      obtain ⟨h1, h2, h3, h4, h5, h6, h7, h8, h9⟩ := e2
      subst h1 h2 h3 h4 h5 h6 h7 h8 h9
      exact ⟨oc, od, n9, n10, n11, n12, n13, n14, osl, rfl, c2⟩
    | _ => cases c2
theorem FunA.fun_ {K : PySem.W.Frag} {d : AD} (F : FunA K d) : ∃ fd, Fun K d.name d.qual d.st (d.ad K) fd := by
  obtain ⟨oc, od, kV, doc, pm, an, cdv, ct, osl, l, c⟩ := F.ex
  exact ⟨_, fun_mk l c F.kp⟩
/-! ### the hook -/
abbrev AlY : Type := Bool × List FnV
def obsK (fa : List Fa) (ds : List AD) (ex : PySem.W.Frag → Bool) (K : PySem.W.Frag) : AlY := ((fa.all fun f => f.ok K) && ((ds.all fun d => d.ok K) && ex K), ds.map fun d => fnA K (d.ad K))
def valY (ds : List AD) : AlY := (true, ds.map AD.val)
def obsY (n : Nat) (fa : List Fa) (ds : List AD) (tf : List Defn) (ex : PySem.W.Frag → Bool) (g : Addr → Option Obj) : AlY × Bool := (obsK fa ds ex (frT g (asD g n)), tabsB g tf (frT g (asD g n)))
structure SaysY (fa : List Fa) (ds : List AD) (tf : List Defn) (ex : PySem.W.Frag → Bool) (h : Heap) (K : PySem.W.Frag) : Prop where
  k : obsK fa ds ex K = valY ds
  hd : ∀ p ∈ tf, PySem.W.codeHdIn K (cT K p).1 (cT K p).2 = true
  out : ∀ p ∈ tf, K.lookup (cT K p).2 = none
  empty : ∀ p ∈ tf, h.get? (cT K p).2 = some { cls := .none, data := .fields #[] }
theorem saysY_of {n : Nat} {fa : List Fa} {ds : List AD} {tf : List Defn} {ex : PySem.W.Frag → Bool} {h : Heap} (e : obsY n fa ds tf ex h.get? = (valY ds, true)) : SaysY fa ds tf ex h (frT h.get? (asD h.get? n)) := by
  have e1 : obsK fa ds ex (frT h.get? (asD h.get? n)) = valY ds := congrArg (fun z : AlY × Bool => z.1) e
  have e2 : tabsB h.get? tf (frT h.get? (asD h.get? n)) = true := congrArg (fun z : AlY × Bool => z.2) e
  have one : ∀ p ∈ tf, PySem.W.codeHdIn (frT h.get? (asD h.get? n)) (cT (frT h.get? (asD h.get? n)) p).1 (cT (frT h.get? (asD h.get? n)) p).2 = true ∧ ∃ o, h.get? (cT (frT h.get? (asD h.get? n)) p).2 = some o ∧ emptyTab o = true := fun p hp => by
    obtain ⟨a1, a2⟩ := ba (List.all_eq_true.mp e2 p hp)
    refine ⟨a1, ?_⟩
    cases q : h.get? (cT (frT h.get? (asD h.get? n)) p).2 with
    | none =>
      rw [q] at a2
      cases a2
    | some o =>
      rw [q] at a2
      exact ⟨o, rfl, a2⟩
  refine ⟨e1, fun p hp => (one p hp).1, fun p hp => ?_, fun p hp => ?_⟩
  · obtain ⟨_, o, q, z⟩ := one p hp
    exact frT_none q z
  · obtain ⟨_, o, q, z⟩ := one p hp
    rw [q, emptyTab_eq z]
def hookY (n : Nat) (fa : List Fa) (ds : List AD) (tf : List Defn) (ex : PySem.W.Frag → Bool) : PySem.W.Hook where
  α := AlY × Bool
  obs := fun s => obsY n fa ds tf ex s.heap.get?
  val := fun _ => (valY ds, true)
  says := fun _ h => ∃ K : PySem.W.Frag, K.In h ∧ SaysY fa ds tf ex h K
  of := fun _ _ e => ⟨_, frT_in, saysY_of e⟩
  keeps := fun _ _ _ ⟨K, hK, c⟩ k => ⟨K, PySem.W.Frag.In.keeps hK k, ⟨c.k, c.hd, c.out, fun p hp => k _ _ (c.empty p hp)⟩⟩
theorem obsY_eq {n : Nat} {fa : List Fa} {ds : List AD} {tf : List Defn} {ex : PySem.W.Frag → Bool} {g : Addr → Option Obj} {s : Shared} (h : ∀ a, g a = s.heap.get? a) : obsY n fa ds tf ex g = (hookY n fa ds tf ex).obs s := by
  have e : g = s.heap.get? := funext h
  rw [e] <;> rfl
section
variable {fa : List Fa} {ds : List AD} {tf : List Defn} {ex : PySem.W.Frag → Bool} {h : Heap} {K : PySem.W.Frag}
theorem SaysY.fact (c : SaysY fa ds tf ex h K) {f : Fa} (hf : f ∈ fa) : f.ok K = true := by
  have c1 := (ba (show ((fa.all fun f => f.ok K) && ((ds.all fun d => d.ok K) && ex K)) = true from congrArg (fun z : AlY => z.1) c.k)).1
  exact List.all_eq_true.mp c1 f hf
theorem SaysY.more (c : SaysY fa ds tf ex h K) : ex K = true :=
  (ba (ba (show ((fa.all fun f => f.ok K) && ((ds.all fun d => d.ok K) && ex K)) = true from congrArg (fun z : AlY => z.1) c.k)).2).2
theorem SaysY.def_ (c : SaysY fa ds tf ex h K) (i : Nat) {d : AD} (hi : ds[i]? = some d) : FunA K d := by
  have c2 := (ba (ba (show ((fa.all fun f => f.ok K) && ((ds.all fun d => d.ok K) && ex K)) = true from congrArg (fun z : AlY => z.1) c.k)).2).1
  have e : ds.map (fun d => fnA K (d.ad K)) = ds.map AD.val := congrArg (fun z : AlY => z.2) c.k
  have e2 : (ds.map fun d => fnA K (d.ad K))[i]? = (ds.map AD.val)[i]? := by rw [e]
  rw [List.getElem?_map, List.getElem?_map, hi] at e2
  exact AD.funA (Option.some.inj e2) (List.all_eq_true.mp c2 d (List.mem_of_getElem? hi))
end
end TmH

set_option maxHeartbeats 0
namespace TmH
open PySem PySem.Spec PyProof.Rows L2 LamX He Tm TmC
def getP (K : PySem.W.Frag) (m : Str) : Addr := match PySem.W.recIn K (ma K (ga K "Kind") m) "property" with
  | some (.ref g :: _) => g
  | _ => 0
def propB (K : PySem.W.Frag) (m : Str) : Bool := eqO (PySem.W.findIn K (.ref (ga K "Kind")) m) (some (some (.ref (ma K (ga K "Kind") m)))) && (eqO (PySem.W.specialIn K (.ref (ma K (ga K "Kind") m)) "__get__") (some (some (.builtin "property.__get__"))) &&
  (decide (PySem.W.takesIn K (.ref (ma K (ga K "Kind") m)) = some true) && (match PySem.W.recIn K (ma K (ga K "Kind") m) "property" with
    | some (.ref _ :: _) => true
    | _ => false)))
def clsB (K : PySem.W.Frag) : Bool := eqO (PySem.W.findIn K (.ref (ga K "Kind")) "__ne__") (some (some (.builtin "object.__ne__"))) && (decide (PySem.W.mroIn K (ga K "Kind") (.type "object") = some true) && (decide (PySem.W.kitOne K (.ref (ga K "Kind")) (.ref (ga K "Kind")) = some true) &&
  (eqO (PySem.W.findIn K (.ref (ga K "Kind")) "__class__") (some (some (.builtin "object.__class__"))) && (eqO (PySem.W.specialIn K (.builtin "object.__class__") "__get__") (some (some (.builtin "getset_descriptor.__get__"))) && decide (PySem.W.takesIn K (.builtin "object.__class__") = some true)))))
/-! the exception's class -/
abbrev CN (K : PySem.W.Frag) : Addr := ga K "InvalidNumber"
abbrev FN (K : PySem.W.Frag) : Addr := ma K (CN K) "__init__"
def excB (K : PySem.W.Frag) (C : Addr) : Bool := match K.lookup C with
  | some ⟨.type "type", _, .cls cd, sl⟩ => (match cd.mro, sl.toList with
    | .ref C' :: bm, [_, _, _, _, some (.builtin n), _] => decide (C' = C) && (decide (n = "IndexError.__new__") && (!cd.hasDel && (cd.hasDict && PySem.NumX.refsIE bm)))
    | _, _ => false)
  | _ => false
def noKw (K : PySem.W.Frag) (f : Addr) : Bool := match K.lookup f with
  | some ⟨_, _, .func fd, _⟩ => (match fd.kwdefaults with
    | .none => true
    | _ => false)
  | _ => false
def numB (K : PySem.W.Frag) : Bool := excB K (CN K) && (eqO (PySem.W.findIn K (.ref (CN K)) "__setattr__") (some (some (.builtin "object.__setattr__"))) && (eqO (PySem.W.findIn K (.ref (CN K)) "__getattribute__") (some (some (.builtin "BaseException.__getattribute__"))) &&
  (eqO (PySem.W.findIn K (.ref (CN K)) "__getattr__") (some none) && (eqO (PySem.W.findIn K (.ref (CN K)) "given") (some none) && (eqO (PySem.W.findIn K (.ref (CN K)) "__init__") (some (some (.ref (FN K)))) && (decide (PySem.W.typeIn K (.ref (FN K)) = some (.type "function")) &&
  (PySem.W.keepIn K (.ref (CN K)) && (decide (PySem.W.subIn K (.ref (CN K)) (.type "BaseException") = some true) && (decide (PySem.W.typeIn K (.ref (CN K)) = some (.type "type")) && (PySem.W.hasDictIn K (CN K) && (decide (PySem.W.exmOne K (.ref (CN K)) (.ref (CN K)) = some true) && noKw K (FN K))))))))))))
def exP (K : PySem.W.Frag) : Bool := propB K "operations" && (numB K && (clsB K && tupB K "QUEUE_WORDS" [.str "", .str "a", .str "b", .str "aa", .str "ab", .str "ba", .str "bb"]))
def ds : List AD := [
  ⟨fun K => ga K "is_number_in", "is_number_in", "is_number_in", top 7⟩,
  ⟨fun K => ga K "need_number", "need_number", "need_number", top 8⟩,
  ⟨fun K => ga K "is_name", "is_name", "is_name", top 15⟩,
  ⟨fun K => ga K "_is_pair", "_is_pair", "_is_pair", top 16⟩,
  ⟨fun K => ga K "_is_row", "_is_row", "_is_row", top 17⟩,
  ⟨fun K => ga K "_is_table", "_is_table", "_is_table", top 18⟩,
  ⟨fun K => ga K "_lettered", "_lettered", "_lettered", top 23⟩,
  ⟨fun K => ga K "cell_kind", "cell_kind", "cell_kind", top 24⟩,
  ⟨fun K => ga K "adder_kind", "adder_kind", "adder_kind", top 25⟩,
  ⟨fun K => ga K "swap_kind", "swap_kind", "swap_kind", top 26⟩,
  ⟨fun K => ga K "slot_kind", "slot_kind", "slot_kind", top 27⟩,
  ⟨fun K => ga K "fading_kind", "fading_kind", "fading_kind", top 28⟩,
  ⟨fun K => ga K "_faded", "_faded", "_faded", top 29⟩,
  ⟨fun K => ga K "queue_kind", "queue_kind", "queue_kind", top 30⟩,
  ⟨fun K => ga K "_join_row", "_join_row", "_join_row", top 31⟩,
  ⟨fun K => ga K "highest_kind", "highest_kind", "highest_kind", top 32⟩,
  ⟨fun K => ga K "_law_vat", "_law_vat", "_law_vat", top 34⟩,
  ⟨fun K => ga K "_law_draw", "_law_draw", "_law_draw", top 35⟩,
  ⟨fun K => ga K "_law_choice", "_law_choice", "_law_choice", top 36⟩,
  ⟨fun K => ga K "_law_called", "_law_called", "_law_called", top 37⟩,
  ⟨fun K => ga K "_law_calls", "_law_calls", "_law_calls", top 38⟩,
  ⟨fun K => ga K "law", "law", "law", top 39⟩,
  ⟨fun K => ma K (ga K "Kind") "__init__", "__init__", "Kind.__init__", inClass (top 19) 0⟩,
  ⟨fun K => ma K (ga K "Kind") "__len__", "__len__", "Kind.__len__", inClass (top 19) 15⟩,
  ⟨fun K => ma K (ga K "Kind") "__eq__", "__eq__", "Kind.__eq__", inClass (top 19) 16⟩,
  ⟨fun K => getP K "operations", "operations", "Kind.operations", inClass (top 19) 1⟩,
  ⟨fun K => ma K (ga K "InvalidNumber") "__init__", "__init__", "InvalidNumber.__init__", inClass (top 4) 0⟩]
def fa : List Fa := [.glo "is_number_in", .glo "need_number", .glo "is_name", .glo "_is_pair", .glo "_is_row", .glo "_is_table", .glo "_lettered", .glo "cell_kind", .glo "adder_kind", .glo "swap_kind", .glo "slot_kind", .glo "fading_kind", .glo "_faded", .glo "queue_kind", .glo "_join_row", .glo "highest_kind", .glo "_law_vat", .glo "_law_draw", .glo "_law_choice", .glo "_law_called", .glo "_law_calls", .glo "law", .glo "Kind", .glo "QUEUE_WORDS", .glo "InvalidNumber", .free "isinstance", .free "int", .free "bool", .free "str", .free "tuple", .free "list", .free "dict", .free "len", .free "all", .free "range", .free "enumerate", .free "sorted", .free "min", .free "max", .free "abs", .free "repr", .int "MAX_LETTERS" 8, .int "MAX_STATES" 12, .int "MAX_OPERATIONS" 6, .int "MAX_ANSWER" 99, .str "ALPHABET" "abcdefghijklmnopqrstuvwxyz", .str "LETTERS" "abcdefgh", .cls "Kind", .noat "Kind" "_table", .noat "Kind" "_size", .mkr "Kind", .meth "Kind" "__len__", .meth "Kind" "__eq__"]
def loose : List PySem.Str := (["_wall", "TeamError", "InvalidKind", "InvalidNumber", "UnknownName", "is_number_in", "need_number", "ALPHABET", "MAX_LETTERS", "MAX_STATES", "MAX_OPERATIONS", "MAX_ANSWER", "is_name"] : List PySem.Str) ++ (["_is_pair", "_is_row", "_is_table", "Kind", "LETTERS", "QUEUE_WORDS", "_lettered", "cell_kind", "adder_kind", "swap_kind", "slot_kind", "fading_kind", "_faded"] : List PySem.Str) ++ (["queue_kind", "_join_row", "highest_kind", "_law_vat", "_law_draw", "_law_choice", "_law_called", "_law_calls"] : List PySem.Str)
def tf : List Defn := [("_law_calls", none)]
abbrev R : PySem.W.OpenRow := PySem.W.OpenLaw.row PySem.Challenge.rw_teamtells_k09_errors_of_made_kinds
abbrev hk : PySem.W.Hook := hookY 6 fa ds tf exP
def ob (s : PySem.W.SharedT) : AlY × Bool := obsY 6 fa ds tf exP (HandSHeadRun.getT s)
theorem ob_eq (s : PySem.W.SharedT) : ob s = hk.obs s.abs := obsY_eq (HandSHeadRun.getT_eq s)
theorem run (w : World) : HandSHeadRun.RunEq R (PySem.W.view R.prog [39]) hk ob 6000 loose w := by
  intro os
  kernel_rfl
end TmH

set_option maxHeartbeats 2000000
/-! The end of a law whose promise holds where nothing is being told: one table of code objects. -/
namespace TmC
open PySem PySem.Spec PyProof.Rows L2 LamX
/-- what is tracked at first: the table, the script where it is no part of what is written -/
def firstH (K : PySem.W.Frag) (Pt a : Addr) (o : Obj) (xs : List V) : Hp := fun b => if b = Pt then some (.tbl #[]) else if b = a ∧ K.lookup a = none then some (.frz o (.lst xs)) else none
section
variable {K : PySem.W.Frag} {Pt a b : Addr} {o : Obj} {xs : List V}
theorem firstH_tab : firstH K Pt a o xs Pt = some (.tbl #[]) := if_pos rfl
theorem firstH_scr (n : a ≠ Pt) (k : K.lookup a = none) : firstH K Pt a o xs a = some (.frz o (.lst xs)) := (if_neg n).trans (if_pos ⟨rfl, k⟩)
theorem firstH_else (n : b ≠ Pt) (k : b = a → K.lookup a ≠ none) : firstH K Pt a o xs b = none := (if_neg n).trans (if_neg fun z => k z.1 z.2)
theorem firstH_is {u : HO} (e : firstH K Pt a o xs b = some u) : (b = Pt ∧ u = .tbl #[]) ∨ (b = a ∧ K.lookup a = none ∧ u = .frz o (.lst xs)) := by
  unfold firstH at e
  split at e
  · rename_i z
    exact .inl ⟨z, (Option.some.inj e).symm⟩
  · split at e
    · rename_i _ z
      exact .inr ⟨z.1, z.2, (Option.some.inj e).symm⟩
    · cases e
end
theorem callG {P : Program} {w : World} {K : PySem.W.Frag} {mg mb : Str → Option Value} {k : Nat} {fa a ct Pt : Addr} {fd : FuncData} {x : Str} {sp : Sp} {t1 : Shared} {vs : List Value} {ns : List Int}
    (KX : K.In t1.heap) (gl : t1.heap.Ns mainGlobals mg) (bl : t1.heap.Ns builtinsNs mb) (boot : ∀ x : Str, x ≠ "__name__" → mb x = bootBuiltins x) (lim : t1.heap.NoLimit) (gen : t1.gens = #[])
    (tab : t1.heap.get? Pt = some { cls := .none, data := .fields #[] }) (out : K.lookup Pt = none) (hd : PySem.W.CodeHd t1.heap ct Pt)
    (bmain : ∃ (bm : Addr) (ob : Obj), mg "__builtins__" = some (.ref bm) ∧ bm ≠ builtinsNs ∧ t1.heap.get? bm = some ob ∧ ob.cls = .type "module" ∧ ob.dict = some builtinsNs ∧ ob.data = .plain)
    (scr : t1.heap.get? a = some { cls := .type "list", data := .seq vs.toArray }) (nums : IntsAre vs ns) (few : ns.length ≤ sizeLine) (room : Room k callerA)
    (F : ∀ base : Heap, K.In base → base.Ns mainGlobals mg → TabB base mg ct Pt → ∀ (A : Around) (outer : List Env) (s : Shared) (H : Hp) (args : Args) (us : List Value) (vs : List V) (Q : VK) (E : XK), Room k A → A.guards = some [] → Env0 P w K mg base A outer s H →
      BindsTo s fd args (([x] : List Str).zip us) → Vals vs us → sp vs H Q E → codeAny (model P w) A (.call (.ref fa) args) (CR CX0 outer P w H s Q E) s)
    (bind : ∀ (s : Shared) (u : Value), BindsTo s fd ⟨[u], []⟩ [(x, u)]) (hsp : ∀ H : Hp, H Pt = some (.tbl #[]) → SqL K H a (ns.map V.int) → sp [.ref a] H (fun v _ => v = .bl true) fun _ _ _ => False) :
    codeAny (model P w) callerA (.call (.ref fa) ⟨[.ref a], []⟩) (fun r s' => r = .ok (.ret (.bool true)) ∧ OldK t1.heap s'.heap ∧ s'.os = t1.os ∧ AllBare s'.gens) t1 := by
  have rv := vals_ints nums
  have lenV := nums.length
  have naP : a ≠ Pt := fun z => by
    rw [z, tab] at scr
    cases scr
  generalize hH : firstH K Pt a { cls := .type "list", data := .seq vs.toArray } (ns.map V.int) = H0
  have tracked : ∀ {b u}, H0 b = some u → (b = Pt ∧ u = .tbl #[]) ∨ (b = a ∧ K.lookup a = none ∧ u = .frz { cls := .type "list", data := .seq vs.toArray } (.lst (ns.map V.int))) := fun {b u} e => by
    rw [← hH] at e
    exact firstH_is e
  have atP : H0 Pt = some (.tbl #[]) := by
    rw [← hH]
    exact firstH_tab
  -- an object that is neither the table's nor the script's
  have plain : ∀ {b : Addr} {ob : Obj}, t1.heap.get? b = some ob → (∀ vs n, ob.data ≠ .seq vs n) → ob.data ≠ .fields #[] → H0 b = none := fun {b ob} e n1 n2 => by
    cases q : H0 b with
    | none => rfl
    | some u =>
      rcases tracked q with ⟨z, _⟩ | ⟨z, _⟩
      · rw [z, tab] at e
        cases e
        exact absurd rfl n2
      · rw [z, scr] at e
        cases e
        exact absurd rfl (n1 _ _)
  have under : ∀ {b : Addr} {ob : Obj}, t1.heap.get? b = some ob → H0 b = none → (hidT t1.heap H0).get? b = some ob := fun e n => hidT_get e n
  have ns_ : ∀ {b : Addr} {m : Str → Option Value}, t1.heap.Ns b m → (hidT t1.heap H0).Ns b m := fun {b m} ⟨ob, es, ep, e, d, r⟩ => ⟨ob, es, ep, under e (plain e (fun _ _ z => by rw [d] at z; cases z) fun z => by rw [d] at z; cases z), d, r⟩
  have inK : K.In (hidT t1.heap H0) := fun b ob e => under (KX b ob e) (by
    cases q : H0 b with
    | none => rfl
    | some u =>
      rcases tracked q with ⟨z, _⟩ | ⟨z, z2, _⟩
      · rw [z, out] at e
        cases e
      · rw [z, z2] at e
        cases e)
  have md : L2.Mod K mg (hidT t1.heap H0) := ⟨inK, ns_ gl, ⟨mb, ns_ bl, boot⟩, let ⟨mc, l1, l2⟩ := lim; ⟨mc, ns_ l1, l2⟩⟩
  have tb : TabB (hidT t1.heap H0) mg ct Pt := by
    refine ⟨?_, ?_, fun z => ?_⟩
    · obtain ⟨ob, us, file, tf, flags, tg, inF, text, tt, e1, r1, r2, r3, rest⟩ := hd
      refine ⟨ob, us, file, tf, flags, tg, inF, text, tt, under e1 (plain e1 (fun _ _ z => by rw [r2] at z; cases z) fun z => ?_), r1, r2, r3, rest⟩
      rw [r2] at z
      cases z
      simp at r3
    · obtain ⟨bm, ob, c1, c2, c3, c4, c5, c6⟩ := bmain
      have n1 : bm ≠ mainGlobals := fun z => by
        obtain ⟨og, es, ep, e, d, _⟩ := gl
        rw [z, e] at c3
        cases c3
        rw [d] at c6
        cases c6
      have n2 : bm ≠ Pt := fun z => by
        rw [z, tab] at c3
        cases c3
        cases c6
      exact ⟨bm, ob, c1, c2, n1, n2, under c3 (plain c3 (fun _ _ z => by rw [c6] at z; cases z) fun z => by rw [c6] at z; cases z), c4, c5, c6⟩
    · obtain ⟨og, es, ep, e, d, _⟩ := gl
      rw [z, tab] at e
      cases e
      cases d
  have hok : HOk P w H0 t1.heap := fun b u e => by
    rcases tracked e with ⟨z, z2⟩ | ⟨z, _, z2⟩
    · rw [z, z2]
      exact tab
    · rw [z, z2]
      exact ⟨scr, by rw [List.length_map]; exact few, vs, _, rv, scr⟩
  have sq : SqL K H0 a (ns.map V.int) := by
    cases q : K.lookup a with
    | none => exact .inl (.inr ⟨_, by rw [← hH]; exact firstH_scr naP q⟩)
    | some ob =>
      have e := KX a ob q
      rw [scr] at e
      cases e
      exact .inr ⟨_, vs.toArray, _, q, rfl, rfl, rfl, by rw [List.size_toArray, lenV]; exact few, by simpa using rv⟩
  have e0 : Env0 P w K mg (hidT t1.heap H0) callerA [] t1 H0 := ⟨rfl, md, fun b ob e => of_hidT e, Nat.le_of_eq (hidT_size _ _), trivial, fun b hb => absurd (show b ∈ ([] : List Addr) from hb) (by simp), hok, .of_eq gen⟩
  refine codeAny_mono (F _ inK (ns_ gl) tb callerA [] t1 H0 ⟨[.ref a], []⟩ [.ref a] [.ref a] _ _ room rfl e0 (bind t1 (.ref a)) (.cons rfl .nil) (hsp H0 atP sq)) fun r s' h => ?_
  cases r with
  | error e => exact (show False from h).elim
  | ok fl =>
    cases fl with
    | next => exact False.elim h
    | brk => exact False.elim h
    | cont => exact False.elim h
    | ret u =>
      obtain ⟨v, H', os, bare, un, hok', r', q⟩ := h
      have q' : v = .bl true := q
      subst q'
      obtain rfl : u = Value.bool true := r'
      have same : ∀ b ob, b ≠ Pt → t1.heap.get? b = some ob → s'.heap.get? b = some ob := fun b ob nb e => by
        cases qq : H0 b with
        | none => exact un.keep b ob e qq (by intro z; exact absurd (show b ∈ ([] : List Addr) from z) (by simp)) (by simp)
        | some u =>
          rcases tracked qq with ⟨z, _⟩ | ⟨z, _, z2⟩
          · exact absurd z nb
          · rw [z2] at qq
            have f2 := hok' b _ (un.frzs b _ _ qq)
            rw [z, scr] at e
            cases e
            exact f2.1
      obtain ⟨more, grown⟩ := un.tbls Pt #[] atP
      have grown' : s'.heap.get? Pt = some { cls := .none, data := .fields (#[] ++ more) } := hok' Pt _ grown
      refine ⟨rfl, ⟨fun b ob e => ?_, fun b ob e => ?_⟩, os, bare⟩
      · by_cases z : b = Pt
        · rw [z] at e ⊢
          rw [tab] at e
          cases e
          exact .inr (.inl ⟨(hd.tab tab).isCodeTable, rfl, #[], more, rfl, by rw [grown']⟩)
        · exact .inl (same b ob z e)
      · by_cases z : b = Pt
        · rw [z]
          exact ⟨_, grown'⟩
        · exact ⟨ob, same b ob z e⟩
/-- what is known of the law at the head's heap -/
def LawG (l : PySem.W.OpenLaw) (w : World) (K : PySem.W.Frag) (k n : Nat) (x : Str) (mg : Str → Option Value) (fa : Addr) (h : Heap) : Prop :=
  ∃ (fd : FuncData) (ct Pt : Addr) (sp : Sp), h.get? Pt = some { cls := .none, data := .fields #[] } ∧ K.lookup Pt = none ∧ PySem.W.CodeHd h ct Pt ∧ (∀ (s : Shared) (u : Value), BindsTo s fd ⟨[u], []⟩ [(x, u)]) ∧
    (∀ (H : Hp) (a : Addr) (ns : List Int), ns.length ≤ n → H Pt = some (.tbl #[]) → SqL K H a (ns.map V.int) → sp [.ref a] H (fun v _ => v = .bl true) fun _ _ _ => False) ∧
    ∀ base : Heap, K.In base → base.Ns mainGlobals mg → TabB base mg ct Pt → ∀ (A : Around) (outer : List Env) (s : Shared) (H : Hp) (args : Args) (us : List Value) (vs : List V) (Q : VK) (E : XK), Room k A → A.guards = some [] → Env0 l.prog w K mg base A outer s H →
      BindsTo s fd args (([x] : List Str).zip us) → Vals vs us → sp vs H Q E → codeAny (model l.prog w) A (.call (.ref fa) args) (CR CX0 outer l.prog w H s Q E) s
theorem walkG {l : PySem.W.OpenLaw} {n k : Nat} {q : Program} {loose : List Str} {XP : (Str → Option Value) → Heap → Prop} {YP : World → Heap → Prop} {d : DefRec} {x : Str}
    (most : l.most = some n) (line : n ≤ sizeLine) (nodef : d.params.defaults = []) (room : Room k callerA)
    (F : ∀ (w : World) (mg : Str → Option Value) (fa : Addr) (h : Heap), YP w h → h.Ns mainGlobals mg → mg d.name = some (.ref fa) → ∃ K : PySem.W.Frag, K.In h ∧ LawG l w K k n x mg fa h) :
    PySem.W.WalkO q loose XP YP l.row.toRowW d [] (fun f vs => PySem.call f vs) := by
  refine Att.attach_callB most nodef fun w s₀ t1 mg mb fa o pm cd doc a vs ns G Y _ _ _ at_ scr nums few _ gen => ?_
  obtain ⟨K, KX, fd, ct, Pt, sp, tab, out, hd, bind, hsp, hF⟩ := F w mg fa _ Y G.T.g at_
  exact callG KX G.T.g G.T.b G.T.builtins G.T.nolimit gen tab out hd G.T.bmain scr nums (Nat.le_trans few line) room hF bind fun H hH hS => hsp H a ns few hH hS
end TmC

namespace TmH
open PySem PySem.Spec PyProof.Rows L2 LamX He Tm TmC
section
variable {P : Program} {w : World} {K : PySem.W.Frag} {h : Heap} {mg : Str → Option Value}
theorem mkDf (X : K.In h) (G : h.Ns mainGlobals mg) (c : SaysY fa ds tf exP h K) (x : Str) (st : Stmt) (ps : List Str) (i : Nat) (hi : ds[i]? = some ⟨fun K => ga K x, x, x, st⟩) (hf : Fa.glo x ∈ fa)
    (hb : ∀ (kV doc pm : Value) (an : Option Addr) (cdv ct : Value) (us : List Value), us.length = ps.length → bindArgs (PySem.W.fnOf x x (defArgs st) (defBody st) (defScope st) .none kV doc pm an cdv ct) ⟨us, []⟩ = pure (ps.zip us)) : Df K mg x st ps := by
  have F := c.def_ i hi
  obtain ⟨fd, f⟩ := F.fun_
  exact ⟨_, fd, glo_ok X G (c.fact hf), F.kp, f, f.binds hb⟩
theorem mkDfM (c : SaysY fa ds tf exP h K) (m q : Str) (st : Stmt) (ps : List Str) (i : Nat) (hi : ds[i]? = some ⟨fun K => ma K (ga K "Kind") m, m, q, st⟩) (hf : Fa.meth "Kind" m ∈ fa)
    (hb : ∀ (kV doc pm : Value) (an : Option Addr) (cdv ct : Value) (us : List Value), us.length = ps.length → bindArgs (PySem.W.fnOf m q (defArgs st) (defBody st) (defScope st) .none kV doc pm an cdv ct) ⟨us, []⟩ = pure (ps.zip us)) : DfM K (ga K "Kind") m q st ps := by
  obtain ⟨fd, f⟩ := (c.def_ i hi).fun_
  exact ⟨_, fd, meth_ok (c.fact hf), f, f.binds hb⟩
theorem mkBt (X : K.In h) (G : h.Ns mainGlobals mg) (c : SaysY fa ds tf exP h K) : Bt mg := by
  have f : ∀ x, Fa.free x ∈ fa → mg x = none := fun x hx => free_ok X G (c.fact hx)
  refine ⟨f _ ?_, f _ ?_, f _ ?_, f _ ?_, f _ ?_, f _ ?_, f _ ?_, f _ ?_, f _ ?_, f _ ?_, f _ ?_, f _ ?_, f _ ?_, f _ ?_, f _ ?_⟩ <;> (unfold fa; simp)
theorem mkInt (X : K.In h) (G : h.Ns mainGlobals mg) (c : SaysY fa ds tf exP h K) {x : Str} {i : Int} (hf : Fa.int x i ∈ fa) : GV mg x (.int i) := by
  obtain ⟨t, e⟩ := int_ok X G (c.fact hf)
  exact ⟨_, e, t, rfl⟩
theorem mkStr (X : K.In h) (G : h.Ns mainGlobals mg) (c : SaysY fa ds tf exP h K) {x z : Str} (hf : Fa.str x z ∈ fa) : GV mg x (.str z) := by
  obtain ⟨t, e⟩ := str_ok X G (c.fact hf)
  exact ⟨_, e, t, rfl⟩
theorem mkDfS (c : SaysY fa ds tf exP h K) (m q : Str) (st : Stmt) (ps : List Str) (i : Nat) (hi : ds[i]? = some ⟨fun K => ma K (ga K "Kind") m, m, q, st⟩) (hf : Fa.meth "Kind" m ∈ fa)
    (hb : ∀ (kV doc pm : Value) (an : Option Addr) (cdv ct : Value) (us : List Value), us.length = ps.length → bindArgs (PySem.W.fnOf m q (defArgs st) (defBody st) (defScope st) .none kV doc pm an cdv ct) ⟨us, []⟩ = pure (ps.zip us)) : DfS K (ga K "Kind") m q st ps := by
  obtain ⟨fd, F⟩ := (c.def_ i hi).fun_
  have m1 := meth_ok (c.fact hf)
  exact ⟨_, fd, ⟨m1.at_, m1.fn⟩, F, F.binds hb⟩
theorem mkDfP (c : SaysY fa ds tf exP h K) (m q : Str) (st : Stmt) (i : Nat) (hi : ds[i]? = some ⟨fun K => getP K m, m, q, st⟩) (hp : propB K m = true)
    (hb : ∀ (kV doc pm : Value) (an : Option Addr) (cdv ct : Value) (us : List Value), us.length = (["self"] : List Str).length → bindArgs (PySem.W.fnOf m q (defArgs st) (defBody st) (defScope st) .none kV doc pm an cdv ct) ⟨us, []⟩ = pure ((["self"] : List Str).zip us)) : DfP K (ga K "Kind") m q st := by
  obtain ⟨x1, e1⟩ := ba hp
  obtain ⟨x2, e2⟩ := ba e1
  obtain ⟨x3, x4⟩ := ba e2
  obtain ⟨fd, F⟩ := (c.def_ i hi).fun_
  refine ⟨ma K (ga K "Kind") m, getP K m, fd, ⟨eqO_ok x1, eqO_ok x2, of_decide_eq_true x3, ?_⟩, F, F.binds hb⟩
  unfold getP
  split at x4
  · rename_i g rest e
    exact ⟨rest, by rw [e]⟩
  · cases x4
theorem excB_ok {C : Addr} (e : excB K C = true) : ∃ nm q N bs bm sn sub ab col dd k0 k1 k2 k3 k5, K.lookup C = some (excClassObj nm q C N bs bm true sn sub ab col dd k0 k1 k2 k3 k5 "IndexError.__new__") ∧ PySem.NumX.refsIE bm = true := by
  unfold excB at e
  split at e
  · rename_i dd cd sl q
    split at e
    · rename_i C' bm k0 k1 k2 k3 n k5 m1 m2
      obtain ⟨a1, e⟩ := ba e
      obtain ⟨a2, e⟩ := ba e
      obtain ⟨a3, e⟩ := ba e
      obtain ⟨a4, a5⟩ := ba e
      have b1 := of_decide_eq_true a1
      have b2 := of_decide_eq_true a2
      subst b1 b2
      obtain ⟨nm, bs, mro, N, qn, hdc, sn, sub, ab, col, dl⟩ := cd
      dsimp only at m1 a3 a4
      subst m1
      have b3 : dl = false := by
        cases dl
        · rfl
        · cases a3
      subst a4 b3
      obtain ⟨sll⟩ := sl
      dsimp only at m2
      subst m2
      exact ⟨nm, qn, N, bs, bm, sn, sub, ab, col, dd, k0, k1, k2, k3, k5, q, a5⟩
    · cases e
  · cases e
theorem mkNum (X : K.In h) (G : h.Ns mainGlobals mg) (c : SaysY fa ds tf exP h K) (e : numB K = true) : PySem.NumX.NumTxt K mg (CN K) (FN K) := by
  obtain ⟨a1, e⟩ := ba e
  obtain ⟨a2, e⟩ := ba e
  obtain ⟨a3, e⟩ := ba e
  obtain ⟨a4, e⟩ := ba e
  obtain ⟨a5, e⟩ := ba e
  obtain ⟨a6, e⟩ := ba e
  obtain ⟨a7, e⟩ := ba e
  obtain ⟨a8, e⟩ := ba e
  obtain ⟨a9, e⟩ := ba e
  obtain ⟨b1, e⟩ := ba e
  obtain ⟨b2, e⟩ := ba e
  obtain ⟨b3, b4⟩ := ba e
  obtain ⟨oc, od, kV, doc, pm, an, cdv, ct, osl, l, ci⟩ := (c.def_ 26 (d := ⟨fun K => FN K, "__init__", "InvalidNumber.__init__", inClass (top 4) 0⟩) rfl).ex
  have ek : kV = .none := by
    unfold noKw at b4
    rw [show K.lookup (FN K) = _ from l] at b4
    dsimp only at b4
    cases kV <;> first | rfl | cases b4
  subst ek
  exact { gC := glo_ok X G (c.fact (by unfold fa; simp)), cls := excB_ok a1, sa := eqO_ok a2, ga := eqO_ok a3, gg := eqO_ok a4, noN := eqO_ok a5, iC := eqO_ok a6, tC := of_decide_eq_true a7, kC := a8, exC := of_decide_eq_true a9, tyC := of_decide_eq_true b1, hdC := b2, te := of_decide_eq_true b3,
          fn := ⟨oc, od, doc, pm, an, cdv, ct, osl, _, _, _, _, _, _, l, ci⟩ }
theorem facts (X : K.In h) (G : h.Ns mainGlobals mg) (c : SaysY fa ds tf exP h K) {f : Addr} (hfa : mg ("law" : Str) = some (.ref f)) :
    ∃ fd : FuncData, (∀ (s : Shared) (u : Value), BindsTo s fd ⟨[u], []⟩ [("_law_script", u)]) ∧ ∀ base : Heap, K.In base → base.Ns mainGlobals mg → TabB base mg (cT K ("_law_calls", none)).1 (cT K ("_law_calls", none)).2 →
      ∀ (A : Around) (outer : List Env) (s : Shared) (H : Hp) (args : Args) (us : List Value) (vs : List V) (Q : VK) (E : XK), Room 11 A → A.guards = some [] → Env0 P w K mg base A outer s H → BindsTo s fd args ((["_law_script"] : List Str).zip us) → Vals vs us → sp_law K [((cT K ("_law_calls", none)).2, QC)] vs H Q E →
        codeAny (model P w) A (.call (.ref f) args) (CR CX0 outer P w H s Q E) s := by
  have B := mkBt X G c
  have d_is_number_in : Df K mg "is_number_in" s_num ["value", "least", "most"] := mkDf X G c "is_number_in" s_num ["value", "least", "most"] 0 rfl (by unfold fa; simp) fun _ _ _ _ _ _ us hl => match us, hl with | [_, _, _], _ => rfl
  have d_need_number : Df K mg "need_number" s_need ["value", "least", "most"] := mkDf X G c "need_number" s_need ["value", "least", "most"] 1 rfl (by unfold fa; simp) fun _ _ _ _ _ _ us hl => match us, hl with | [_, _, _], _ => rfl
  have d_is_name : Df K mg "is_name" s_name ["value"] := mkDf X G c "is_name" s_name ["value"] 2 rfl (by unfold fa; simp) fun _ _ _ _ _ _ us hl => match us, hl with | [_], _ => rfl
  have d_is_pair : Df K mg "_is_pair" s_pair ["value", "size"] := mkDf X G c "_is_pair" s_pair ["value", "size"] 3 rfl (by unfold fa; simp) fun _ _ _ _ _ _ us hl => match us, hl with | [_, _], _ => rfl
  have d_is_row : Df K mg "_is_row" s_row ["value", "size"] := mkDf X G c "_is_row" s_row ["value", "size"] 4 rfl (by unfold fa; simp) fun _ _ _ _ _ _ us hl => match us, hl with | [_, _], _ => rfl
  have d_is_table : Df K mg "_is_table" s_table ["value"] := mkDf X G c "_is_table" s_table ["value"] 5 rfl (by unfold fa; simp) fun _ _ _ _ _ _ us hl => match us, hl with | [_], _ => rfl
  have d_lettered : Df K mg "_lettered" s_lettered ["word", "rows"] := mkDf X G c "_lettered" s_lettered ["word", "rows"] 6 rfl (by unfold fa; simp) fun _ _ _ _ _ _ us hl => match us, hl with | [_, _], _ => rfl
  have d_cell_kind : Df K mg "cell_kind" s_cell ["many"] := mkDf X G c "cell_kind" s_cell ["many"] 7 rfl (by unfold fa; simp) fun _ _ _ _ _ _ us hl => match us, hl with | [_], _ => rfl
  have d_adder_kind : Df K mg "adder_kind" s_adder ["many"] := mkDf X G c "adder_kind" s_adder ["many"] 8 rfl (by unfold fa; simp) fun _ _ _ _ _ _ us hl => match us, hl with | [_], _ => rfl
  have d_swap_kind : Df K mg "swap_kind" s_swap ["many"] := mkDf X G c "swap_kind" s_swap ["many"] 9 rfl (by unfold fa; simp) fun _ _ _ _ _ _ us hl => match us, hl with | [_], _ => rfl
  have d_slot_kind : Df K mg "slot_kind" s_slot ["many"] := mkDf X G c "slot_kind" s_slot ["many"] 10 rfl (by unfold fa; simp) fun _ _ _ _ _ _ us hl => match us, hl with | [_], _ => rfl
  have d_fading_kind : Df K mg "fading_kind" s_fading ["many"] := mkDf X G c "fading_kind" s_fading ["many"] 11 rfl (by unfold fa; simp) fun _ _ _ _ _ _ us hl => match us, hl with | [_], _ => rfl
  have d_faded : Df K mg "_faded" s_faded ["state", "many"] := mkDf X G c "_faded" s_faded ["state", "many"] 12 rfl (by unfold fa; simp) fun _ _ _ _ _ _ us hl => match us, hl with | [_, _], _ => rfl
  have d_queue_kind : Df K mg "queue_kind" s_queue ["many"] := mkDf X G c "queue_kind" s_queue ["many"] 13 rfl (by unfold fa; simp) fun _ _ _ _ _ _ us hl => match us, hl with | [_], _ => rfl
  have d_join_row : Df K mg "_join_row" s_join ["words", "many", "letter"] := mkDf X G c "_join_row" s_join ["words", "many", "letter"] 14 rfl (by unfold fa; simp) fun _ _ _ _ _ _ us hl => match us, hl with | [_, _, _], _ => rfl
  have d_highest_kind : Df K mg "highest_kind" s_high ["many"] := mkDf X G c "highest_kind" s_high ["many"] 15 rfl (by unfold fa; simp) fun _ _ _ _ _ _ us hl => match us, hl with | [_], _ => rfl
  have d_law_vat : Df K mg "_law_vat" s_vat ["_law_script", "_law_at"] := mkDf X G c "_law_vat" s_vat ["_law_script", "_law_at"] 16 rfl (by unfold fa; simp) fun _ _ _ _ _ _ us hl => match us, hl with | [_, _], _ => rfl
  have d_law_draw : Df K mg "_law_draw" s_draw ["_law_vat_here", "_law_total"] := mkDf X G c "_law_draw" s_draw ["_law_vat_here", "_law_total"] 17 rfl (by unfold fa; simp) fun _ _ _ _ _ _ us hl => match us, hl with | [_, _], _ => rfl
  have d_law_choice : Df K mg "_law_choice" s_choice ["_law_vat_here", "_law_items"] := mkDf X G c "_law_choice" s_choice ["_law_vat_here", "_law_items"] 18 rfl (by unfold fa; simp) fun _ _ _ _ _ _ us hl => match us, hl with | [_, _], _ => rfl
  have d_law_called : Df K mg "_law_called" s_called ["_law_call"] := mkDf X G c "_law_called" s_called ["_law_call"] 19 rfl (by unfold fa; simp) fun _ _ _ _ _ _ us hl => match us, hl with | [_], _ => rfl
  have gb : Gb mg := ⟨mkInt X G c (by unfold fa; simp), mkInt X G c (by unfold fa; simp), mkInt X G c (by unfold fa; simp), mkInt X G c (by unfold fa; simp), mkStr X G c (by unfold fa; simp)⟩
  have gm : Gm mg := ⟨mkStr X G c (by unfold fa; simp)⟩
  have T : Kc K (ga K "Kind") := ⟨cls_ok (c.fact (f := .cls "Kind") (by unfold fa; simp)), noat_ok (c.fact (f := .noat "Kind" "_table") (by unfold fa; simp)), noat_ok (c.fact (f := .noat "Kind" "_size") (by unfold fa; simp))⟩
  have gC : mg "Kind" = some (.ref (ga K "Kind")) := glo_ok X G (c.fact (by unfold fa; simp))
  have di : DfC K mg "Kind" (ga K "Kind") "Kind.__init__" s_init ["self", "operations"] := by
    obtain ⟨fd, F⟩ := (c.def_ 22 (d := ⟨fun K => ma K (ga K "Kind") "__init__", "__init__", "Kind.__init__", s_init⟩) rfl).fun_
    exact ⟨_, fd, gC, mkr_ok (c.fact (f := .mkr "Kind") (by unfold fa; simp)), F, F.binds fun _ _ _ _ _ _ us hl => match us, hl with | [_, _], _ => rfl⟩
  have m_len : DfS K (ga K "Kind") "__len__" "Kind.__len__" s_klen ["self"] := mkDfS c "__len__" "Kind.__len__" s_klen ["self"] 23 rfl (by unfold fa; simp) fun _ _ _ _ _ _ us hl => match us, hl with | [_], _ => rfl
  have m_eq : DfS K (ga K "Kind") "__eq__" "Kind.__eq__" s_keq ["self", "other"] := mkDfS c "__eq__" "Kind.__eq__" s_keq ["self", "other"] 24 rfl (by unfold fa; simp) fun _ _ _ _ _ _ us hl => match us, hl with | [_, _], _ => rfl
  obtain ⟨x1, e1⟩ := ba c.more
  obtain ⟨x2, e2⟩ := ba e1
  obtain ⟨x4, x5⟩ := ba e2
  obtain ⟨y1, f1⟩ := ba x4
  obtain ⟨y2, f2⟩ := ba f1
  obtain ⟨y3, f3⟩ := ba f2
  obtain ⟨y4, f4⟩ := ba f3
  obtain ⟨y5, y6⟩ := ba f4
  have TE : KcE K (ga K "Kind") := ⟨of_decide_eq_true y3, eqO_ok y4, eqO_ok y5, of_decide_eq_true y6, of_decide_eq_true y2⟩
  have N := mkNum X G c x2
  have p_operations : DfP K (ga K "Kind") "operations" "Kind.operations" s_ops := mkDfP c "operations" "Kind.operations" s_ops 25 rfl x1 fun _ _ _ _ _ _ us hl => match us, hl with | [_], _ => rfl
  have gq : GT K mg "QUEUE_WORDS" QW := ⟨_, glo_ok X G (c.fact (by unfold fa; simp)), fun H => tupB_ok x5 H⟩
  have hrepr : mg "repr" = none := free_ok X G (c.fact (f := .free "repr") (by unfold fa; simp))
  have FA := c.def_ 21 (d := ⟨fun K => ga K "law", "law", "law", s_law⟩) rfl
  obtain ⟨oc, od, kV, doc, pm, an, cdv, ct, osl, l, ci⟩ := FA.ex
  have FL := fun_mk (st := s_law) l ci FA.kp
  have hl := hfa.symm.trans (glo_ok X G (c.fact (f := .glo "law") (by unfold fa; simp)))
  have ef : f = ga K "law" := by
    cases hl
    rfl
  refine ⟨PySem.W.fnOf "law" "law" (defArgs s_law) (defBody s_law) (defScope s_law) .none kV doc pm an cdv ct, fun s u => .of_eq rfl, fun base _ _ tb => ?_⟩
  rw [ef]
  have FC := c.def_ 20 (d := ⟨fun K => ga K "_law_calls", "_law_calls", "_law_calls", s_calls⟩) rfl
  have dc : DfL K mg base "_law_calls" s_calls ["_law_number"] (cT K ("_law_calls", none)).1 (cT K ("_law_calls", none)).2 := by
    obtain ⟨oc, od, kV, doc, pm, an, cdv, ct, osl, l, ci⟩ := FC.ex
    obtain ⟨cc, ecc⟩ := codeIn_ref ci
    subst ecc
    have ec : codeOf K ("_law_calls", none) = cc := codeOf_eq (p := ("_law_calls", none)) l rfl
    refine ⟨⟨_, oc, od, kV, doc, pm, an, ct, osl, glo_ok X G (c.fact (by unfold fa; simp)), FC.kp, ?_, ?_, ?_⟩, tb⟩
    · rw [show (cT K ("_law_calls", none)).1 = cc from ec]
      exact l
    · rw [show (cT K ("_law_calls", none)).1 = cc from ec]
      exact ci
    · exact .all fun us hl => match us, hl with | [_], _ => rfl
  have o_num := ok_num (P := P) (w := w) (base := base) B d_is_number_in
  have o_need := ok_need o_num d_need_number
  have o_name := ok_name (P := P) (w := w) (base := base) B gb d_is_name
  have o_pair := ok_pair B gb o_num d_is_pair
  have o_row := ok_row B gb o_pair d_is_row
  have o_table := ok_table B gb o_name o_row d_is_table
  have o_init := ok_init B T o_table di
  have o_ops := ok_ops (P := P) (w := w) (mg := mg) (base := base) B T p_operations
  have o_len := ok_klen (P := P) (w := w) (mg := mg) (base := base) B T m_len
  have o_eq := ok_keq (P := P) (w := w) (mg := mg) (base := base) B T TE gC m_eq
  have o_lettered := ok_lettered B gm o_init d_lettered
  have o_cell := ok_cell1 B o_need o_lettered d_cell_kind
  have o_adder := ok_adder B o_need o_init d_adder_kind
  have o_swap := ok_swap B o_need o_lettered d_swap_kind
  have o_slot := ok_slot B o_need o_lettered d_slot_kind
  have o_faded := ok_faded (P := P) (w := w) (base := base) B d_faded
  have o_fading := ok_fading B o_need o_faded o_lettered d_fading_kind
  have o_join := ok_join (P := P) (w := w) (base := base) B d_join_row
  have o_queue := ok_queue B gq o_need o_join o_init d_queue_kind
  have o_high := ok_high B o_need o_lettered d_highest_kind
  have o_vat := ok_vat (P := P) (w := w) (base := base) B d_law_vat
  have o_draw := ok_draw (P := P) (w := w) (base := base) B d_law_draw
  have o_pick := ok_pick B o_draw d_law_choice
  have o_numV := ok_numV (P := P) (w := w) (base := base) B d_is_number_in
  have o_needV := ok_needV N o_numV d_need_number
  have seven := Seven.mk (both_of o_cell (bad_cell o_needV d_cell_kind)) (both_of o_adder (bad_adder o_needV d_adder_kind)) (both_of o_swap (bad_swap o_needV d_swap_kind)) (both_of o_slot (bad_slot o_needV d_slot_kind)) (both_of o_fading (bad_fading o_needV d_fading_kind)) (both_of o_queue (bad_queue o_needV d_queue_kind)) (both_of o_high (bad_high o_needV d_highest_kind))
  have o_called := ok_called seven N hrepr d_law_called
  have o_calls := ok_calls (P := P) (w := w) dc
  exact run_law B hrepr T o_vat o_draw o_pick o_calls o_called o_slot o_ops o_eq o_len FL
end
end TmH
open PySem PySem.W PySem.Calls PyProof.Rows
theorem PySem.Challenge.cw_teamtells_k09_errors_of_made_kinds_holds : PySem.Challenge.rw_teamtells_k09_errors_of_made_kinds.Holds := by
  w_on; o_law
  refine HandSHeadRun.head_any (r := OpenLaw.row PySem.Challenge.rw_teamtells_k09_errors_of_made_kinds) (q := view (OpenLaw.row PySem.Challenge.rw_teamtells_k09_errors_of_made_kinds).prog [39]) (H := TmH.hk) (ob := TmH.ob) (M := 6000) (loose := TmH.loose) (d := HandSHeadRun.topDef (OpenLaw.row PySem.Challenge.rw_teamtells_k09_errors_of_made_kinds).prog 39) (kwd := []) TmH.ob_eq
    (by kernel_rfl) (fun s => by kernel_rfl) TmH.run (by kernel_rfl) (by kernel_rfl) (by kernel_rfl) (by rfl) (by first | assumption | decide +kernel) (by decide +kernel) ⟨rfl, rfl, rfl, rfl, rfl, by decide +kernel⟩ ?hw ?hc
  case hw => w_witness2
  case hc =>
    refine TmC.walkG (l := PySem.Challenge.rw_teamtells_k09_errors_of_made_kinds) (n := 63) (k := 11) (x := "_law_script") rfl (by decide) (by kernel_rfl) ⟨rfl, by decide, by decide⟩ ?F
    intro w mg fa h Y G hmg0
    obtain ⟨K, KX, c⟩ := Y
    have hmg : mg ("law" : PySem.Str) = some (.ref fa) := by
      have e : (HandSHeadRun.topDef (OpenLaw.row PySem.Challenge.rw_teamtells_k09_errors_of_made_kinds).prog 39).name = ("law" : PySem.Str) := by kernel_rfl
      rw [← e]
      exact hmg0
    obtain ⟨fd, hb, hF⟩ := TmH.facts (P := (PySem.Challenge.rw_teamtells_k09_errors_of_made_kinds).prog) (w := w) KX G c hmg
    have mem : (("_law_calls", none) : He.Defn) ∈ TmH.tf := List.mem_cons_self
    refine ⟨K, KX, fd, (He.cT K ("_law_calls", none)).1, (He.cT K ("_law_calls", none)).2, TmC.sp_law K [((He.cT K ("_law_calls", none)).2, TmC.QC)], c.empty _ mem, c.out _ mem, codeHd_of_K KX (c.hd _ mem), hb, fun H a ns hl hT hS => ?_, hF⟩
    refine ⟨a, ns, rfl, hS, hl, fun p hp => ?_, fun _ => rfl⟩
    rw [List.mem_singleton.mp hp]
    exact LamX.TabS.nil hT

