import PyProof.Rows.All
import Wide.All
import OpenK.AllK
import Wide.FinOn
import KE.KDictList
import KE.KCallOwn
import PyProof.InstEq
import KE.KFmtOwn
import PyProof.JoinWalk
import PyProof.CollectIter
import PyProof.DictWalks
import HandS.ForMost
import HandS.More
import HandS.IsInst
import HandS.DictComp
import HandS.Property
import HandS.Star
import HandS.TupMul
import HandS.TupAny
import HandS.Deep
import HandS.Wide
import HandS.Walk
import HandS.Conv
import HandS.Replace
import HandS.FStr
import HandS.DeepEq
import HandS.SetBool
import HandS.Strs
import HandS.SetFor
import HandS.TupSets
import HandS.Small
import HandS.Iter
import HandS.Head0
import HandS.Head1
import HandS.Head2
import HandS.HeadHook1
import HandS.HeadHook2
import HandS.HeadHook3
import HandS.HeadHook4
import HandS.HeadWalk
import PySem.Challenge.RW_teamtells_k05_made_kinds_told
set_option Elab.async false
set_option linter.all false
set_option maxRecDepth 100000
set_option maxHeartbeats 2000000
/-! Rules of my own beside the hand layer. -/
namespace Tm
open PySem PySem.Spec PyProof.Rows L2

/-! ### v in o, v not in o: the class has a method for it -/
structure InM (K : PySem.W.Frag) (C f : Addr) : Prop where
  fnd : PySem.W.findIn K (.ref C) "__contains__" = some (some (.ref f))
  isf : PySem.W.isFn K (.ref f) = true
def rInO (C : Addr) (sp : Sp) (E : XK) (neg : Bool) : R2 := fun x y H Q => ∃ a dx fs, y = .ref a ∧ H a = some (.ins C dx fs) ∧
  sp [.ref a, x] H (fun v H' => ∃ b : Bool, v = .bl b ∧ Q (.bl (if neg then !b else b)) H') E
section
variable {X : Cx} {CX : CXT} {k : Nat} {C f : Addr} {fd : FuncData} {ps : List Str} {sp : Sp} {E : XK}
theorem in_run (M : InM X.K C f) (F : FnOk X.prog X.w X.K X.mg X.base CX k f fd ps sp) (hr : Room k X.A) (hb : Binds X.K fd ps []) (hx : Passes CX X E)
    {pins : List (Addr × Obj)} {σ : L2.St} {H : Hp} {s : Shared} {x : V} {v : Value} {a dx : Addr} {fs : List (Str × V)} {Q : Bool → VK} (I : Inv X pins σ H s) (rx : RelV x v) (ha : H a = some (.ins C dx fs))
    (g : Bool → Bool) (hq : sp [.ref a, x] H (fun v H' => ∃ b : Bool, v = .bl b ∧ Q b (.bl (g b)) H') E) :
    wpAny (model X.prog X.w) X.A (call (.ref f) [.ref a, v]) (fun r s' => wpAny (model X.prog X.w) X.A (truthy r) (fun b => EP X pins σ (Q b) (.bool (g b))) X.xe s') X.xe s := by
  have hv : Vals [V.ref a, x] [Value.ref a, v] := .cons rfl (.cons rx .nil)
  have run := run_fn (us := [.ref a, v]) (vs := [.ref a, x]) (Q := fun v H' => ∃ b : Bool, v = .bl b ∧ Q b (.bl (g b)) H') F hr hb .nil hx I hv (by simpa using hq)
  refine wpAny_mono run (fun r s' z => ?_) fun _ _ z => z
  obtain ⟨w, H', I', rw', b, ew, q⟩ := z
  subst ew
  have e : r = Value.bool b := rw'
  subst e
  exact wpAny_truthy_bool ⟨.bl (g b), H', I', rfl, q⟩
theorem op_inO (M : InM X.K C f) (F : FnOk X.prog X.w X.K X.mg X.base CX k f fd ps sp) (hr : Room k X.A) (hb : Binds X.K fd ps []) (hx : Passes CX X E) : OpR X (compareOp .In) (rInO C sp E false) := by
  intro pins s σ H x y v u Q I rx ry h
  obtain ⟨a, dx, fs, ey, ha, hq⟩ := h
  subst ey
  cases ry
  obtain ⟨mA, O, _⟩ := ins_get I.hok ha
  obtain ⟨od, J, _⟩ := O.look
  obtain ⟨m, hF⟩ := I.fr
  exact PySem.W.in_K hF I.ok.mod.kin J M.fnd M.isf (in_run (Q := fun _ => Q) M F hr hb hx I rx ha (fun b => b) (by simpa using hq))
theorem op_notInO (M : InM X.K C f) (F : FnOk X.prog X.w X.K X.mg X.base CX k f fd ps sp) (hr : Room k X.A) (hb : Binds X.K fd ps []) (hx : Passes CX X E) : OpR X (compareOp .NotIn) (rInO C sp E true) := by
  intro pins s σ H x y v u Q I rx ry h
  obtain ⟨a, dx, fs, ey, ha, hq⟩ := h
  subst ey
  cases ry
  obtain ⟨mA, O, _⟩ := ins_get I.hok ha
  obtain ⟨od, J, _⟩ := O.look
  obtain ⟨m, hF⟩ := I.fr
  exact PySem.W.notIn_K hF I.ok.mod.kin J M.fnd M.isf (in_run (Q := fun _ => Q) M F hr hb hx I rx ha (fun b => !b) (by simpa using hq))
end
/-! ### list(e.values()) -/
def tListVals (te : TE) : TE := fun σ H Q => te σ H fun x H1 => ∃ (d : Addr) (kvs : List (L2.Key × V)), x = .ref d ∧ H1 d = some (.dK kvs) ∧ ∀ p, H1 p = none → Q (.ref p) (upd H1 p (.lst (kvs.map (·.2))))
theorem kvals_map : ∀ {kvs : List (L2.Key × V)} {vs : List (L2.Key × Value)}, KV kvs vs → Vals (kvs.map (·.2)) (vs.map (·.2))
  | _, _, .nil => .nil
  | _, _, .cons r t => .cons r.2 (kvals_map t)
theorem vals_of_ix {vs : List (L2.Key × Value)} (acc : List Value) (hl : acc.length = vs.length) (h : ∀ (i : Nat) (v : Value), acc[i]? = some v → ∃ k : L2.Key, vs[i]? = some (k, v)) : acc = vs.map (·.2) := by
  apply List.ext_getElem?
  intro i
  rw [List.getElem?_map]
  cases e : acc[i]? with
  | none =>
    have : vs.length ≤ i := by rw [← hl]; exact List.getElem?_eq_none_iff.mp e
    rw [List.getElem?_eq_none_iff.mpr this]; rfl
  | some v =>
    obtain ⟨k, hk⟩ := h i v e
    rw [hk]; rfl
section
variable {X : Cx} {e : Expr} {te : TE} {p apos cpos pos : Pos}
theorem pe_listVals (hc : X.calm = true) (he : PE X e te) (hg : Gl X "list") (hm : X.mg "list" = none)
    (hb : attributeBase e "values" X.env (eval e X.env) = eval e X.env := by rfl) (hli : (apos.endLine == cpos.line) = true := by rfl)
    (hst : starEach [.Call (.Attribute e "values" apos) [] [] cpos] X.env = (false, eval (.Call (.Attribute e "values" apos) [] [] cpos) X.env) :: starEach [] X.env := by rfl) :
    PE X (.Call (.Name "list" p) [.Call (.Attribute e "values" apos) [] [] cpos] [] pos) (tListVals te) := by
  refine ⟨fun pins s σ H Q I hq => ?_⟩
  have hv : bootBuiltins "list" = some (.type "list") := by decide +kernel
  refine wpAny_Call_Name_kw (ld_blt I hg hm hv ?_)
  refine PyProof.Rows.callWith_type1 ?_ hst rfl
  rw [hst]
  show wpAny _ _ (spliced ((false, eval (.Call (.Attribute e "values" apos) [] [] cpos) X.env) :: backTo pos (starEach [] X.env))) _ _ s
  refine Calls.spliced_cons ?_
  have evd := he.run pins s σ H _ I hq
  refine wpAny_Call_method (T := "dict") (id := "dict.values") hb rfl hli F.plainAttrs_dict F.slot_dict_values F.type_dict_values (thn evd fun u s1 z => ?_)
  obtain ⟨x, H1, I1, rx, d, kvs, ex, hd, q⟩ := z
  subst ex
  have eu : u = Value.ref d := rx
  subst eu
  obtain ⟨hz, sys, vs, kv, hdo⟩ := I1.hok d _ hd
  obtain ⟨ep, hat⟩ := hdo.dictAt
  have lk : kvs.length = vs.length := Paired.length kv
  generalize hview : ({ cls := .type "dict_values", data := .fields #[.ref d] } : Obj) = view
  have I2 : Inv X pins σ H1 { s1 with heap := s1.heap.push view } := I1.kept (t' := s1.toks) fun b ob q => Heap.get?_push_of_some _ q
  refine ⟨hdo.typeIs, hdo.mapOf.noDict, ?_⟩
  show wpAny _ _ (callWith cpos (.builtin "dict.values") [.ref d] [] []) _ X.xe s1
  refine method_meetsIn F.slot_dict_values F.entry_dict_values rfl (PySem.evalArgs_none ⟨rfl, hdo.typeIs, F.args_dict_values_1 _, _, meets_dict_values (mixKind X.prog X.w) d sys, ⟨vs, hdo⟩, ?_⟩)
  subst hview
  refine Calls.spliced_nil ?_
  refine PySem.W.kdl_call (PySem.W.kdl_values (knd := mixKind X.prog X.w) (kvs := vs) (ep := ep)) (I1.ok.hd hc) ⟨⟨_, Heap.get?_push_size _ rfl, rfl, rfl⟩, hat.push _⟩ (by rw [← lk]; exact hz) fun h' tk acc c hk hS hacc => ?_
  have new : H1 (s1.heap.push ({ cls := .type "dict_values", data := .fields #[.ref d] } : Obj)).objs.size = none := I2.hok.fresh (Nat.le_refl _)
  have ea : acc.toList = vs.map (·.2) := vals_of_ix acc.toList (by rw [Array.length_toList]; exact hacc.1) fun i v hv' => hacc.2 i v (by rw [← Array.getElem?_toList]; exact hv')
  refine ⟨.ref _, _, I2.laid (t' := tk) (o := .lst (kvs.map (·.2))) hk (Nat.le_refl _) ⟨by rw [List.length_map]; exact hz, acc.toList, c, ?_, ?_⟩, rfl, q _ new⟩
  · rw [ea]; exact kvals_map kv
  · rw [Array.toArray_toList]; exact hS
end
end Tm

namespace Tm
open PySem PySem.Spec PyProof.Rows L2

/-! ### calls by name: a def of the top, a method, a property, the class -/
section
variable (P : Program) (w : World) (K : PySem.W.Frag) (mg : Str → Option Value) (base : Heap)
/-- the name x of the top stands for a def that keeps its promise -/
structure Ok (x : Str) (k : Nat) (ps : List Str) (sp : Sp) : Prop where
  ex : ∃ (f : Addr) (fd : FuncData), mg x = some (.ref f) ∧ PySem.W.keepIn K (.ref f) = true ∧ FnOk P w K mg base CX0 k f fd ps sp ∧ Binds K fd ps []
structure OkM (C : Addr) (m : Str) (k : Nat) (ps : List Str) (sp : Sp) : Prop where
  ex : ∃ (f : Addr) (fd : FuncData), Meth K C m f ∧ FnOk P w K mg base CX0 k f fd ps sp ∧ Binds K fd ps []
structure OkP (C : Addr) (m : Str) (k : Nat) (sp : Sp) : Prop where
  ex : ∃ (p g : Addr) (fd : FuncData), PropOf K C m p g ∧ FnOk P w K mg base CX0 k g fd ["self"] sp ∧ Binds K fd ["self"] []
structure OkC (x : Str) (C : Addr) (k : Nat) (ps : List Str) (sp : Sp) : Prop where
  ex : ∃ (f : Addr) (fd : FuncData), mg x = some (.ref C) ∧ Mk K C f ∧ FnOk P w K mg base CX0 k f fd ps sp ∧ Binds K fd ps []
structure OkIn (C : Addr) (k : Nat) (ps : List Str) (sp : Sp) : Prop where
  ex : ∃ (f : Addr) (fd : FuncData), InM K C f ∧ FnOk P w K mg base CX0 k f fd ps sp ∧ Binds K fd ps []
end
section
variable {X : Cx} {x m : Str} {k j : Nat} {C : Addr} {ps : List Str} {sp : Sp} {o e : Expr} {es : List Expr} {ta : TE} {t : TA} {p apos pos : Pos}
theorem Ok.call (O : Ok X.prog X.w X.K X.mg X.base x k ps sp) (hr : Room j X.A) (hk : k ≤ j := by decide) (ha : PA X (e :: es) t) (hg : Gl X x := by rfl) (hdb : (x == ("__debug__" : Str)) = false := by decide)
    (he : starEach (e :: es) X.env = (false, eval e X.env) :: starEach es X.env := by rfl) (hpl : (backTo pos (starEach es X.env)).any (·.1) = false := by rfl) :
    PE X (.Call (.Name x p) (e :: es) [] pos) (tCall sp [] E0 t) := by
  obtain ⟨f, fd, h1, h2, h3, h4⟩ := O.ex
  exact pe_call h3 (hr.mono hk) hg h1 h2 h4 .nil pass0 ha hdb he hpl
theorem Ok.call0 (O : Ok X.prog X.w X.K X.mg X.base x k ps sp) (hr : Room j X.A) (hk : k ≤ j := by decide) (hg : Gl X x := by rfl) (hdb : (x == ("__debug__" : Str)) = false := by decide) :
    PE X (.Call (.Name x p) [] [] pos) (tCall sp [] E0 tNil) := by
  obtain ⟨f, fd, h1, h2, h3, h4⟩ := O.ex
  exact pe_call0 h3 (hr.mono hk) hg h1 h2 h4 .nil pass0 hdb
theorem OkM.call {pl : Sem Bool} (O : OkM X.prog X.w X.K X.mg X.base C m k ps sp) (hr : Room j X.A) (c : Cls X.K C) (hk : k ≤ j := by decide) (he : PE X o ta) (ha : PA X (e :: es) t)
    (hst : starEach (e :: es) X.env = (false, eval e X.env) :: starEach es X.env := by rfl) (hpl : (backTo pos (starEach es X.env)).any (·.1) = false := by rfl)
    (ht : eval (.Call (.Attribute o m apos) (e :: es) [] pos) X.env = (do
      let v ← eval o X.env
      standAt apos.atName
      let (g, one) ← holding [v] (getMethod v m pl)
      callWith pos g one (backTo pos (starEach (e :: es) X.env)) (backToKw pos (keywordEach [] X.env))) := by rfl) :
    PE X (.Call (.Attribute o m apos) (e :: es) [] pos) (tMeth C m sp [] E0 ta t) := by
  obtain ⟨f, fd, h1, h2, h3⟩ := O.ex
  exact pe_meth he c h1 h2 (hr.mono hk) h3 .nil pass0 ha hst hpl ht
theorem OkP.get (O : OkP X.prog X.w X.K X.mg X.base C m k sp) (hr : Room j X.A) (c : Cls X.K C) (hk : k + 1 ≤ j := by decide) (he : PE X e ta) (hab : attributeBase e m X.env (eval e X.env) = eval e X.env := by rfl) :
    PE X (.Attribute e m pos) (tProp C sp [] E0 ta) := by
  obtain ⟨p, g, fd, h1, h2, h3⟩ := O.ex
  exact pe_prop he c h1 h2 (hr.mono hk) h3 .nil pass0 hab
theorem OkC.make (O : OkC X.prog X.w X.K X.mg X.base x C k ps sp) (hr : Room j X.A) (hk : k + 1 ≤ j := by decide) (ha : PA X (e :: es) t) (hg : Gl X x := by rfl) (hdb : (x == ("__debug__" : Str)) = false := by decide)
    (he : starEach (e :: es) X.env = (false, eval e X.env) :: starEach es X.env := by rfl) (hpl : (backTo pos (starEach es X.env)).any (·.1) = false := by rfl) :
    PE X (.Call (.Name x p) (e :: es) [] pos) (tMake C sp [] E0 t) := by
  obtain ⟨f, fd, h1, h2, h3, h4⟩ := O.ex
  exact pe_make h2 h3 (hr.mono hk) hg h1 h4 .nil pass0 ha hdb he hpl
theorem OkIn.isIn (O : OkIn X.prog X.w X.K X.mg X.base C k ps sp) (hr : Room j X.A) (hk : k ≤ j := by decide) : OpR X (compareOp .In) (rInO C sp E0 false) := by
  obtain ⟨f, fd, h1, h2, h3⟩ := O.ex
  exact op_inO h1 h2 (hr.mono hk) h3 pass0
theorem OkIn.notIn (O : OkIn X.prog X.w X.K X.mg X.base C k ps sp) (hr : Room j X.A) (hk : k ≤ j := by decide) : OpR X (compareOp .NotIn) (rInO C sp E0 true) := by
  obtain ⟨f, fd, h1, h2, h3⟩ := O.ex
  exact op_notInO h1 h2 (hr.mono hk) h3 pass0
end
/-! ### heaps that keep their tuples -/
def TupS (H H' : Hp) : Prop := ∀ a xs, H a = some (.tup xs) → H' a = some (.tup xs)
theorem tups_of {H H' : Hp} (e : Same H H') : TupS H H' := fun a xs h => e a _ h
theorem TupS.trans {H H1 H2 : Hp} (a : TupS H H1) (b : TupS H1 H2) : TupS H H2 := fun c xs h => b c xs (a c xs h)
theorem TupS.refl (H : Hp) : TupS H H := fun _ _ h => h
theorem tups_upd {H : Hp} {p : Addr} {o u : HO} (h : H p = some u) (hu : ∀ xs, u ≠ .tup xs) : TupS H (upd H p o) := fun a xs e => by
  rw [upd_ne (ne_of e h (fun z => hu xs z.symm))]; exact e
theorem same_new {H : Hp} {p : Addr} {o : HO} (h : H p = none) : Same H (upd H p o) := fun a u e => by
  rw [upd_ne (ne_of_none e h)]; exact e
theorem same_mut {H H' : Hp} {p : Addr} {o : HO} (e : Same H H') (h : H p = none) : Same H (upd H' p o) := fun a u ha => by
  rw [upd_ne (ne_of_none ha h)]; exact e a u ha
theorem sz_le {n : Nat} (h : n ≤ 100000) : n ≤ sizeLine := Nat.le_trans h (by decide)
theorem sz_lt {n : Nat} (h : n < 100000) : n < sizeLine := Nat.lt_of_lt_of_le h (by decide)

/-! ### what a reading gives, all that was tracked kept -/
def Ev (te : TE) (σ : L2.St) (H : Hp) (P : V → Hp → Prop) : Prop := ∀ Q : VK, (∀ v H', Same H H' → P v H' → Q v H') → te σ H Q
def EvT (t : TT) (σ : L2.St) (H : Hp) (b : Bool) : Prop := ∀ Q : Bool → Hp → Prop, (∀ H', Same H H' → Q b H') → t σ H Q
def EvA (t : TA) (σ : L2.St) (H : Hp) (P : List V → Hp → Prop) : Prop := ∀ Q : List V → Hp → Prop, (∀ vs H', Same H H' → P vs H' → Q vs H') → t σ H Q
section
variable {σ : L2.St} {H : Hp} {te ta tb : TE} {t : TA} {v x y : V} {P : V → Hp → Prop}
theorem Ev.imp {P' : V → Hp → Prop} (h : Ev te σ H P) (i : ∀ v H', Same H H' → P v H' → P' v H') : Ev te σ H P' := fun Q q => h Q fun v H' e p => q v H' e (i v H' e p)
theorem Ev.go {Q : VK} (h : Ev te σ H P) (q : ∀ v H', Same H H' → P v H' → Q v H') : te σ H Q := h Q q
theorem ev_is {i : Nat} (h : σ[i]? = some (some v)) (p : P v H) : Ev (tVar i) σ H P := fun Q q => ⟨v, h, q v H (Same.refl H) p⟩
theorem ev_c (p : P v H) : Ev (tC v) σ H P := fun Q q => q v H (Same.refl H) p
theorem eva_nil : EvA tNil σ H (fun vs _ => vs = []) := fun Q q => q [] H (Same.refl H) rfl
theorem eva_cons {P : V → Hp → Prop} {P2 : V → List V → Hp → Prop} (h : Ev te σ H P) (k : ∀ v H1, Same H H1 → P v H1 → EvA t σ H1 (P2 v)) : EvA (tCons te t) σ H (fun vs H' => ∃ v r H1, vs = v :: r ∧ Same H1 H' ∧ P v H1 ∧ P2 v r H') := fun Q q =>
  h _ fun v H1 e1 p1 => k v H1 e1 p1 _ fun r H2 e2 p2 => q (v :: r) H2 (e1.trans e2) ⟨v, r, H1, rfl, e2, p1, p2⟩
end
/-! ### comprehensions over any walk -/
/-- what the list at D is so far -/
def LcInv {α : Type} (H1 : Hp) (D : Addr) (zs : List α) (b : α → Bool) (R : α → V → Hp → Prop) (i : Nat) (H : Hp) : Prop :=
  H1 D = none ∧ Same H1 H ∧ ∃ ys, H D = some (.lst ys) ∧ Paired (fun v z => R z v H) ys ((zs.take i).filter b)
theorem take_one {α : Type} : ∀ {l : List α} {i : Nat} {x : α}, l[i]? = some x → l.take (i + 1) = l.take i ++ [x]
  | [], i, x, h => by simp at h
  | a :: l, 0, x, h => by
    have e : a = x := by simpa using h
    subst e; rfl
  | a :: l, i + 1, x, h => by
    have ih := take_one (l := l) (i := i) (x := x) (by simpa using h)
    show a :: l.take (i + 1) = (a :: l.take i) ++ [x]
    rw [ih]; rfl
theorem paired_app {α β : Type} {F : α → β → Prop} : ∀ {xs : List α} {ys : List β} {x : α} {y : β}, Paired F xs ys → F x y → Paired F (xs ++ [x]) (ys ++ [y])
  | _, _, _, _, .nil, h => .cons h .nil
  | _, _, _, _, .cons r t, h => .cons r (paired_app t h)
theorem lcinv_step {α : Type} {H1 H H2 : Hp} {D : Addr} {zs : List α} {b : α → Bool} {R : α → V → Hp → Prop} {i : Nat} {z : α} {σ2 : L2.St} {tt : TT} {te : TE}
    (hR : ∀ z v H H', TupS H H' → R z v H → R z v H') (hz : zs.length ≤ 100000) (hi : zs[i]? = some z) (p : LcInv H1 D zs b R i H) (e2 : Same H H2)
    (ht : EvT tt σ2 H2 (b z)) (he : b z = true → ∀ H3, Same H2 H3 → Ev te σ2 H3 (R z)) :
    tt σ2 H2 fun c H3 => if c = true then te σ2 H3 fun y H4 => ∃ acc, H4 D = some (.lst acc) ∧ acc.length < sizeLine ∧ LcInv H1 D zs b R (i + 1) (upd H4 D (.lst (acc ++ [y]))) else LcInv H1 D zs b R (i + 1) H3 := by
  obtain ⟨hD, e, ys, hys, hp⟩ := p
  refine ht _ fun H3 e3 => ?_
  cases hb : b z with
  | false =>
    rw [if_neg (by decide)]
    refine ⟨hD, e.trans (e2.trans e3), ys, e3 _ _ (e2 _ _ hys), ?_⟩
    rw [take_one hi, List.filter_append, List.filter_cons, if_neg (by rw [hb]; decide)]
    show Paired _ ys (_ ++ [])
    rw [List.append_nil]
    exact Paired.mapP hp fun v z r => hR _ _ _ _ (tups_of (e2.trans e3)) r
  | true =>
    rw [if_pos rfl]
    refine he hb H3 e3 _ fun y H4 e4 ry => ?_
    have hD4 : H4 D = some (.lst ys) := e4 _ _ (e3 _ _ (e2 _ _ hys))
    have hlt : ys.length < 100000 := by
      have l1 := Paired.length hp
      have l2 := List.length_filter_le b (zs.take i)
      have l3 := List.length_take_le i zs
      have l4 : i < zs.length := (List.getElem?_eq_some_iff.mp hi).1
      rw [List.length_take] at l2
      omega
    have tu : TupS H4 (upd H4 D (.lst (ys ++ [y]))) := tups_upd hD4 (fun xs z => by cases z)
    refine ⟨ys, hD4, sz_lt hlt, hD, same_mut (e.trans (e2.trans (e3.trans e4))) hD, ys ++ [y], upd_same, ?_⟩
    rw [take_one hi, List.filter_append, List.filter_cons, if_pos hb]
    exact paired_app (Paired.mapP hp fun v z r => hR _ _ _ _ ((tups_of (e2.trans (e3.trans e4))).trans tu) r) (hR _ _ _ _ tu ry)
/-- a list comprehension, over any walk -/
theorem lc_go {α : Type} {J : It} {n : Nat} {G : Hp → Prop} {Y : Nat → Hp → V → Hp → Prop} (w : Walk J n G Y) {g : TG} {tt : TT} {te : TE} {vs : List Nat} {σ : L2.St} {H1 : Hp} {Q : VK}
    (zs : List α) (b : α → Bool) (R : α → V → Hp → Prop) (hn : zs.length = n) (hz : n ≤ 100000) (hR : ∀ z v H H', TupS H H' → R z v H → R z v H') (hG : ∀ H, Same H1 H → G H)
    (hs : ∀ (i : Nat) z x H H', zs[i]? = some z → Same H1 H → Y i H x H' → ∀ Qg : L2.St → Hp → Prop, (∀ σ2 H2, wipe σ2 vs = wipe σ vs → Same H H2 → EvT tt σ2 H2 (b z) → (b z = true → ∀ H3, Same H2 H3 → Ev te σ2 H3 (R z)) → Qg σ2 H2) → g x (wipe σ vs) H' Qg)
    (hq : ∀ p H ys, H1 p = none → Same H1 H → H p = some (.lst ys) → Paired (fun v z => R z v H) ys (zs.filter b) → Q (.ref p) H) :
    ∀ D, H1 D = none → ∃ W : Nat → Nat → Hp → Prop, (∃ m, W 0 m (upd H1 D (.lst []))) ∧ ∀ i m H, W i m H → (J.stop i H ∧ Q (.ref D) H) ∨ (J.go i H ∧ ∃ Nx : Hp → Prop, (∀ H', Nx H' → ∃ m', m' < m ∧ W (i + 1) m' H') ∧
      ∀ x H', J.yld i H x H' → g x (wipe σ vs) H' fun σ2 H2 => wipe σ2 vs = wipe σ vs ∧ tt σ2 H2 fun b H3 => if b = true then te σ2 H3 fun y H4 => ∃ acc, H4 D = some (.lst acc) ∧ acc.length < sizeLine ∧ Nx (upd H4 D (.lst (acc ++ [y]))) else Nx H3) := by
  intro D hD
  refine lc_it w (LcInv H1 D zs b R) ⟨hD, same_new hD, [], upd_same, .nil⟩ (fun i H _ p => hG H p.2.1) (fun i x H H' hi p y => ?_) (fun H p => ?_)
  · obtain ⟨z, hz'⟩ : ∃ z, zs[i]? = some z := ⟨zs[i]'(by omega), List.getElem?_eq_getElem (by omega)⟩
    exact hs i z x H H' hz' p.2.1 y _ fun σ2 H2 hw e2 ht he => ⟨hw, lcinv_step hR (by omega) hz' p e2 ht he⟩
  · obtain ⟨_, e, ys, hys, hp⟩ := p
    rw [← hn, List.take_length] at hp
    exact hq D H ys hD e hys hp
/-- .. each item given to one name -/
theorem lc_name {α : Type} {J : It} {G : Hp → Prop} {Y : Nat → Hp → V → Hp → Prop} {n j : Nat} (w : Walk J n G Y) {tt : TT} {te : TE} {vs : List Nat} {σ : L2.St} {H1 : Hp} {Q : VK}
    (zs : List α) (b : α → Bool) (R : α → V → Hp → Prop) (hn : zs.length = n) (hz : n ≤ 100000) (hw : ∀ x, wipe ((wipe σ vs).set j (some x)) vs = wipe σ vs) (hR : ∀ z v H H', TupS H H' → R z v H → R z v H') (hG : ∀ H, Same H1 H → G H)
    (hY : ∀ i H x H', Y i H x H' → Same H H')
    (hs : ∀ (i : Nat) z x H H', zs[i]? = some z → Same H1 H → Y i H x H' → EvT tt ((wipe σ vs).set j (some x)) H' (b z) ∧ (b z = true → ∀ H3, Same H' H3 → Ev te ((wipe σ vs).set j (some x)) H3 (R z)))
    (hq : ∀ p H ys, H1 p = none → Same H1 H → H p = some (.lst ys) → Paired (fun v z => R z v H) ys (zs.filter b) → Q (.ref p) H) :
    ∀ D, H1 D = none → ∃ W : Nat → Nat → Hp → Prop, (∃ m, W 0 m (upd H1 D (.lst []))) ∧ ∀ i m H, W i m H → (J.stop i H ∧ Q (.ref D) H) ∨ (J.go i H ∧ ∃ Nx : Hp → Prop, (∀ H', Nx H' → ∃ m', m' < m ∧ W (i + 1) m' H') ∧
      ∀ x H', J.yld i H x H' → gName j x (wipe σ vs) H' fun σ2 H2 => wipe σ2 vs = wipe σ vs ∧ tt σ2 H2 fun b H3 => if b = true then te σ2 H3 fun y H4 => ∃ acc, H4 D = some (.lst acc) ∧ acc.length < sizeLine ∧ Nx (upd H4 D (.lst (acc ++ [y]))) else Nx H3) :=
  lc_go w zs b R hn hz hR hG (fun i z x H H' hi e y Qg q => q _ _ (hw x) (hY i H x H' y) (hs i z x H H' hi e y).1 (hs i z x H H' hi e y).2) hq
theorem evt_yes {σ : L2.St} {H : Hp} : EvT tYes σ H true := fun Q q => q H (Same.refl H)
theorem filter_all {α : Type} : ∀ (l : List α), l.filter (fun _ => true) = l
  | [] => rfl
  | a :: l => by rw [List.filter_cons, if_pos rfl, filter_all l]
end Tm

namespace Tm
open PySem PySem.Spec PyProof.Rows L2

/-! ### dict comprehensions over any walk: keys that differ -/
def DcInv {α : Type} (H1 : Hp) (D : Addr) (zs : List α) (b : α → Bool) (key : α → L2.Key) (R : α → V → Hp → Prop) (i : Nat) (H : Hp) : Prop :=
  H1 D = none ∧ Same H1 H ∧ ∃ kvs, H D = some (.dK kvs) ∧ Paired (fun kv z => kv.1 = key z ∧ R z kv.2 H) kvs ((zs.take i).filter b)
theorem valV_no {kvs : List (L2.Key × V)} {k : L2.Key} (h : k ∉ kvs.map (·.1)) : valV kvs k = none := by
  unfold valV
  rw [List.find?_eq_none.mpr fun kv hkv => by
    simp only [decide_eq_true_eq]
    intro e
    exact h (List.mem_map.mpr ⟨kv, hkv, e⟩)]
  rfl
theorem paired_keys {α : Type} {key : α → L2.Key} {F : L2.Key × V → α → Prop} (hF : ∀ kv z, F kv z → kv.1 = key z) : ∀ {kvs : List (L2.Key × V)} {zs : List α}, Paired F kvs zs → kvs.map (·.1) = zs.map key
  | _, _, .nil => rfl
  | _, _, .cons r t => by
    rw [List.map_cons, List.map_cons, paired_keys hF t, hF _ _ r]
theorem nd_split {α : Type} {l : List α} {i : Nat} {x : α} (h : l.Nodup) (hi : l[i]? = some x) : x ∉ l.take i := fun hm => by
  obtain ⟨j, hj, e⟩ := List.mem_iff_getElem.mp hm
  rw [List.length_take] at hj
  rw [List.getElem_take] at e
  obtain ⟨h1, e1⟩ := List.getElem?_eq_some_iff.mp hi
  have := (List.getElem_inj h).mp (e.trans e1.symm)
  omega
theorem dcinv_step {α : Type} {H1 H H2 : Hp} {D : Addr} {zs : List α} {b : α → Bool} {key : α → L2.Key} {R : α → V → Hp → Prop} {i : Nat} {z : α} {σ2 : L2.St} {tt : TT} {tk tv : TE}
    (hR : ∀ z v H H', TupS H H' → R z v H → R z v H') (hz : zs.length ≤ 100000) (nd : (zs.map key).Nodup) (hi : zs[i]? = some z) (p : DcInv H1 D zs b key R i H) (e2 : Same H H2)
    (ht : EvT tt σ2 H2 (b z)) (hk : b z = true → ∀ H3, Same H2 H3 → Ev tk σ2 H3 (fun v _ => v = kV (key z))) (he : b z = true → ∀ H3, Same H2 H3 → Ev tv σ2 H3 (R z)) :
    tt σ2 H2 fun c H3 => if c = true then tk σ2 H3 fun y H4 => tv σ2 H4 fun v H5 => ∃ kvs k, y = kV k ∧ H5 D = some (.dK kvs) ∧ kvs.length < sizeLine ∧ DcInv H1 D zs b key R (i + 1) (upd H5 D (.dK (putK kvs k v))) else DcInv H1 D zs b key R (i + 1) H3 := by
  obtain ⟨hD, e, kvs, hys, hp⟩ := p
  refine ht _ fun H3 e3 => ?_
  cases hb : b z with
  | false =>
    rw [if_neg (by decide)]
    refine ⟨hD, e.trans (e2.trans e3), kvs, e3 _ _ (e2 _ _ hys), ?_⟩
    rw [take_one hi, List.filter_append, List.filter_cons, if_neg (by rw [hb]; decide)]
    show Paired _ kvs (_ ++ [])
    rw [List.append_nil]
    exact Paired.mapP hp fun v z r => ⟨r.1, hR _ _ _ _ (tups_of (e2.trans e3)) r.2⟩
  | true =>
    rw [if_pos rfl]
    refine hk hb H3 e3 _ fun y H4 e4 ey => ?_
    refine he hb H4 (e3.trans e4) _ fun v H5 e5 rv => ?_
    have hD5 : H5 D = some (.dK kvs) := e5 _ _ (e4 _ _ (e3 _ _ (e2 _ _ hys)))
    have hlt : kvs.length < 100000 := by
      have l1 := Paired.length hp
      have l2 := List.length_filter_le b (zs.take i)
      have l4 : i < zs.length := (List.getElem?_eq_some_iff.mp hi).1
      rw [List.length_take] at l2
      omega
    have hno : key z ∉ kvs.map (·.1) := by
      rw [paired_keys (fun kv z h => h.1) hp]
      intro hm
      obtain ⟨z', hz', e'⟩ := List.mem_map.mp hm
      have h1 := (List.mem_filter.mp hz').1
      have h2 : key z ∉ (zs.map key).take i := nd_split nd (by rw [List.getElem?_map, hi]; rfl)
      rw [← List.map_take] at h2
      exact h2 (List.mem_map.mpr ⟨z', h1, e'⟩)
    have ep : putK kvs (key z) v = kvs ++ [(key z, v)] := putK_new _ (valV_no hno)
    have tu : ∀ o, TupS H5 (upd H5 D o) := fun o => tups_upd hD5 (fun xs z => by cases z)
    refine ⟨kvs, key z, ey, hD5, sz_lt hlt, hD, same_mut (e.trans (e2.trans (e3.trans (e4.trans e5)))) hD, kvs ++ [(key z, v)], by rw [ep]; exact upd_same, ?_⟩
    rw [take_one hi, List.filter_append, List.filter_cons, if_pos hb]
    exact paired_app (Paired.mapP hp fun v z r => ⟨r.1, hR _ _ _ _ ((tups_of (e2.trans (e3.trans (e4.trans e5)))).trans (tu _)) r.2⟩) ⟨rfl, hR _ _ _ _ (tu _) rv⟩
theorem dc_go {α : Type} {J : It} {n : Nat} {G : Hp → Prop} {Y : Nat → Hp → V → Hp → Prop} (w : Walk J n G Y) {g : TG} {tt : TT} {tk tv : TE} {vs : List Nat} {σ : L2.St} {H1 : Hp} {Q : VK}
    (zs : List α) (b : α → Bool) (key : α → L2.Key) (R : α → V → Hp → Prop) (hn : zs.length = n) (hz : n ≤ 100000) (nd : (zs.map key).Nodup) (hR : ∀ z v H H', TupS H H' → R z v H → R z v H') (hG : ∀ H, Same H1 H → G H)
    (hs : ∀ (i : Nat) z x H H', zs[i]? = some z → Same H1 H → Y i H x H' → ∀ Qg : L2.St → Hp → Prop, (∀ σ2 H2, wipe σ2 vs = wipe σ vs → Same H H2 → EvT tt σ2 H2 (b z) →
      (b z = true → ∀ H3, Same H2 H3 → Ev tk σ2 H3 (fun v _ => v = kV (key z))) → (b z = true → ∀ H3, Same H2 H3 → Ev tv σ2 H3 (R z)) → Qg σ2 H2) → g x (wipe σ vs) H' Qg)
    (hq : ∀ p H kvs, H1 p = none → Same H1 H → H p = some (.dK kvs) → Paired (fun kv z => kv.1 = key z ∧ R z kv.2 H) kvs (zs.filter b) → Q (.ref p) H) :
    ∀ D, H1 D = none → ∃ W : Nat → Nat → Hp → Prop, (∃ m, W 0 m (upd H1 D (.dK []))) ∧ ∀ i m H, W i m H → (J.stop i H ∧ Q (.ref D) H) ∨ (J.go i H ∧ ∃ Nx : Hp → Prop, (∀ H', Nx H' → ∃ m', m' < m ∧ W (i + 1) m' H') ∧
      ∀ x H', J.yld i H x H' → g x (wipe σ vs) H' fun σ2 H2 => wipe σ2 vs = wipe σ vs ∧ tt σ2 H2 fun b H3 => if b = true then tk σ2 H3 fun y H4 => tv σ2 H4 fun z H5 => ∃ kvs k, y = kV k ∧ H5 D = some (.dK kvs) ∧ kvs.length < sizeLine ∧ Nx (upd H5 D (.dK (putK kvs k z))) else Nx H3) := by
  intro D hD
  refine ⟨fun i m H => m = n - i ∧ i ≤ n ∧ DcInv H1 D zs b key R i H, ⟨n, by simp, Nat.zero_le _, hD, same_new hD, [], upd_same, .nil⟩, ?_⟩
  rintro i m H ⟨em, hi, p⟩
  have q := hG H p.2.1
  by_cases hlt : i < n
  · refine .inr ⟨w.goes i H hlt q, DcInv H1 D zs b key R (i + 1), fun H' p' => ⟨n - (i + 1), by omega, rfl, hlt, p'⟩, fun x H' y => ?_⟩
    obtain ⟨z, hz'⟩ : ∃ z, zs[i]? = some z := ⟨zs[i]'(by omega), List.getElem?_eq_getElem (by omega)⟩
    exact hs i z x H H' hz' p.2.1 (w.yields i H x H' hlt q y) _ fun σ2 H2 hw e2 ht hk he => ⟨hw, dcinv_step hR (by omega) nd hz' p e2 ht hk he⟩
  · have e : i = n := by omega
    subst e
    obtain ⟨_, e, kvs, hys, hp⟩ := p
    rw [← hn, List.take_length] at hp
    exact .inl ⟨w.stops H q, hq D H kvs hD e hys hp⟩
/-! ### a pair unpacked into two names -/
theorem pair_names {K : PySem.W.Frag} {i j : Nat} {σ : L2.St} {H : Hp} {T : Addr} {x y : V} {Q : L2.St → Hp → Prop} (hT : SqT K H T [x, y]) (q : Q ((σ.set i (some x)).set j (some y)) H) :
    gTup K 2 (gCons (gName i) (gCons (gName j) gNil)) (.ref T) σ H Q := ⟨T, [x, y], rfl, hT, rfl, x, [y], rfl, y, [], rfl, rfl, q⟩

/-! ### pairs, rows, tables -/
abbrev Row := List (Int × Int)
abbrev Tab := List (Str × Row)
def PairV (H : Hp) (v : V) (p : Int × Int) : Prop := ∃ a, v = .ref a ∧ H a = some (.tup [.int p.1, .int p.2])
def RowV (H : Hp) (v : V) (r : Row) : Prop := ∃ a vs, v = .ref a ∧ H a = some (.tup vs) ∧ Paired (PairV H) vs r
def TabV (H : Hp) (kvs : List (L2.Key × V)) (t : Tab) : Prop := Paired (fun kv e => kv.1 = Sum.inr e.1 ∧ RowV H kv.2 e.2) kvs t
theorem PairV.mono {H H' : Hp} {v : V} {p : Int × Int} (e : TupS H H') (h : PairV H v p) : PairV H' v p := by
  obtain ⟨a, e1, e2⟩ := h
  exact ⟨a, e1, e a _ e2⟩
theorem RowV.mono {H H' : Hp} {v : V} {r : Row} (e : TupS H H') (h : RowV H v r) : RowV H' v r := by
  obtain ⟨a, vs, e1, e2, e3⟩ := h
  exact ⟨a, vs, e1, e a _ e2, Paired.mapP e3 fun _ _ h => h.mono e⟩
theorem TabV.mono {H H' : Hp} {kvs : List (L2.Key × V)} {t : Tab} (e : TupS H H') (h : TabV H kvs t) : TabV H' kvs t :=
  Paired.mapP h fun _ _ h => ⟨h.1, h.2.mono e⟩
theorem paired_ix {α β : Type} {F : α → β → Prop} : ∀ {xs : List α} {ys : List β} {i : Nat} {y : β}, Paired F xs ys → ys[i]? = some y → ∃ x, xs[i]? = some x ∧ F x y
  | _, _, i, y, .nil, h => by simp at h
  | _, _, 0, y, .cons r t, h => by
    simp at h
    subst h
    exact ⟨_, rfl, r⟩
  | _, _, i + 1, y, .cons r t, h => by
    obtain ⟨x, h1, h2⟩ := paired_ix (i := i) t (by simpa using h)
    exact ⟨x, by simpa using h1, h2⟩
theorem paired_ix2 {α β : Type} {F : α → β → Prop} : ∀ {xs : List α} {ys : List β} {i : Nat} {x : α}, Paired F xs ys → xs[i]? = some x → ∃ y, ys[i]? = some y ∧ F x y
  | _, _, i, y, .nil, h => by simp at h
  | _, _, 0, y, .cons r t, h => by
    simp at h
    subst h
    exact ⟨_, rfl, r⟩
  | _, _, i + 1, y, .cons r t, h => by
    obtain ⟨x, h1, h2⟩ := paired_ix2 (i := i) t (by simpa using h)
    exact ⟨x, by simpa using h1, h2⟩
/-! ### what a right table is -/
def okName (x : Str) : Bool := decide (1 ≤ x.length) && decide (x.length ≤ 8) && x.cps.toList.all fun c => decide (97 ≤ c) && decide (c ≤ 122)
def okPair (n : Nat) (p : Int × Int) : Bool := decide (0 ≤ p.1) && decide (p.1 ≤ (n : Int) - 1) && decide (0 ≤ p.2) && decide (p.2 ≤ 99)
def okRow (n : Nat) (r : Row) : Bool := decide (r.length = n) && r.all (okPair n)
def sizeT (t : Tab) : Nat := match t with
  | [] => 0
  | e :: _ => e.2.length
def okTab (t : Tab) : Bool := decide (1 ≤ t.length) && decide (t.length ≤ 6) && decide (1 ≤ sizeT t) && decide (sizeT t ≤ 12) && t.all fun e => okName e.1 && okRow (sizeT t) e.2
theorem pe_ty {X : Cx} {n : String} {x : Str} {pos : Pos} (hg : Gl X x) (hm : X.mg x = none) (hv : bootBuiltins x = some (.type n)) (hn : x ≠ "__name__" := by decide) (hd : (x == ("__debug__" : Str)) = false := by decide) : PE X (.Name x pos) (tC (.ty n)) := pe_bltn (v := .ty n) hg hm hv rfl hn hd
/-- a constant of the top -/
structure GV (mg : Str → Option Value) (x : Str) (v : V) : Prop where
  ex : ∃ u, mg x = some u ∧ RelV v u
theorem GV.pe {X : Cx} {x : Str} {v : V} {pos : Pos} (g : GV X.mg x v) (hg : Gl X x := by rfl) (hd : (x == ("__debug__" : Str)) = false := by decide) : PE X (.Name x pos) (tC v) := by
  obtain ⟨u, h1, h2⟩ := g.ex
  exact pe_glob hg h1 h2 hd
theorem ifT {c : Bool} {A B : Prop} (hc : c = true) (h : A) : if c = true then A else B := by
  rw [if_pos hc]; exact h
theorem ifF {c : Bool} {A B : Prop} (hc : c = false) (h : B) : if c = true then A else B := by
  rw [hc, if_neg (by decide)]; exact h
/-- constants of the program's own modules -/
structure Gb (mg : Str → Option Value) : Prop where
  MAX_LETTERS : GV mg "MAX_LETTERS" (.int 8)
  MAX_STATES : GV mg "MAX_STATES" (.int 12)
  MAX_OPERATIONS : GV mg "MAX_OPERATIONS" (.int 6)
  MAX_ANSWER : GV mg "MAX_ANSWER" (.int 99)
  ALPHABET : GV mg "ALPHABET" (.str (PySem.Str.ofString "abcdefghijklmnopqrstuvwxyz"))
theorem bools_all {α : Type} (f : α → Bool) : ∀ {ys : List V} {zs : List α}, Paired (fun v z => v = V.bl (f z)) ys zs → ys = (zs.map f).map V.bl
  | _, _, .nil => rfl
  | _, _, .cons r t => by rw [r, bools_all f t]; rfl
theorem all_id_map {α : Type} (f : α → Bool) (zs : List α) : (zs.map f).all id = zs.all f := by
  rw [List.all_map]; rfl
theorem alpha_in {c : Nat} (h : (decide (97 ≤ c) && decide (c ≤ 122)) = true) : decide (c ∈ (PySem.Str.ofString "abcdefghijklmnopqrstuvwxyz").cps.toList) = true := by
  rw [Bool.and_eq_true, decide_eq_true_eq, decide_eq_true_eq] at h
  have e : (PySem.Str.ofString "abcdefghijklmnopqrstuvwxyz").cps.toList = (List.range 26).map (97 + ·) := by decide +kernel
  rw [e, decide_eq_true_eq, List.mem_map]
  exact ⟨c - 97, List.mem_range.mpr (by omega), by omega⟩
theorem same_seqT {K : PySem.W.Frag} {H H' : Hp} {a : Addr} {xs : List V} (e : Same H H') (h : SqT K H a xs) : SqT K H' a xs := by
  rcases h with (h | ⟨o, h⟩) | h
  · exact .inl (.inl (e _ _ h))
  · exact .inl (.inr ⟨o, e _ _ h⟩)
  · exact .inr h
theorem lc_runL {α : Type} {K : PySem.W.Frag} {σ : L2.St} {H : Hp} {Q : VK} {j : Nat} {tt : TT} {te : TE} {vs : List Nat} {tl : TE} {xs : List V} (hl : Ev tl σ H fun v H1 => ∃ a, v = .ref a ∧ SqL K H1 a xs) (zs : List α) (hlen : xs.length = zs.length)
    (b : α → Bool) (R : α → V → Hp → Prop) (hz : zs.length ≤ 100000) (hw : ∀ x, wipe ((wipe σ vs).set j (some x)) vs = wipe σ vs) (hR : ∀ z v H H', TupS H H' → R z v H → R z v H')
    (hs : ∀ (i : Nat) z x H1, zs[i]? = some z → xs[i]? = some x → Same H H1 → EvT tt ((wipe σ vs).set j (some x)) H1 (b z) ∧ (b z = true → ∀ H3, Same H1 H3 → Ev te ((wipe σ vs).set j (some x)) H3 (R z)))
    (hq : ∀ p H1 ys, H p = none → Same H H1 → H1 p = some (.lst ys) → Paired (fun v z => R z v H1) ys (zs.filter b) → Q (.ref p) H1) : tLc (iList K tl) (gName j) tt te vs σ H Q := by
  refine hl _ fun v H1 e h => ?_
  obtain ⟨a, ea, hs'⟩ := h
  refine ⟨a, ea, ⟨xs, hs'⟩, lc_name (Q := Q) (walk_list) zs b R (hlen.symm) (by omega) hw hR (fun H2 e2 => e2.seq hs') (fun i H v H' y => by rw [y.1]; exact Same.refl _) (fun i z x H2 H' hz' e2 y => ?_) (fun p H2 ys hp e2 => hq p H2 ys (e.free hp) (e.trans e2))⟩
  obtain ⟨e3, y⟩ := y
  subst e3
  exact hs i z x _ hz' y (e.trans e2)
theorem lc_runT {α : Type} {K : PySem.W.Frag} {σ : L2.St} {H : Hp} {Q : VK} {j : Nat} {tt : TT} {te : TE} {vs : List Nat} {tl : TE} {xs : List V} (hl : Ev tl σ H fun v H1 => ∃ a, v = .ref a ∧ SqT K H1 a xs) (zs : List α) (hlen : xs.length = zs.length)
    (b : α → Bool) (R : α → V → Hp → Prop) (hz : zs.length ≤ 100000) (hw : ∀ x, wipe ((wipe σ vs).set j (some x)) vs = wipe σ vs) (hR : ∀ z v H H', TupS H H' → R z v H → R z v H')
    (hs : ∀ (i : Nat) z x H1, zs[i]? = some z → xs[i]? = some x → Same H H1 → EvT tt ((wipe σ vs).set j (some x)) H1 (b z) ∧ (b z = true → ∀ H3, Same H1 H3 → Ev te ((wipe σ vs).set j (some x)) H3 (R z)))
    (hq : ∀ p H1 ys, H p = none → Same H H1 → H1 p = some (.lst ys) → Paired (fun v z => R z v H1) ys (zs.filter b) → Q (.ref p) H1) : tLc (iTup K tl) (gName j) tt te vs σ H Q := by
  refine hl _ fun v H1 e h => ?_
  obtain ⟨a, ea, hs'⟩ := h
  refine ⟨a, ea, ⟨xs, hs'⟩, lc_name (Q := Q) (walk_tup) zs b R (hlen.symm) (by omega) hw hR (fun H2 e2 => same_seqT e2 hs') (fun i H v H' y => by rw [y.1]; exact Same.refl _) (fun i z x H2 H' hz' e2 y => ?_) (fun p H2 ys hp e2 => hq p H2 ys (e.free hp) (e.trans e2))⟩
  obtain ⟨e3, y⟩ := y
  subst e3
  exact hs i z x _ hz' y (e.trans e2)
theorem lc_runR {α : Type} {σ : L2.St} {H : Hp} {Q : VK} {j : Nat} {tt : TT} {te : TE} {vs : List Nat} {ta : TA} {n : Int} (h : EvA ta σ H fun l _ => l = [.int n]) (hn : -100000 ≤ n ∧ n ≤ 100000) (zs : List α) (hlen : zs.length = n.toNat)
    (b : α → Bool) (R : α → V → Hp → Prop) (hz : zs.length ≤ 100000) (hw : ∀ x, wipe ((wipe σ vs).set j (some x)) vs = wipe σ vs) (hR : ∀ z v H H', TupS H H' → R z v H → R z v H')
    (hs : ∀ (i : Nat) z x H1, zs[i]? = some z → x = .int (i : Int) → Same H H1 → EvT tt ((wipe σ vs).set j (some x)) H1 (b z) ∧ (b z = true → ∀ H3, Same H1 H3 → Ev te ((wipe σ vs).set j (some x)) H3 (R z)))
    (hq : ∀ p H1 ys, H p = none → Same H H1 → H1 p = some (.lst ys) → Paired (fun v z => R z v H1) ys (zs.filter b) → Q (.ref p) H1) : tLc (iRng1 ta) (gName j) tt te vs σ H Q := by
  refine h _ fun l H1 e el => ⟨n, el, by omega, by omega, lc_name (Q := Q) (walk_range) zs b R (hlen) (by omega) hw hR (fun _ _ => trivial) (fun i H v H' y => by rw [y.1]; exact Same.refl _) (fun i z x H2 H' hz' e2 y => ?_) (fun p H2 ys hp e2 => hq p H2 ys (e.free hp) (e.trans e2))⟩
  obtain ⟨e3, y⟩ := y
  subst e3
  exact hs i z x _ hz' (by rw [y]; show V.int (0 + (i : Int)) = _; rw [Int.zero_add]) (e.trans e2)
theorem lc_runR2 {α : Type} {σ : L2.St} {H : Hp} {Q : VK} {j : Nat} {tt : TT} {te : TE} {vs : List Nat} {ta : TA} {lo n : Int} (h : EvA ta σ H fun l _ => l = [.int lo, .int n]) (hn : -100000 ≤ lo ∧ lo ≤ 100000 ∧ -100000 ≤ n ∧ n ≤ 100000) (zs : List α) (hlen : zs.length = (n - lo).toNat)
    (b : α → Bool) (R : α → V → Hp → Prop) (hz : zs.length ≤ 100000) (hw : ∀ x, wipe ((wipe σ vs).set j (some x)) vs = wipe σ vs) (hR : ∀ z v H H', TupS H H' → R z v H → R z v H')
    (hs : ∀ (i : Nat) z x H1, zs[i]? = some z → x = .int (lo + (i : Int)) → Same H H1 → EvT tt ((wipe σ vs).set j (some x)) H1 (b z) ∧ (b z = true → ∀ H3, Same H1 H3 → Ev te ((wipe σ vs).set j (some x)) H3 (R z)))
    (hq : ∀ p H1 ys, H p = none → Same H H1 → H1 p = some (.lst ys) → Paired (fun v z => R z v H1) ys (zs.filter b) → Q (.ref p) H1) : tLc (iRng2 ta) (gName j) tt te vs σ H Q := by
  refine h _ fun l H1 e el => ⟨lo, n, el, by omega, lc_name (Q := Q) (walk_range) zs b R (hlen) (by omega) hw hR (fun _ _ => trivial) (fun i H v H' y => by rw [y.1]; exact Same.refl _) (fun i z x H2 H' hz' e2 y => ?_) (fun p H2 ys hp e2 => hq p H2 ys (e.free hp) (e.trans e2))⟩
  obtain ⟨e3, y⟩ := y
  subst e3
  exact hs i z x _ hz' y (e.trans e2)
theorem lc_runS {α : Type} {σ : L2.St} {H : Hp} {Q : VK} {j : Nat} {tt : TT} {te : TE} {vs : List Nat} {te0 : TE} {x0 : Str} (h : Ev te0 σ H fun v _ => v = .str x0) (zs : List α) (hlen : zs.length = x0.cps.size)
    (b : α → Bool) (R : α → V → Hp → Prop) (hz : zs.length ≤ 100000) (hw : ∀ x, wipe ((wipe σ vs).set j (some x)) vs = wipe σ vs) (hR : ∀ z v H H', TupS H H' → R z v H → R z v H')
    (hs : ∀ (i : Nat) z x H1, zs[i]? = some z → (∃ c, x0.cps[i]? = some c ∧ x = .str ⟨#[c]⟩) → Same H H1 → EvT tt ((wipe σ vs).set j (some x)) H1 (b z) ∧ (b z = true → ∀ H3, Same H1 H3 → Ev te ((wipe σ vs).set j (some x)) H3 (R z)))
    (hq : ∀ p H1 ys, H p = none → Same H H1 → H1 p = some (.lst ys) → Paired (fun v z => R z v H1) ys (zs.filter b) → Q (.ref p) H1) : tLc (iStr te0) (gName j) tt te vs σ H Q := by
  refine h _ fun v H1 e ev => ⟨x0, ev, lc_name (Q := Q) (walk_str) zs b R (hlen) (by omega) hw hR (fun _ _ => trivial) (fun i H v H' y => by rw [y.1]; exact Same.refl _) (fun i z x H2 H' hz' e2 y => ?_) (fun p H2 ys hp e2 => hq p H2 ys (e.free hp) (e.trans e2))⟩
  obtain ⟨e3, y⟩ := y
  subst e3
  exact hs i z x _ hz' y (e.trans e2)
end Tm

namespace Tm
open PySem PySem.Spec PyProof.Rows L2

section
variable {α : Type} {K : PySem.W.Frag} {σ : L2.St} {H : Hp} {Q : VK} {i j : Nat} {tt : TT} {te tk tv : TE} {vs : List Nat}
/-- a comprehension over the items of a locked dict -/
theorem lc_runI {td : TE} {d : Addr} {o : Obj} {kvs : List (L2.Key × V)} (hd : Ev td σ H fun v _ => v = .ref d) (hf : H d = some (.frz o (.dK kvs))) (zs : List α) (hlen : zs.length = kvs.length) (b : α → Bool) (R : α → V → Hp → Prop) (hz : zs.length ≤ 100000)
    (hw : ∀ x y, wipe (((wipe σ vs).set i (some x)).set j (some y)) vs = wipe σ vs) (hR : ∀ z v H H', TupS H H' → R z v H → R z v H')
    (hs : ∀ (k : Nat) z kv H1, zs[k]? = some z → kvs[k]? = some kv → Same H H1 → EvT tt (((wipe σ vs).set i (some (kV kv.1))).set j (some kv.2)) H1 (b z) ∧ (b z = true → ∀ H3, Same H1 H3 → Ev te (((wipe σ vs).set i (some (kV kv.1))).set j (some kv.2)) H3 (R z)))
    (hq : ∀ p H1 ys, H p = none → Same H H1 → H1 p = some (.lst ys) → Paired (fun v z => R z v H1) ys (zs.filter b) → Q (.ref p) H1) :
    tLc (iItems td) (gTup K 2 (gCons (gName i) (gCons (gName j) gNil))) tt te vs σ H Q := by
  refine hd _ fun v H1 e ev => ⟨d, o, kvs, ev, e _ _ hf, ?_⟩
  refine lc_go (Q := Q) walk_items zs b R hlen (by omega) hR (fun H2 e2 => e2 _ _ (e _ _ hf)) (fun k z x H2 H' hz' e2 y Qg qg => ?_) (fun p H2 ys hp e2 => hq p H2 ys (e.free hp) (e.trans e2))
  obtain ⟨T, x', y', rfl, hT, rfl, hx, hy⟩ := y
  replace hx : kvs[k]?.map (fun kv => kV kv.1) = some x' := hx
  replace hy : kvs[k]?.map Prod.snd = some y' := hy
  cases hk : kvs[k]? with
  | none =>
    rw [hk] at hx
    cases hx
  | some kv =>
    rw [hk] at hx hy
    have ex : kV kv.1 = x' := Option.some.inj hx
    have ey : kv.2 = y' := Option.some.inj hy
    subst ex ey
    have e3 : Same H2 (upd H2 T (.tup [kV kv.1, kv.2])) := same_new hT
    refine pair_names (SqT.of upd_same) (qg _ _ (hw _ _) e3 (hs k z kv _ hz' hk (e.trans (e2.trans e3))).1 (hs k z kv _ hz' hk (e.trans (e2.trans e3))).2)
/-- a dict comprehension over a list, one name -/
theorem dc_runL {tl : TE} {xs : List V} (hl : Ev tl σ H fun v H1 => ∃ a, v = .ref a ∧ SqL K H1 a xs) (zs : List α) (hlen : xs.length = zs.length) (b : α → Bool) (key : α → L2.Key) (R : α → V → Hp → Prop) (hz : zs.length ≤ 100000) (nd : (zs.map key).Nodup)
    (hw : ∀ x, wipe ((wipe σ vs).set j (some x)) vs = wipe σ vs) (hR : ∀ z v H H', TupS H H' → R z v H → R z v H')
    (hs : ∀ (k : Nat) z x H1, zs[k]? = some z → xs[k]? = some x → Same H H1 → EvT tt ((wipe σ vs).set j (some x)) H1 (b z) ∧ (b z = true → ∀ H3, Same H1 H3 → Ev tk ((wipe σ vs).set j (some x)) H3 (fun v _ => v = kV (key z))) ∧ (b z = true → ∀ H3, Same H1 H3 → Ev tv ((wipe σ vs).set j (some x)) H3 (R z)))
    (hq : ∀ p H1 kvs, H p = none → Same H H1 → H1 p = some (.dK kvs) → Paired (fun kv z => kv.1 = key z ∧ R z kv.2 H1) kvs (zs.filter b) → Q (.ref p) H1) : tDc (iList K tl) (gName j) tt tk tv vs σ H Q := by
  refine hl _ fun v H1 e h => ?_
  obtain ⟨a, ea, hs'⟩ := h
  refine ⟨a, ea, ⟨xs, hs'⟩, dc_go (Q := Q) walk_list zs b key R hlen.symm (by omega) nd hR (fun H2 e2 => e2.seq hs') (fun k z x H2 H' hz' e2 y Qg qg => ?_) (fun p H2 ys hp e2 => hq p H2 ys (e.free hp) (e.trans e2))⟩
  obtain ⟨e3, y⟩ := y
  subst e3
  obtain ⟨h1, h2, h3⟩ := hs k z x _ hz' y (e.trans e2)
  exact qg _ _ (hw x) (Same.refl _) h1 h2 h3
/-- .. over enumerate of a list -/
theorem dc_runE {ta : TA} {xs : List V} (hl : EvA ta σ H fun l H1 => ∃ a, l = [.ref a] ∧ SqL K H1 a xs) (zs : List α) (hlen : xs.length = zs.length) (b : α → Bool) (key : α → L2.Key) (R : α → V → Hp → Prop) (hz : zs.length ≤ 100000) (nd : (zs.map key).Nodup)
    (hw : ∀ x y, wipe (((wipe σ vs).set i (some x)).set j (some y)) vs = wipe σ vs) (hR : ∀ z v H H', TupS H H' → R z v H → R z v H')
    (hs : ∀ (k : Nat) z x H1, zs[k]? = some z → xs[k]? = some x → Same H H1 → EvT tt (((wipe σ vs).set i (some (.int (k : Int)))).set j (some x)) H1 (b z) ∧ (b z = true → ∀ H3, Same H1 H3 → Ev tk (((wipe σ vs).set i (some (.int (k : Int)))).set j (some x)) H3 (fun v _ => v = kV (key z))) ∧
      (b z = true → ∀ H3, Same H1 H3 → Ev tv (((wipe σ vs).set i (some (.int (k : Int)))).set j (some x)) H3 (R z)))
    (hq : ∀ p H1 kvs, H p = none → Same H H1 → H1 p = some (.dK kvs) → Paired (fun kv z => kv.1 = key z ∧ R z kv.2 H1) kvs (zs.filter b) → Q (.ref p) H1) : tDc (iEnum K ta) (gTup K 2 (gCons (gName i) (gCons (gName j) gNil))) tt tk tv vs σ H Q := by
  refine hl _ fun v H1 e h => ?_
  obtain ⟨a, ea, hs'⟩ := h
  refine ⟨a, xs, ea, hs', dc_go (Q := Q) walk_enum zs b key R hlen.symm (by omega) nd hR (fun H2 e2 => e2.seq hs') (fun k z x H2 H' hz' e2 y Qg qg => ?_) (fun p H2 ys hp e2 => hq p H2 ys (e.free hp) (e.trans e2))⟩
  obtain ⟨T, x', y', rfl, hT, rfl, hx, hy⟩ := y
  have ex : V.int (k : Int) = x' := Option.some.inj hx
  subst ex
  have e3 : Same H2 (upd H2 T (.tup [V.int (k : Int), y'])) := same_new hT
  obtain ⟨h1, h2, h3⟩ := hs k z y' _ hz' hy (e.trans (e2.trans e3))
  exact pair_names (SqT.of upd_same) (qg _ _ (hw _ _) e3 h1 h2 h3)
/-- .. over the items of a locked dict -/
theorem dc_runI {td : TE} {d : Addr} {o : Obj} {kvs : List (L2.Key × V)} (hd : Ev td σ H fun v _ => v = .ref d) (hf : H d = some (.frz o (.dK kvs))) (zs : List α) (hlen : zs.length = kvs.length) (b : α → Bool) (key : α → L2.Key) (R : α → V → Hp → Prop) (hz : zs.length ≤ 100000) (nd : (zs.map key).Nodup)
    (hw : ∀ x y, wipe (((wipe σ vs).set i (some x)).set j (some y)) vs = wipe σ vs) (hR : ∀ z v H H', TupS H H' → R z v H → R z v H')
    (hs : ∀ (k : Nat) z kv H1, zs[k]? = some z → kvs[k]? = some kv → Same H H1 → EvT tt (((wipe σ vs).set i (some (kV kv.1))).set j (some kv.2)) H1 (b z) ∧ (b z = true → ∀ H3, Same H1 H3 → Ev tk (((wipe σ vs).set i (some (kV kv.1))).set j (some kv.2)) H3 (fun v _ => v = kV (key z))) ∧
      (b z = true → ∀ H3, Same H1 H3 → Ev tv (((wipe σ vs).set i (some (kV kv.1))).set j (some kv.2)) H3 (R z)))
    (hq : ∀ p H1 kvs', H p = none → Same H H1 → H1 p = some (.dK kvs') → Paired (fun kv z => kv.1 = key z ∧ R z kv.2 H1) kvs' (zs.filter b) → Q (.ref p) H1) :
    tDc (iItems td) (gTup K 2 (gCons (gName i) (gCons (gName j) gNil))) tt tk tv vs σ H Q := by
  refine hd _ fun v H1 e ev => ⟨d, o, kvs, ev, e _ _ hf, ?_⟩
  refine dc_go (Q := Q) walk_items zs b key R hlen (by omega) nd hR (fun H2 e2 => e2 _ _ (e _ _ hf)) (fun k z x H2 H' hz' e2 y Qg qg => ?_) (fun p H2 ys hp e2 => hq p H2 ys (e.free hp) (e.trans e2))
  obtain ⟨T, x', y', rfl, hT, rfl, hx, hy⟩ := y
  replace hx : kvs[k]?.map (fun kv => kV kv.1) = some x' := hx
  replace hy : kvs[k]?.map Prod.snd = some y' := hy
  cases hk : kvs[k]? with
  | none =>
    rw [hk] at hx
    cases hx
  | some kv =>
    rw [hk] at hx hy
    have ex : kV kv.1 = x' := Option.some.inj hx
    have ey : kv.2 = y' := Option.some.inj hy
    subst ex ey
    have e3 : Same H2 (upd H2 T (.tup [kV kv.1, kv.2])) := same_new hT
    obtain ⟨h1, h2, h3⟩ := hs k z kv _ hz' hk (e.trans (e2.trans e3))
    exact pair_names (SqT.of upd_same) (qg _ _ (hw _ _) e3 h1 h2 h3)
end
/-! ### a locked dict: what is within, what is behind -/
theorem lock_in {H : Hp} {d : Addr} {u : HO} {o : Obj} (h : H d = some u) (hu : ∀ xs, u ≠ .tup xs) : TupS H (upd H d (.frz o u)) := tups_upd h hu
theorem lock_out {H H' : Hp} {d : Addr} {u : HO} {o : Obj} (h : H d = some u) (e : Same (upd H d (.frz o u)) H') : Same H (upd H' d u) := fun b v hb => by
  by_cases hd : b = d
  · subst hd
    rw [upd_same, ← h]
    exact hb
  · rw [upd_ne hd]
    exact e b v (by rw [upd_ne hd]; exact hb)
/-! ### rules whose reading speaks of the written part, the same in a comprehension's block -/
section
variable {X : Cx} {K : PySem.W.Frag}
theorem lenK (hK : X.K = K := by rfl) : CallR X (.builtin "len") (fun xs H Q => ∃ p ys, xs = [.ref p] ∧ (SqL K H p ys ∨ SqT K H p ys) ∧ Q (.int ys.length) H) := by subst hK; exact call_len_seq
theorem ixTK (hK : X.K = K := by rfl) : IxR X (rIxT K) := by subst hK; exact ix_tup
theorem ixLK (hK : X.K = K := by rfl) : IxR X (rIxL K) := by subst hK; exact ix_list
theorem allK (hc : X.calm = true := by rfl) (hK : X.K = K := by rfl) : CallR X (.builtin "all") (rAll K) := by subst hK; exact cr_all hc
theorem tupleK (hK : X.K = K := by rfl) : CallR X (.type "tuple") (fun xs H Q => ∃ p ys, xs = [.ref p] ∧ ((SqL K H p ys ∧ ∀ l, H l = none → Q (.ref l) (upd H l (.tup ys))) ∨ (SqT K H p ys ∧ Q (.ref p) H))) := by subst hK; exact call_tuple_of
theorem isiK (hK : X.K = K := by rfl) : CallR X (.builtin "isinstance") (rIsi K) := by subst hK; exact call_isi
theorem repTK (hK : X.K = K := by rfl) : OpR X (binaryOp .Mult) (rRepT K) := by subst hK; exact op_repT
theorem pa_starK {e : Expr} {es : List Expr} {te : TE} {t : TA} {p : Pos} (he : PE X e te) (hr : PA X es t) (hK : X.K = K := by rfl) (hs : starEach (.Starred e p :: es) X.env = (true, eval e X.env) :: starEach es X.env := by rfl) : PA X (.Starred e p :: es) (StX.tStar K te t) := by subst hK; exact StX.pa_star he hr hs
theorem indexK (hK : X.K = K := by rfl) (hu : X.A.units + 65 < cLine) : MtR X "list.index" (rIndexD K) := by subst hK; exact mt_indexD hu
end
/-! ### what is walked, made first -/
section
variable {K : PySem.W.Frag} {tl : TE} {g : TG} {tt : TT} {te tk tv : TE} {vs : List Nat} {σ : L2.St} {H : Hp} {Q : VK} {P : V → Hp → Prop}
theorem dc_bind (hl : Ev tl σ H P) (k : ∀ v H1, Same H H1 → P v H1 → tDc (iList K (tC v)) g tt tk tv vs σ H1 Q) : tDc (iList K tl) g tt tk tv vs σ H Q := hl _ fun v H1 e p => k v H1 e p
theorem lc_bind (hl : Ev tl σ H P) (k : ∀ v H1, Same H H1 → P v H1 → tLc (iList K (tC v)) g tt te vs σ H1 Q) : tLc (iList K tl) g tt te vs σ H Q := hl _ fun v H1 e p => k v H1 e p
theorem lc_bindT (hl : Ev tl σ H P) (k : ∀ v H1, Same H H1 → P v H1 → tLc (iTup K (tC v)) g tt te vs σ H1 Q) : tLc (iTup K tl) g tt te vs σ H Q := hl _ fun v H1 e p => k v H1 e p
end
end Tm

namespace Tm
open PySem PySem.Spec PyProof.Rows L2
local macro_rules | `(tactic| walk_at "x") => `(tactic| dsimp only [tNext, tRet, tSeq, tCB, tCons, tNil, tAsg, tDrop])
def top (i : Nat) : Stmt := PySem.Challenge.pw_teamtells_k05_made_kinds_told.main.body.getD i (.Pass ⟨0, 0, 0, 0⟩)
/-- names of the built-in things, that the top leaves alone -/
structure Bt (mg : Str → Option Value) : Prop where
  isinstance : mg "isinstance" = none
  int : mg "int" = none
  bool : mg "bool" = none
  str : mg "str" = none
  tuple : mg "tuple" = none
  list : mg "list" = none
  dict : mg "dict" = none
  len : mg "len" = none
  all : mg "all" = none
  range : mg "range" = none
  enumerate : mg "enumerate" = none
  sorted : mg "sorted" = none
  min : mg "min" = none
  max : mg "max" = none
  abs : mg "abs" = none
/-- a def of the top -/
structure Df (K : PySem.W.Frag) (mg : Str → Option Value) (x : Str) (st : Stmt) (ps : List Str) : Prop where
  ex : ∃ (f : Addr) (fd : FuncData), mg x = some (.ref f) ∧ PySem.W.keepIn K (.ref f) = true ∧ Fun K x x st f fd ∧ Binds K fd ps []
section
variable {P : Program} {w : World} {K : PySem.W.Frag} {mg : Str → Option Value} {base : Heap}
theorem Df.ok {x : Str} {st : Stmt} {ps N : List Str} {k : Nat} {sp : Sp} (D : Df K mg x st ps) (S : FnScope N ps (defScope st)) (len : ∀ vs H Q E, sp vs H Q E → vs.length = ps.length)
    (hb : ∀ (f : Addr) (cdv : Value) (A : Around) (outer : List Env) (s : Shared) (H : Hp) (vs : List V) (Q : VK) (E : XK), Room k (A.deeper (envOfC x (defScope st) s.heap.objs.size f cdv)) → sp vs H Q E →
      ∃ t, PSs (cxOf CX0 P w K mg base N x (defScope st) f cdv A outer s H E).nox (defBody st) t ∧ t { nx := fun _ H' => Q .non H', rt := Q } (start N vs) H) : Ok P w K mg base x (k + 1) ps sp := by
  obtain ⟨f, fd, h1, h2, h3, h4⟩ := D.ex
  exact ⟨f, fd, h1, h2, h3.ok S len (fun cdv A outer s H vs Q E hr h => hb f cdv A outer s H vs Q E hr h), h4⟩
/-! ### is_number_in, need_number -/
abbrev s_num : Stmt := top 7
theorem sc_num : FnScope ["value", "least", "most"] ["value", "least", "most"] (defScope s_num) := ⟨rfl, rfl, rfl, by decide +kernel, rfl, by decide +kernel, by decide +kernel⟩
def sp_num : Sp := fun vs H Q _ => ∃ n lo hi : Int, vs = [.int n, .int lo, .int hi] ∧ Q (.bl (decide (lo ≤ n) && decide (n ≤ hi))) H
theorem ok_num (B : Bt mg) (D : Df K mg "is_number_in" s_num ["value", "least", "most"]) : Ok P w K mg base "is_number_in" 1 ["value", "least", "most"] sp_num := by
  refine D.ok sc_num (fun vs H Q E h => ?_) (fun f cdv A outer s H vs Q E hr h => ?_)
  · obtain ⟨n, lo, hi, rfl, _⟩ := h
    rfl
  · obtain ⟨n, lo, hi, rfl, q⟩ := h
    refine ⟨_, pss_one (ps_ret (pe_and (pe_callB call_isi (by rfl) B.isinstance (by decide +kernel) (pa_cons (pv 0) (pa_cons (pe_ty (n := "int") (by rfl) B.int (by decide +kernel)) (pa_nil)))) (pe_and (pe_not (pe_callB call_isi (by rfl) B.isinstance (by decide +kernel) (pa_cons (pv 0) (pa_cons (pe_ty (n := "bool") (by rfl) B.bool (by decide +kernel)) (pa_nil))))) (pe_one (pe_chain op_le op_le (pv 1) (pv 0) (pv 2)))))), ?_⟩
    refine ⟨_, rfl, .int n, .ty "int", _, _, true, rfl, .ty "int", .base (.int n), kit_ty (by decide +kernel), ?_⟩
    refine ⟨_, rfl, ?_⟩; refine iteT ?_
    refine ⟨_, rfl, .int n, .ty "bool", _, _, false, rfl, .ty "bool", .base (.int n), kit_ty (by decide +kernel), ?_⟩
    refine ⟨_, rfl, true, rfl, ?_⟩; refine iteT ?_
    refine ⟨_, rfl, _, rfl, _, _, rfl, rfl, _, rfl, ite2 (fun h1 => ?_) (fun h1 => ?_)⟩
    · refine ⟨_, rfl, _, _, rfl, rfl, ?_⟩
      rw [show decide (lo ≤ n) = true from h1, Bool.true_and] at q
      exact q
    · have e : decide (lo ≤ n) = false := by simpa using h1
      rw [e, Bool.false_and] at q
      exact q
abbrev s_need : Stmt := top 8
theorem sc_need : FnScope ["value", "least", "most"] ["value", "least", "most"] (defScope s_need) := ⟨rfl, rfl, rfl, by decide +kernel, rfl, by decide +kernel, by decide +kernel⟩
/-- the number is let -/
def sp_need : Sp := fun vs H Q _ => ∃ n lo hi : Int, vs = [.int n, .int lo, .int hi] ∧ lo ≤ n ∧ n ≤ hi ∧ Q .non H
theorem ok_need (O_num : Ok P w K mg base "is_number_in" 1 ["value", "least", "most"] sp_num) (D : Df K mg "need_number" s_need ["value", "least", "most"]) : Ok P w K mg base "need_number" 2 ["value", "least", "most"] sp_need := by
  refine D.ok sc_need (fun vs H Q E h => ?_) (fun f cdv A outer s H vs Q E hr h => ?_)
  · obtain ⟨n, lo, hi, rfl, _⟩ := h
    rfl
  · obtain ⟨n, lo, hi, rfl, h1, h2, q⟩ := h
    refine ⟨_, pss_one (ps_if (pt_not (pt_val (O_num.call hr (ha := pa_cons (pv 0) (pa_cons (pv 1) (pa_cons (pv 2) pa_nil)))))) (pss_one ps_never) pss_nil), ?_⟩
    refine ⟨_, rfl, _, rfl, _, rfl, n, lo, hi, rfl, _, rfl, ?_⟩
    rw [decide_eq_true h1, decide_eq_true h2]
    exact iteF q
/-! ### is_name -/
abbrev s_name : Stmt := top 15
theorem sc_name : FnScope ["value", "letter"] ["value"] (defScope s_name) := ⟨rfl, rfl, rfl, by decide +kernel, rfl, by decide +kernel, by decide +kernel⟩
def sp_name : Sp := fun vs H Q _ => ∃ x : Str, vs = [.str x] ∧ okName x = true ∧ ∀ H', Same H H' → Q (.bl true) H'
theorem ok_name (B : Bt mg) (G : Gb mg) (D : Df K mg "is_name" s_name ["value"]) : Ok P w K mg base "is_name" 1 ["value"] sp_name := by
  refine D.ok sc_name (fun vs H Q E h => ?_) (fun f cdv A outer s H vs Q E hr h => ?_)
  · obtain ⟨x, rfl, _⟩ := h
    rfl
  · obtain ⟨x, rfl, hx, q⟩ := h
    unfold okName at hx
    simp only [Bool.and_eq_true, decide_eq_true_eq] at hx
    obtain ⟨⟨h1, h8⟩, ha⟩ := hx
    refine ⟨_, pss_cons (ps_if (PW.pt (pw_or (pt_not (pt_val (pe_callB call_isi (by rfl) B.isinstance (by decide +kernel) (pa_cons (pv 0) (pa_cons (pe_ty (n := "str") (by rfl) B.str (by decide +kernel)) pa_nil))))) (pw_or1 (pt_not (pt_chain op_le op_le pe_int (pe_callB call_len_str (by rfl) B.len (by decide +kernel) (pa_cons (pv 0) pa_nil)) G.MAX_LETTERS.pe)))))
        (pss_one (ps_ret pe_bl)) pss_nil)
      (pss_one (ps_ret (pe_callB (cr_all rfl) (by rfl) B.all (by decide +kernel) (pa_cons (pe_lc (own := [("letter", 1)]) (g := gName 1) (tt := tYes) rfl sc_name.nd (pi_str (pv 0)) (blkOk_by (own := [("letter", 1)]) (N := ["value", "letter"]) (sc := defScope s_name) (by decide +kernel)) (fun _ _ _ _ _ => pg_name (i := 1) sc_name.nd rfl (.inl rfl)) (fun _ _ _ _ _ => pts_nil) (fun _ _ _ _ _ => pe_cmpR op_in_sign (pv 1) G.ALPHABET.pe rfl)) pa_nil)))), ?_⟩
    refine ⟨_, rfl, .str x, .ty "str", _, _, true, rfl, .ty "str", .base (.str x), kit_ty (by decide +kernel), _, rfl, ?_⟩
    refine ifF rfl ?_
    refine ⟨_, rfl, x, rfl, sz_le (by omega), _, _, rfl, rfl, _, rfl, ?_⟩
    refine ifT (decide_eq_true (by omega)) ?_
    refine ⟨_, _, rfl, rfl, _, rfl, ?_⟩
    refine ifF (by rw [decide_eq_true (show (x.length : Int) ≤ 8 by omega)]; rfl) ?_
    walk_at "x"
    refine lc_runS (x0 := x) (ev_is rfl rfl) x.cps.toList (Array.length_toList ..) (fun _ => true) (fun c v _ => v = V.bl (decide (c ∈ (PySem.Str.ofString "abcdefghijklmnopqrstuvwxyz").cps.toList))) (by rw [Array.length_toList]; show x.length ≤ 100000; omega) (by intro _; rfl) (fun _ _ _ _ _ h => h)
      (fun i z v H hi y e => ⟨evt_yes, fun _ H3 e3 Q q => ?_⟩) (fun p H ys hp e hl hP => ?_)
    · obtain ⟨c, hc, rfl⟩ := y
      have ez : c = z := by
        rw [Array.getElem?_toList, hc] at hi
        exact Option.some.inj hi
      subst ez
      exact ⟨_, rfl, c, _, rfl, rfl, q _ _ (Same.refl _) rfl⟩
    · rw [filter_all] at hP
      have ey := bools_all _ hP
      rw [ey] at hl
      refine ⟨p, _, rfl, SqL.of hl, ?_⟩
      rw [all_id_map, List.all_eq_true.mpr fun c hc => alpha_in (List.all_eq_true.mp ha c hc)]
      exact q H e
/-! ### _is_pair, _is_row -/
abbrev s_pair : Stmt := top 16
theorem sc_pair : FnScope ["value", "size"] ["value", "size"] (defScope s_pair) := ⟨rfl, rfl, rfl, by decide +kernel, rfl, by decide +kernel, by decide +kernel⟩
def sp_pair : Sp := fun vs H Q _ => ∃ (v : V) (p : Int × Int) (n : Nat), vs = [v, .int n] ∧ PairV H v p ∧ okPair n p = true ∧ Q (.bl true) H
theorem ok_pair (B : Bt mg) (G : Gb mg) (O_is_number_in : Ok P w K mg base "is_number_in" 1 ["value", "least", "most"] sp_num) (D : Df K mg "_is_pair" s_pair ["value", "size"]) : Ok P w K mg base "_is_pair" 2 ["value", "size"] sp_pair := by
  refine D.ok sc_pair (fun vs H Q E h => ?_) (fun f cdv A outer s H vs Q E hr h => ?_)
  · obtain ⟨v, p, n, rfl, _⟩ := h
    rfl
  · obtain ⟨v, p, n, rfl, ⟨a, rfl, ha⟩, hp, q⟩ := h
    unfold okPair at hp
    simp only [Bool.and_eq_true, decide_eq_true_eq] at hp
    obtain ⟨⟨⟨h1, h2⟩, h3⟩, h4⟩ := hp
    refine ⟨_, pss_cons (ps_if (PW.pt (pw_or (pt_not (pt_val (pe_callB call_isi (by rfl) B.isinstance (by decide +kernel) (pa_cons (pv 0) (pa_cons (pe_ty (n := "tuple") (by rfl) B.tuple (by decide +kernel)) (pa_nil)))))) (pw_or1 (pt_cmpR op_ne (pe_callB (lenK (K := K)) (by rfl) B.len (by decide +kernel) (pa_cons (pv 0) (pa_nil))) (pe_int) (nomark _)))))
        (pss_one (ps_ret (pe_bl)))
        (pss_nil))
      (pss_one (ps_ret (pe_and (O_is_number_in.call hr (ha := pa_cons (pe_ix ix_tup (pv 0) (pe_int) (fun _ _ => rfl)) (pa_cons (pe_int) (pa_cons (pe_op op_sub (pv 1) (pe_int)) (pa_nil))))) (pe_one (O_is_number_in.call hr (ha := pa_cons (pe_ix ix_tup (pv 0) (pe_int) (fun _ _ => rfl)) (pa_cons (pe_int) (pa_cons (G.MAX_ANSWER.pe) (pa_nil))))))))), ?_⟩
    refine ⟨_, rfl, .ref a, .ty "tuple", _, _, true, rfl, .ty "tuple", .base (.tup ha), kit_ty (by decide +kernel), _, rfl, ?_⟩
    refine ifF rfl ?_
    refine ⟨_, rfl, a, _, rfl, .inr (SqT.of ha), rfl, _, rfl, ?_⟩
    refine ifF (by simp) ?_
    refine ⟨_, rfl, a, _, 0, _, rfl, rfl, SqT.of ha, rfl, _, rfl, n, 1, rfl, rfl, p.1, 0, (n : Int) - 1, rfl, _, rfl, ?_⟩
    refine ifT (by rw [decide_eq_true h1, decide_eq_true h2]; rfl) ?_
    refine ⟨_, rfl, a, _, 1, _, rfl, rfl, SqT.of ha, rfl, p.2, 0, 99, rfl, ?_⟩
    rw [decide_eq_true h3, decide_eq_true h4]
    exact q
abbrev s_row : Stmt := top 17
theorem sc_row : FnScope ["value", "size", "pair"] ["value", "size"] (defScope s_row) := ⟨rfl, rfl, rfl, by decide +kernel, rfl, by decide +kernel, by decide +kernel⟩
def sp_row : Sp := fun vs H Q _ => ∃ (v : V) (r : Row) (n : Nat), vs = [v, .int n] ∧ RowV H v r ∧ okRow n r = true ∧ n ≤ 12 ∧ ∀ H', Same H H' → Q (.bl true) H'
theorem ok_row (B : Bt mg) (G : Gb mg) (O_is_pair : Ok P w K mg base "_is_pair" 2 ["value", "size"] sp_pair) (D : Df K mg "_is_row" s_row ["value", "size"]) : Ok P w K mg base "_is_row" 3 ["value", "size"] sp_row := by
  refine D.ok sc_row (fun vs H Q E h => ?_) (fun f cdv A outer s H vs Q E hr h => ?_)
  · obtain ⟨v, p, n, rfl, _⟩ := h
    rfl
  · obtain ⟨v, r, n, rfl, ⟨a, xs, rfl, ha, hx⟩, hp, h12, q⟩ := h
    unfold okRow at hp
    simp only [Bool.and_eq_true, decide_eq_true_eq] at hp
    obtain ⟨hl, hall⟩ := hp
    have hlx := Paired.length hx
    refine ⟨_, pss_cons (ps_if (PW.pt (pw_or (pt_not (pt_val (pe_callB call_isi (by rfl) B.isinstance (by decide +kernel) (pa_cons (pv 0) (pa_cons (pe_ty (n := "tuple") (by rfl) B.tuple (by decide +kernel)) (pa_nil)))))) (pw_or1 (pt_cmpR op_ne (pe_callB (lenK (K := K)) (by rfl) B.len (by decide +kernel) (pa_cons (pv 0) (pa_nil))) (pv 1) (nomark _)))))
        (pss_one (ps_ret (pe_bl)))
        (pss_nil))
      (pss_one (ps_ret (pe_callB (cr_all rfl) (by rfl) B.all (by decide +kernel) (pa_cons (pe_lc (own := [("pair", 2)]) (g := gName 2) (tt := tYes) rfl sc_row.nd (pi_tup (pv 0)) (blkOk_by (own := [("pair", 2)]) (N := ["value", "size", "pair"]) (sc := defScope s_row) (by decide +kernel)) (fun _ _ _ _ _ => pg_name (i := 2) sc_row.nd rfl (.inl rfl)) (fun _ _ _ _ _ => pts_nil) (fun _ _ _ _ _ => O_is_pair.call hr (ha := pa_cons (pv 2) (pa_cons (pv 1) (pa_nil))))) (pa_nil))))), ?_⟩
    refine ⟨_, rfl, .ref a, .ty "tuple", _, _, true, rfl, .ty "tuple", .base (.tup ha), kit_ty (by decide +kernel), _, rfl, ?_⟩
    refine ifF rfl ?_
    refine ⟨_, rfl, a, _, rfl, .inr (SqT.of ha), _, rfl, rfl, _, rfl, ?_⟩
    refine ifF (by rw [hlx, hl]; simp) ?_
    walk_at "x"
    refine lc_runT (K := K) (xs := xs) (ev_is rfl ⟨a, rfl, SqT.of ha⟩) r hlx (fun _ => true) (fun z v _ => v = V.bl (okPair n z)) (by omega) (by intro _; rfl) (fun _ _ _ _ _ h => h)
      (fun i z v H1 hi y e => ⟨evt_yes, fun _ H3 e3 Q q => ?_⟩) (fun p H1 ys hp e hl' hP => ?_)
    · obtain ⟨z', hz', hpz⟩ := paired_ix2 hx y
      rw [hi] at hz'
      cases hz'
      have hok : okPair n z = true := List.all_eq_true.mp hall z (List.mem_of_getElem? hi)
      exact ⟨_, rfl, _, rfl, v, z, n, rfl, hpz.mono (tups_of (e.trans e3)), hok, q _ _ (Same.refl _) (by rw [hok])⟩
    · rw [filter_all] at hP
      have ey := bools_all _ hP
      rw [ey] at hl'
      refine ⟨p, _, rfl, SqL.of hl', ?_⟩
      rw [all_id_map, hall]
      exact q H1 e
/-! ### _is_table -/
abbrev s_table : Stmt := top 18
theorem sc_table : FnScope ["value", "first", "name", "row"] ["value"] (defScope s_table) := ⟨rfl, rfl, rfl, by decide +kernel, rfl, by decide +kernel, by decide +kernel⟩
def sp_table : Sp := fun vs H Q _ => ∃ (a : Addr) (kvs : List (L2.Key × V)) (t : Tab), vs = [.ref a] ∧ H a = some (.dK kvs) ∧ TabV H kvs t ∧ okTab t = true ∧ ∀ H', Same H H' → Q (.bl true) H'
theorem ok_table (B : Bt mg) (G : Gb mg) (O_is_name : Ok P w K mg base "is_name" 1 ["value"] sp_name) (O_is_row : Ok P w K mg base "_is_row" 3 ["value", "size"] sp_row) (D : Df K mg "_is_table" s_table ["value"]) : Ok P w K mg base "_is_table" 4 ["value"] sp_table := by
  refine D.ok sc_table (fun vs H Q E h => ?_) (fun f cdv A outer s H vs Q E hr h => ?_)
  · obtain ⟨a, kvs, t, rfl, _⟩ := h
    rfl
  · obtain ⟨a, kvs, t, rfl, ha, ht, hok, q⟩ := h
    unfold okTab at hok
    simp only [Bool.and_eq_true, decide_eq_true_eq] at hok
    obtain ⟨⟨⟨⟨h1, h6⟩, hs1⟩, hs12⟩, hall⟩ := hok
    have hlen := Paired.length ht
    obtain ⟨e0, t', rfl⟩ : ∃ e0 t', t = e0 :: t' := by
      cases t with
      | nil => simp at h1
      | cons e0 t' => exact ⟨e0, t', rfl⟩
    obtain ⟨kv0, kvs', rfl⟩ : ∃ kv0 kvs', kvs = kv0 :: kvs' := by
      cases kvs with
      | nil => simp at hlen
      | cons kv0 kvs' => exact ⟨kv0, kvs', rfl⟩
    have hz : kv0.1 = Sum.inr e0.1 ∧ RowV H kv0.2 e0.2 := by
      cases ht with
      | cons r _ => exact r
    obtain ⟨_, b, rs, eb, hb, hrs⟩ := hz
    have hrl := Paired.length hrs
    have hsz : sizeT (e0 :: t') = e0.2.length := rfl
    refine ⟨_, pss_cons (ps_if (PW.pt (pw_or (pt_not (pt_val (pe_callB call_isi (by rfl) B.isinstance (by decide +kernel) (pa_cons (pv 0) (pa_cons (pe_ty (n := "dict") (by rfl) B.dict (by decide +kernel)) (pa_nil)))))) (pw_or1 (pt_not (pt_chain op_le op_le (pe_int) (pe_callB call_lenD (by rfl) B.len (by decide +kernel) (pa_cons (pv 0) (pa_nil))) (G.MAX_OPERATIONS.pe))))))
        (pss_one (ps_ret (pe_bl)))
        (pss_nil))
      (pss_cons (ps_set (i := 1) sc_table.nd rfl (.inr rfl) (pe_ix ix_list (pe_listVals rfl (pv 0) (by rfl) B.list) (pe_int) (fun _ _ => rfl)))
      (pss_cons (ps_if (PW.pt (pw_or (pt_not (pt_val (pe_callB call_isi (by rfl) B.isinstance (by decide +kernel) (pa_cons (pv 1) (pa_cons (pe_ty (n := "tuple") (by rfl) B.tuple (by decide +kernel)) (pa_nil)))))) (pw_or1 (pt_not (pt_chain op_le op_le (pe_int) (pe_callB (lenK (K := K)) (by rfl) B.len (by decide +kernel) (pa_cons (pv 1) (pa_nil))) (G.MAX_STATES.pe))))))
        (pss_one (ps_ret (pe_bl)))
        (pss_nil))
      (pss_one (ps_ret (pe_callB (cr_all rfl) (by rfl) B.all (by decide +kernel) (pa_cons (pe_lock (pe_lc (own := [("name", 2), ("row", 3)]) (g := gTup K 2 (gCons (gName 2) (gCons (gName 3) (gNil)))) (tt := tYes) rfl sc_table.nd (pi_items (pv 0)) (blkOk_by (own := [("name", 2), ("row", 3)]) (N := ["value", "first", "name", "row"]) (sc := defScope s_table) (by decide +kernel)) (fun _ _ _ _ _ => pg_tup (by rfl) (pgs_cons (pg_name (i := 2) sc_table.nd rfl (.inl rfl)) (pgs_cons (pg_name (i := 3) sc_table.nd rfl (.inl rfl)) (pgs_nil)))) (fun _ _ _ _ _ => pts_nil) (fun _ _ _ _ _ => pe_and (O_is_name.call hr (ha := pa_cons (pv 2) (pa_nil))) (pe_one (O_is_row.call hr (ha := pa_cons (pv 3) (pa_cons (pe_callB (lenK (K := K)) (by rfl) B.len (by decide +kernel) (pa_cons (pv 1) (pa_nil))) (pa_nil)))))))) (pa_nil))))))), ?_⟩
    refine ⟨_, rfl, .ref a, .ty "dict", _, _, true, rfl, .ty "dict", .base (.dK ha), kit_ty (by decide +kernel), _, rfl, ?_⟩
    refine ifF rfl ?_
    refine ⟨_, rfl, a, _, rfl, ha, _, _, rfl, rfl, _, rfl, ?_⟩
    refine ifT (decide_eq_true (by rw [hlen]; omega)) ?_
    refine ⟨_, _, rfl, rfl, _, rfl, ?_⟩
    refine ifF (by rw [decide_eq_true (by rw [hlen]; omega)]; rfl) ?_
    refine ⟨_, rfl, a, _, rfl, ha, fun p hp => ?_⟩
    refine ⟨p, _, 0, kv0.2, rfl, rfl, SqL.of upd_same, at_of (j := 0) rfl rfl, ?_⟩
    rw [eb]
    have e1 : Same H (upd H p (.lst (List.map (·.2) (kv0 :: kvs')))) := same_new hp
    generalize upd H p (.lst (List.map (·.2) (kv0 :: kvs'))) = H1 at e1 ⊢
    refine ⟨_, rfl, .ref b, .ty "tuple", _, _, true, rfl, .ty "tuple", .base (.tup (e1 _ _ hb)), kit_ty (by decide +kernel), _, rfl, ?_⟩
    refine ifF rfl ?_
    refine ⟨_, rfl, b, _, rfl, .inr (SqT.of (e1 _ _ hb)), _, _, rfl, rfl, _, rfl, ?_⟩
    refine ifT (decide_eq_true (by rw [hrl]; omega)) ?_
    refine ⟨_, _, rfl, rfl, _, rfl, ?_⟩
    refine ifF (by rw [decide_eq_true (by rw [hrl]; omega)]; rfl) ?_
    walk_at "x"
    refine ⟨a, .dK (kv0 :: kvs'), e1 _ _ ha, trivial, fun od => ?_⟩
    have tu : TupS H1 (upd H1 a (.frz od (.dK (kv0 :: kvs')))) := lock_in (e1 _ _ ha) (fun xs z => by cases z)
    refine lc_runI (K := K) (o := od) (kvs := kv0 :: kvs') (ev_is rfl rfl) upd_same (e0 :: t') hlen.symm (fun _ => true) (fun z v _ => v = V.bl true) (by omega) (by intro _ _; rfl) (fun _ _ _ _ _ h => h)
      (fun i z kv H2 hi hk e => ⟨evt_yes, fun _ H3 e3 Q q => ?_⟩) (fun p2 H2 ys hp2 e2 hl' hP => ?_)
    · obtain ⟨z', hz', hk1, hk2⟩ := paired_ix2 ht hk
      rw [hi] at hz'
      cases hz'
      have hin := List.all_eq_true.mp hall z (List.mem_of_getElem? hi)
      rw [Bool.and_eq_true] at hin
      have t3 : TupS H H3 := ((tups_of e1).trans tu).trans (tups_of (e.trans e3))
      refine ⟨_, rfl, z.1, by rw [hk1]; rfl, hin.1, fun H4 e4 => ⟨_, rfl, ?_⟩⟩
      refine ifT rfl ?_
      refine ⟨_, rfl, _, rfl, b, _, rfl, .inr (SqT.of (e4 _ _ (t3 _ _ hb))), kv.2, z.2, e0.2.length, by rw [hrl]; rfl, hk2.mono (t3.trans (tups_of e4)), hin.2, hs12, fun H5 e5 => q _ _ (e4.trans e5) rfl⟩
    · rw [filter_all] at hP
      have ey := bools_all (fun _ => true) hP
      rw [ey] at hl'
      have np : p2 ≠ a := fun z => by rw [z, upd_same] at hp2; cases hp2
      refine ⟨e2 _ _ upd_same, p2, _, rfl, SqL.of (by rw [upd_ne np]; exact hl'), ?_⟩
      rw [all_id_map, List.all_eq_true.mpr fun _ _ => rfl]
      exact q _ (e1.trans (lock_out (e1 _ _ ha) e2))
end
end Tm

namespace Tm
open PySem PySem.Spec PyProof.Rows L2
local macro_rules | `(tactic| walk_at "x") => `(tactic| dsimp only [tNext, tRet, tSeq, tCB, tCons, tNil, tAsg, tDrop])
/-! ### the class -/
structure DfM (K : PySem.W.Frag) (C : Addr) (m q : Str) (st : Stmt) (ps : List Str) : Prop where
  ex : ∃ (f : Addr) (fd : FuncData), Meth K C m f ∧ Fun K m q st f fd ∧ Binds K fd ps []
structure DfP (K : PySem.W.Frag) (C : Addr) (m q : Str) (st : Stmt) : Prop where
  ex : ∃ (p g : Addr) (fd : FuncData), PropOf K C m p g ∧ Fun K m q st g fd ∧ Binds K fd ["self"] []
structure DfC (K : PySem.W.Frag) (mg : Str → Option Value) (x : Str) (C : Addr) (q : Str) (st : Stmt) (ps : List Str) : Prop where
  ex : ∃ (f : Addr) (fd : FuncData), mg x = some (.ref C) ∧ Mk K C f ∧ Fun K "__init__" q st f fd ∧ Binds K fd ps []
structure DfIn (K : PySem.W.Frag) (C : Addr) (q : Str) (st : Stmt) (ps : List Str) : Prop where
  ex : ∃ (f : Addr) (fd : FuncData), InM K C f ∧ Fun K "__contains__" q st f fd ∧ Binds K fd ps []
/-- a body of the text keeps its promise -/
def BodyOk (P : Program) (w : World) (K : PySem.W.Frag) (mg : Str → Option Value) (base : Heap) (q : Str) (st : Stmt) (N : List Str) (k : Nat) (sp : Sp) : Prop :=
  ∀ (f : Addr) (cdv : Value) (A : Around) (outer : List Env) (s : Shared) (H : Hp) (vs : List V) (Q : VK) (E : XK), Room k (A.deeper (envOfC q (defScope st) s.heap.objs.size f cdv)) → sp vs H Q E →
      ∃ t, PSs (cxOf CX0 P w K mg base N q (defScope st) f cdv A outer s H E).nox (defBody st) t ∧ t { nx := fun _ H' => Q .non H', rt := Q } (start N vs) H
section
variable {P : Program} {w : World} {K : PySem.W.Frag} {mg : Str → Option Value} {base : Heap} {C : Addr} {m q x : Str} {st : Stmt} {ps N : List Str} {k : Nat} {sp : Sp}
theorem DfM.ok (D : DfM K C m q st ps) (S : FnScope N ps (defScope st)) (len : ∀ vs H Q E, sp vs H Q E → vs.length = ps.length) (hb : BodyOk P w K mg base q st N k sp) : OkM P w K mg base C m (k + 1) ps sp := by
  obtain ⟨f, fd, h1, h2, h3⟩ := D.ex
  exact ⟨f, fd, h1, h2.ok S len (fun cdv A outer s H vs Q E hr h => hb f cdv A outer s H vs Q E hr h), h3⟩
theorem DfP.ok (D : DfP K C m q st) (S : FnScope N ["self"] (defScope st)) (len : ∀ vs H Q E, sp vs H Q E → vs.length = 1) (hb : BodyOk P w K mg base q st N k sp) : OkP P w K mg base C m (k + 1) sp := by
  obtain ⟨p, g, fd, h1, h2, h3⟩ := D.ex
  exact ⟨p, g, fd, h1, h2.ok S len (fun cdv A outer s H vs Q E hr h => hb g cdv A outer s H vs Q E hr h), h3⟩
theorem DfC.ok (D : DfC K mg x C q st ps) (S : FnScope N ps (defScope st)) (len : ∀ vs H Q E, sp vs H Q E → vs.length = ps.length) (hb : BodyOk P w K mg base q st N k sp) : OkC P w K mg base x C (k + 1) ps sp := by
  obtain ⟨f, fd, h0, h1, h2, h3⟩ := D.ex
  exact ⟨f, fd, h0, h1, h2.ok S len (fun cdv A outer s H vs Q E hr h => hb f cdv A outer s H vs Q E hr h), h3⟩
theorem DfIn.ok (D : DfIn K C q st ps) (S : FnScope N ps (defScope st)) (len : ∀ vs H Q E, sp vs H Q E → vs.length = ps.length) (hb : BodyOk P w K mg base q st N k sp) : OkIn P w K mg base C (k + 1) ps sp := by
  obtain ⟨f, fd, h1, h2, h3⟩ := D.ex
  exact ⟨f, fd, h1, h2.ok S len (fun cdv A outer s H vs Q E hr h => hb f cdv A outer s H vs Q E hr h), h3⟩
end
/-- what is true of the class Kind -/
structure Kc (K : PySem.W.Frag) (C : Addr) : Prop where
  cl : Cls K C
  nT : NoAttr K C "_table"
  nS : NoAttr K C "_size"
def kflds (d : Addr) (n : Int) : List (Str × V) := [("_table", .ref d), ("_size", .int n)]
theorem kT_ne : ¬ (("_table" : Str) = "_size") := by decide +kernel
theorem kf_put (d : Addr) (n : Int) : putF "_size" (.int n) (putF "_table" (.ref d) []) = kflds d n := by
  show (if ("_table" : Str) = "_size" then _ else (("_table" : Str), V.ref d) :: putF "_size" (V.int n) []) = _
  rw [if_neg kT_ne]
  rfl
theorem kf_T (d : Addr) (n : Int) : (kflds d n).lookup ("_table" : Str) = some (.ref d) := by simp [kflds, List.lookup]
theorem kf_S (d : Addr) (n : Int) : (kflds d n).lookup ("_size" : Str) = some (.int n) := by
  have h : (("_size" : Str) == ("_table" : Str)) = false := by decide +kernel
  simp [kflds, List.lookup, h]
theorem kf_no (d : Addr) (n : Int) {m : Str} (h1 : (m == ("_table" : Str)) = false := by decide +kernel) (h2 : (m == ("_size" : Str)) = false := by decide +kernel) : (kflds d n).lookup m = none := by
  simp [kflds, List.lookup, h1, h2]
def namesT (t : Tab) : List Str := t.map (·.1)
/-- at v a kind with the table t -/
def KindV (C : Addr) (H : Hp) (v : V) (t : Tab) : Prop := ∃ a dx d kvs, v = .ref a ∧ H a = some (.ins C dx (kflds d (sizeT t))) ∧ H d = some (.dK kvs) ∧ TabV H kvs t ∧ okTab t = true ∧ (namesT t).Nodup ∧ sortedS (namesT t) = true
theorem KindV.mono {C : Addr} {H H' : Hp} {v : V} {t : Tab} (e : Same H H') (h : KindV C H v t) : KindV C H' v t := by
  obtain ⟨a, dx, d, kvs, e1, e2, e3, e4, e5⟩ := h
  exact ⟨a, dx, d, kvs, e1, e _ _ e2, e _ _ e3, e4.mono (tups_of e), e5⟩
/-! ### look-ups in a table -/
theorem tabV_keys {H : Hp} {kvs : List (L2.Key × V)} {t : Tab} (h : TabV H kvs t) : kvs.map (·.1) = (namesT t).map Sum.inr := by
  unfold namesT
  rw [paired_keys (key := fun e : Str × Row => Sum.inr e.1) (fun kv z h => h.1) h, List.map_map]
  rfl
theorem valV_cons {kv : L2.Key × V} {kvs : List (L2.Key × V)} {k : L2.Key} : valV (kv :: kvs) k = if kv.1 = k then some kv.2 else valV kvs k := by
  unfold valV
  rw [List.find?_cons]
  by_cases h : kv.1 = k
  · rw [if_pos h, decide_eq_true h]; rfl
  · rw [if_neg h, decide_eq_false h]
theorem tab_look {H : Hp} : ∀ {kvs : List (L2.Key × V)} {t : Tab} {x : Str} {r : Row}, TabV H kvs t → (namesT t).Nodup → (x, r) ∈ t → ∃ v, valV kvs (Sum.inr x) = some v ∧ RowV H v r
  | _, _, x, r, .nil, _, hm => by simp at hm
  | kv :: kvs, e :: t, x, r, .cons h ht, nd, hm => by
    have nd' := List.nodup_cons.mp (show (e.1 :: namesT t).Nodup from nd)
    rw [valV_cons, h.1]
    rcases List.mem_cons.mp hm with e1 | hm
    · subst e1
      exact ⟨kv.2, if_pos rfl, h.2⟩
    · have hne : e.1 ≠ x := fun z => nd'.1 (by rw [z]; exact List.mem_map.mpr ⟨(x, r), hm, rfl⟩)
      rw [if_neg (fun z => hne (Sum.inr.inj z))]
      exact tab_look ht nd'.2 hm
theorem row_unique {t : Tab} {x : Str} {r r' : Row} (nd : (namesT t).Nodup) (h : (x, r) ∈ t) (h' : (x, r') ∈ t) : r = r' := by
  obtain ⟨i, hi, e⟩ := List.mem_iff_getElem.mp h
  obtain ⟨j, hj, e'⟩ := List.mem_iff_getElem.mp h'
  have q : (namesT t)[i]'(by simpa [namesT] using hi) = (namesT t)[j]'(by simpa [namesT] using hj) := by simp [namesT, e, e']
  have ij := (List.getElem_inj nd).mp q
  subst ij
  rw [e] at e'
  exact (Prod.mk.inj e').2
/-- from names with rows to a table -/
theorem tab_of {H : Hp} {t : Tab} : ∀ {kvs : List (L2.Key × V)} {ys : List Str}, Paired (fun kv z => kv.1 = Sum.inr z ∧ ∃ r, (z, r) ∈ t ∧ RowV H kv.2 r) kvs ys → ∃ t', TabV H kvs t' ∧ namesT t' = ys ∧ ∀ e ∈ t', e ∈ t
  | _, _, .nil => ⟨[], .nil, rfl, fun _ h => by simp at h⟩
  | kv :: kvs, z :: ys, .cons h ht => by
    obtain ⟨t', h1, h2, h3⟩ := tab_of ht
    obtain ⟨r, hr, hv⟩ := h.2
    refine ⟨(z, r) :: t', .cons ⟨h.1, hv⟩ h1, by show z :: namesT t' = _; rw [h2], fun e he => ?_⟩
    rcases List.mem_cons.mp he with z | z
    · rw [z]; exact hr
    · exact h3 e z
theorem nd_of_map {α β : Type} {l : List α} {f : α → β} (h : (l.map f).Nodup) : l.Nodup :=
  (List.pairwise_map.mp h).imp fun h e => h (congrArg f e)
theorem perm_of_names {t t' : Tab} (nd : (namesT t).Nodup) (hn : (namesT t').Perm (namesT t)) (hs : ∀ e ∈ t', e ∈ t) : t'.Perm t := by
  have nd' : (namesT t').Nodup := hn.nodup_iff.mpr nd
  have n1 : t.Nodup := nd_of_map nd
  have n2 : t'.Nodup := nd_of_map nd'
  refine (List.perm_ext_iff_of_nodup n2 n1).mpr fun e => ⟨hs e, fun he => ?_⟩
  have hm : e.1 ∈ namesT t' := hn.mem_iff.mpr (List.mem_map.mpr ⟨e, he, rfl⟩)
  obtain ⟨e', he', q⟩ := List.mem_map.mp hm
  have hr : e'.2 = e.2 := row_unique nd (x := e.1) (by rw [← q]; exact hs e' he') he
  have : e' = e := Prod.ext q hr
  rw [← this]; exact he'
theorem size_of_ok {t : Tab} (h : okTab t = true) : ∀ e ∈ t, e.2.length = sizeT t := fun e he => by
  unfold okTab at h
  simp only [Bool.and_eq_true] at h
  have q := List.all_eq_true.mp h.2 e he
  simp only [Bool.and_eq_true, okRow, decide_eq_true_eq] at q
  exact q.2.1
theorem size_perm {t t' : Tab} (h : okTab t = true) (p : t'.Perm t) : sizeT t' = sizeT t := by
  cases t' with
  | nil =>
    have := p.length_eq
    cases t with
    | nil => rfl
    | cons => simp at this
  | cons e t' =>
    show e.2.length = _
    exact size_of_ok h e (p.mem_iff.mp List.mem_cons_self)
theorem ok_perm {t t' : Tab} (h : okTab t = true) (p : t'.Perm t) : okTab t' = true := by
  have hs := size_perm h p
  unfold okTab at h ⊢
  rw [hs, p.length_eq]
  simp only [Bool.and_eq_true] at h ⊢
  refine ⟨h.1, List.all_eq_true.mpr fun e he => ?_⟩
  have := List.all_eq_true.mp h.2 e (p.mem_iff.mp he)
  simpa using this
end Tm

namespace Tm
open PySem PySem.Spec PyProof.Rows L2
local macro_rules | `(tactic| walk_at "x") => `(tactic| dsimp only [tNext, tRet, tSeq, tCB, tCons, tNil, tAsg, tDrop, sFld])
section
variable {P : Program} {w : World} {K : PySem.W.Frag} {mg : Str → Option Value} {base : Heap} {C : Addr}
/-! ### Kind(operations) -/
abbrev s_init : Stmt := inClass (top 19) 0
theorem sc_init : FnScope ["self", "operations", "name"] ["self", "operations"] (defScope s_init) := ⟨rfl, rfl, rfl, by decide +kernel, rfl, by decide +kernel, by decide +kernel⟩
def sp_init (C : Addr) : Sp := fun vs H Q _ => ∃ (p dx a : Addr) (kvs : List (L2.Key × V)) (t : Tab), vs = [.ref p, .ref a] ∧ H p = some (.ins C dx []) ∧ H a = some (.dK kvs) ∧ TabV H kvs t ∧ okTab t = true ∧ (namesT t).Nodup ∧
  ∀ H' t', t'.Perm t → KindV C H' (.ref p) t' → (∀ b o, b ≠ p → H b = some o → H' b = some o) → Q .non H'
theorem ok_init (B : Bt mg) (T : Kc K C) (O_is_table : Ok P w K mg base "_is_table" 4 ["value"] sp_table) (D : DfC K mg "Kind" C "Kind.__init__" s_init ["self", "operations"]) : OkC P w K mg base "Kind" C 5 ["self", "operations"] (sp_init C) := by
  refine D.ok sc_init (fun vs H Q E h => ?_) (fun f cdv A outer s H vs Q E hr h => ?_)
  · obtain ⟨p, dx, a, kvs, t, rfl, _⟩ := h
    rfl
  · obtain ⟨p, dx, a, kvs, t, rfl, hp, ha, ht, hok, nd, q⟩ := h
    have hu := hu_of hr
    have hkeys := tabV_keys ht
    have h6 : (namesT t).length ≤ 6 := by
      have := hok
      unfold okTab at this
      simp only [Bool.and_eq_true, decide_eq_true_eq] at this
      unfold namesT
      rw [List.length_map]
      exact this.1.1.1.2
    refine ⟨_, pss_cons (ps_if (pt_not (pt_val (O_is_table.call hr (ha := pa_cons (pv 1) (pa_nil)))))
        (pss_one (ps_never))
        (pss_nil))
      (pss_cons (ps_fld (pv 0) (pe_dc (own := [("name", 2)]) (g := gName 2) (tt := tYes) rfl sc_init.nd (pi_list (pe_callB (call_sortedD rfl) (by rfl) B.sorted (by decide +kernel) (pa_cons (pv 1) (pa_nil)))) (blkOk_by (own := [("name", 2)]) (N := ["self", "operations", "name"]) (sc := defScope s_init) (by decide +kernel)) (fun _ _ _ _ _ => pg_name (i := 2) sc_init.nd rfl (.inl rfl)) (fun _ _ _ _ _ => pts_nil) (fun _ _ _ _ _ => pv 2) (fun _ _ _ _ _ => pe_dget hu (pv 1) (pv 2) (fun _ _ => rfl))) rfl)
      (pss_one (ps_fld (pv 0) (pe_callB (lenK (K := K)) (by rfl) B.len (by decide +kernel) (pa_cons (pe_ix (ixLK (K := K)) (pe_listVals rfl (pe_fld (pv 0) rfl) (by rfl) B.list) (pe_int) (fun _ _ => rfl)) (pa_nil))) rfl))), ?_⟩
    refine ⟨_, rfl, a, kvs, t, rfl, ha, ht, hok, fun H1 e1 => ⟨_, rfl, ?_⟩⟩
    refine ifF rfl ?_
    walk_at "x"
    refine dc_bind (P := fun v H2 => ∃ (b : Addr) (ys : List Str), v = .ref b ∧ H2 b = some (.lst (ys.map V.str)) ∧ ys.Perm (namesT t) ∧ sortedS ys = true) (fun Q q => ?_) (fun v H2 e2 hv => ?_)
    · exact ⟨_, rfl, a, kvs, namesT t, rfl, .inl (e1 _ _ ha), hkeys, by omega, fun ys b hpm hst hb => q _ _ (same_new hb) ⟨b, ys, rfl, upd_same, hpm, hst⟩⟩
    · obtain ⟨b, ys, rfl, hb, hpm, hst⟩ := hv
      have e12 := e1.trans e2
      have ndy : ys.Nodup := hpm.nodup_iff.mpr nd
      refine dc_runL (K := K) (xs := ys.map V.str) (ev_c ⟨b, rfl, SqL.of hb⟩) ys (List.length_map ..) (fun _ => true) Sum.inr (fun z v H => ∃ r, (z, r) ∈ t ∧ RowV H v r) (by rw [hpm.length_eq]; omega)
        (by rw [List.nodup_iff_pairwise_ne, List.pairwise_map]; exact (List.nodup_iff_pairwise_ne.mp ndy).imp fun h z => h (Sum.inr.inj z)) (by intro _; rfl)
        (fun z v H H' e h => by obtain ⟨r, h1, h2⟩ := h; exact ⟨r, h1, h2.mono e⟩) (fun i z x H3 hi hx e3 => ⟨evt_yes, fun _ H4 e4 => ?_, fun _ H4 e4 => ?_⟩) (fun d H3 kvs' hd e3 hdk hP => ?_)
      · rw [List.getElem?_map, hi] at hx
        have ex : V.str z = x := Option.some.inj hx
        subst ex
        exact ev_is rfl rfl
      · rw [List.getElem?_map, hi] at hx
        have ex : V.str z = x := Option.some.inj hx
        subst ex
        have hz : z ∈ namesT t := hpm.mem_iff.mp (List.mem_of_getElem? hi)
        obtain ⟨⟨x', r⟩, hr', exx⟩ := List.mem_map.mp hz
        have ex2 : x' = z := exx
        subst ex2
        obtain ⟨v, hv, hrow⟩ := tab_look ht nd hr'
        have hSame : Same H H4 := e12.trans (e3.trans e4)
        intro Q q
        refine ⟨_, rfl, _, rfl, a, v, rfl, ?_, q v H4 (Same.refl _) ⟨r, hr', hrow.mono (tups_of hSame)⟩⟩
        have := DGet.k (k := Sum.inr x') (hSame _ _ ha)
        rw [hv] at this
        exact this
      · rw [filter_all] at hP
        obtain ⟨t', ht', hn', hs'⟩ := tab_of hP
        have pm : t'.Perm t := perm_of_names nd (by rw [hn']; exact hpm) hs'
        have e13 := e12.trans e3
        have npd : p ≠ d := ne_of_none (e12 _ _ hp) hd
        refine ⟨_, rfl, p, C, dx, [], rfl, e13 _ _ hp, T.cl, T.nT, (by show 0 < 1000; decide), ?_⟩
        generalize hH4 : upd H3 p (.ins C dx (putF "_table" (.ref d) [])) = H4
        have hp4 : H4 p = some (.ins C dx (putF "_table" (.ref d) [])) := by rw [← hH4]; exact upd_same
        have hd4 : H4 d = some (.dK kvs') := by rw [← hH4, upd_ne npd.symm]; exact hdk
        have t4 : TupS H3 H4 := by rw [← hH4]; exact tups_upd (e13 _ _ hp) (fun xs z => by cases z)
        have hlk : (putF "_table" (V.ref d) []).lookup ("_table" : Str) = some (.ref d) := by simp [putF, List.lookup]
        obtain ⟨e0, t0, rfl⟩ : ∃ e0 t0, t' = e0 :: t0 := by
          cases t' with
          | nil =>
            have := ok_perm hok pm
            simp [okTab] at this
          | cons e0 t0 => exact ⟨e0, t0, rfl⟩
        obtain ⟨kv0, kvs0, rfl⟩ : ∃ kv0 kvs0, kvs' = kv0 :: kvs0 := by
          cases kvs' with
          | nil => cases ht'
          | cons kv0 kvs0 => exact ⟨kv0, kvs0, rfl⟩
        obtain ⟨b0, rs, eb, hb0, hrs⟩ : RowV H3 kv0.2 e0.2 := by
          cases ht' with
          | cons r _ => exact r.2
        refine ⟨_, rfl, p, C, dx, _, _, rfl, hp4, T.cl, T.nT, hlk, d, _, rfl, hd4, fun l hl => ?_⟩
        refine ⟨l, _, 0, kv0.2, rfl, rfl, SqL.of upd_same, at_of (j := 0) rfl rfl, ?_⟩
        rw [eb]
        have e5 : Same H4 (upd H4 l (.lst (List.map (·.2) (kv0 :: kvs0)))) := same_new hl
        generalize upd H4 l (.lst (List.map (·.2) (kv0 :: kvs0))) = H5 at e5 ⊢
        refine ⟨b0, rs, rfl, .inr (SqT.of (e5 _ _ (t4 _ _ hb0))), _, rfl, p, C, dx, _, rfl, e5 _ _ hp4, T.cl, T.nS, (by show 1 < 1000; decide), ?_⟩
        have hsz : (rs.length : Int) = (sizeT (e0 :: t0) : Int) := by rw [Paired.length hrs]; rfl
        refine q _ (e0 :: t0) pm ⟨p, dx, d, kv0 :: kvs0, rfl, ?_, ?_, ?_, ok_perm hok pm, ?_, ?_⟩ ?_
        · rw [upd_same, hsz, kf_put]
        · rw [upd_ne npd.symm]
          exact e5 _ _ hd4
        · exact ht'.mono (t4.trans ((tups_of e5).trans (tups_upd (e5 _ _ hp4) (fun xs z => by cases z))))
        · rw [hn']; exact ndy
        · rw [hn']; exact hst
        · intro c o hc hco
          rw [upd_ne hc]
          refine e5 _ _ ?_
          rw [← hH4, upd_ne hc]
          exact e13 _ _ hco
end
end Tm

namespace Tm
open PySem PySem.Spec PyProof.Rows L2
local macro_rules | `(tactic| walk_at "x") => `(tactic| dsimp only [tNext, tRet, tSeq, tCB, tCons, tNil, tAsg, tDrop, sFld])
/-- a kind is made of a dict -/
theorem mk_kind {C : Addr} {H1 : Hp} {a : Addr} {kvs : List (L2.Key × V)} {t : Tab} {Q : VK} {E : XK} (ha : H1 a = some (.dK kvs)) (ht : TabV H1 kvs t) (hok : okTab t = true) (nd : (namesT t).Nodup)
    (q : ∀ v H' t', Same H1 H' → KindV C H' v t' → t'.Perm t → Q v H') :
    ∀ x dx, H1 x = none → H1 dx = none → dx ≠ x → sp_init C (.ref x :: ([V.ref a] ++ [])) (upd (upd H1 dx (.own x)) x (.ins C dx [])) (fun v H2 => v = .non ∧ Q (.ref x) H2) E := by
  intro x dx hx hdx hne
  have e : Same H1 (upd (upd H1 dx (.own x)) x (.ins C dx [])) := fun b o hb => by
    rw [upd_ne (ne_of_none hb hx), upd_ne (ne_of_none hb hdx)]; exact hb
  refine ⟨x, dx, a, kvs, t, rfl, upd_same, e _ _ ha, ht.mono (tups_of e), hok, nd, fun H' t' pm hk hkeep => ⟨rfl, q _ H' t' (fun b o hb => ?_) hk pm⟩⟩
  exact hkeep b o (ne_of_none hb hx) (e _ _ hb)
section
variable {P : Program} {w : World} {K : PySem.W.Frag} {mg : Str → Option Value} {base : Heap} {C : Addr}
/-! ### in, _need_operation, after, names -/
abbrev s_cont : Stmt := inClass (top 19) 14
theorem sc_cont : FnScope ["self", "x"] ["self", "x"] (defScope s_cont) := ⟨rfl, rfl, rfl, by decide +kernel, rfl, by decide +kernel, by decide +kernel⟩
def sp_cont (C : Addr) : Sp := fun vs H Q _ => ∃ (v : V) (t : Tab) (x : Str), vs = [v, .str x] ∧ KindV C H v t ∧ Q (.bl (decide (x ∈ namesT t))) H
theorem tab_isSome {H : Hp} : ∀ {kvs : List (L2.Key × V)} {t : Tab} (x : Str), TabV H kvs t → (valV kvs (Sum.inr x)).isSome = decide (x ∈ namesT t)
  | _, _, x, .nil => by simp [valV, namesT]
  | kv :: kvs, e :: t, x, .cons h ht => by
    rw [valV_cons, h.1]
    by_cases hx : e.1 = x
    · rw [if_pos (by rw [hx])]
      have : x ∈ namesT (e :: t) := by rw [← hx]; exact List.mem_cons_self
      rw [decide_eq_true this]; rfl
    · rw [if_neg (fun z => hx (Sum.inr.inj z)), tab_isSome x ht]
      have hiff : x ∈ namesT (e :: t) ↔ x ∈ namesT t := by
        show x ∈ e.1 :: namesT t ↔ _
        rw [List.mem_cons]
        exact ⟨fun z => z.resolve_left (fun y => hx y.symm), .inr⟩
      exact decide_eq_decide.mpr hiff.symm
theorem ok_cont (B : Bt mg) (T : Kc K C) (D : DfIn K C "Kind.__contains__" s_cont ["self", "x"]) : OkIn P w K mg base C 1 ["self", "x"] (sp_cont C) := by
  refine D.ok sc_cont (fun vs H Q E h => ?_) (fun f cdv A outer s H vs Q E hr h => ?_)
  · obtain ⟨v, t, x, rfl, _⟩ := h
    rfl
  · obtain ⟨v, t, x, rfl, ⟨a, dx, d, kvs, rfl, ha, hd, ht, hok, nd, hst⟩, q⟩ := h
    have hu := hu_of hr
    refine ⟨_, pss_one (ps_ret (pe_and (pe_callB (isiK (K := K)) (by rfl) B.isinstance (by decide +kernel) (pa_cons (pv 1) (pa_cons (pe_ty (n := "str") (by rfl) B.str (by decide +kernel)) (pa_nil)))) (pe_one (pe_cmp (pc_din hu (pv 1) (pe_fld (pv 0) rfl)) rfl)))), ?_⟩
    refine ⟨_, rfl, .str x, .ty "str", _, _, true, rfl, .ty "str", .base (.str x), kit_ty (by decide +kernel), _, rfl, ?_⟩
    refine ifT rfl ?_
    refine ⟨_, rfl, _, rfl, a, C, dx, _, _, rfl, ha, T.cl, T.nT, kf_T _ _, d, _, rfl, DGet.k (k := Sum.inr x) hd, ?_⟩
    rw [tab_isSome x ht]
    exact q
abbrev s_needop : Stmt := inClass (top 19) 12
theorem sc_needop : FnScope ["self", "name"] ["self", "name"] (defScope s_needop) := ⟨rfl, rfl, rfl, by decide +kernel, rfl, by decide +kernel, by decide +kernel⟩
def sp_needop (C : Addr) : Sp := fun vs H Q _ => ∃ (v : V) (t : Tab) (x : Str), vs = [v, .str x] ∧ KindV C H v t ∧ x ∈ namesT t ∧ Q .non H
theorem ok_needop (O_in : OkIn P w K mg base C 1 ["self", "x"] (sp_cont C)) (D : DfM K C "_need_operation" "Kind._need_operation" s_needop ["self", "name"]) : OkM P w K mg base C "_need_operation" 2 ["self", "name"] (sp_needop C) := by
  refine D.ok sc_needop (fun vs H Q E h => ?_) (fun f cdv A outer s H vs Q E hr h => ?_)
  · obtain ⟨v, t, x, rfl, _⟩ := h
    rfl
  · obtain ⟨v, t, x, rfl, hk, hx, q⟩ := h
    obtain ⟨a, dx, d, kvs, rfl, ha, _⟩ := id hk
    refine ⟨_, pss_one (ps_if (pt_cmpR (O_in.notIn hr) (pv 1) (pv 0) rfl) (pss_one ps_never) pss_nil), ?_⟩
    refine ⟨_, rfl, _, rfl, a, dx, _, rfl, ha, _, t, x, rfl, hk, _, rfl, _, rfl, ?_⟩
    refine ifF (by rw [decide_eq_true hx]; rfl) q
abbrev s_after : Stmt := inClass (top 19) 4
theorem sc_after : FnScope ["self", "state", "name"] ["self", "state", "name"] (defScope s_after) := ⟨rfl, rfl, rfl, by decide +kernel, rfl, by decide +kernel, by decide +kernel⟩
def sp_after (C : Addr) : Sp := fun vs H Q _ => ∃ (v : V) (t : Tab) (s : Nat) (x : Str) (r : Row) (p : Int × Int), vs = [v, .int (s : Int), .str x] ∧ KindV C H v t ∧ (x, r) ∈ t ∧ r[s]? = some p ∧ ∀ u, PairV H u p → Q u H
theorem ok_after (B : Bt mg) (T : Kc K C) (O_need_number : Ok P w K mg base "need_number" 2 ["value", "least", "most"] sp_need) (OM_need_operation : OkM P w K mg base C "_need_operation" 2 ["self", "name"] (sp_needop C))
    (D : DfM K C "after" "Kind.after" s_after ["self", "state", "name"]) : OkM P w K mg base C "after" 3 ["self", "state", "name"] (sp_after C) := by
  refine D.ok sc_after (fun vs H Q E h => ?_) (fun f cdv A outer s H vs Q E hr h => ?_)
  · obtain ⟨v, t, s, x, r, p, rfl, _⟩ := h
    rfl
  · obtain ⟨v, t, st, x, r, p, rfl, hk, hm, hp, q⟩ := h
    obtain ⟨a, dx, d, kvs, rfl, ha, hd, ht, hok, nd, hst⟩ := id hk
    have hu := hu_of hr
    have hlt : st < r.length := (List.getElem?_eq_some_iff.mp hp).1
    have hsz : r.length = sizeT t := size_of_ok hok _ hm
    have hin : x ∈ namesT t := List.mem_map.mpr ⟨_, hm, rfl⟩
    obtain ⟨rv, hv, b, rs, rfl, hb, hrs⟩ := tab_look ht nd hm
    obtain ⟨u, hu', hpu⟩ := paired_ix hrs hp
    refine ⟨_, pss_cons (ps_expr (O_need_number.call hr (ha := pa_cons (pv 1) (pa_cons (pe_int) (pa_cons (pe_op op_sub (pe_fld (pv 0) rfl) (pe_int)) (pa_nil))))))
      (pss_cons (ps_expr (OM_need_operation.call hr T.cl (he := pv 0) (ha := pa_cons (pv 2) (pa_nil))))
      (pss_one (ps_ret (pe_ix (ixTK (K := K)) (pe_dget hu (pe_fld (pv 0) rfl) (pv 2) (fun _ _ => rfl)) (pv 1) (fun _ _ => rfl))))), ?_⟩
    refine ⟨_, rfl, _, rfl, a, C, dx, _, _, rfl, ha, T.cl, T.nS, kf_S _ _, _, _, rfl, rfl, st, 0, (sizeT t : Int) - 1, rfl, by omega, by omega, ?_⟩
    refine ⟨_, rfl, a, dx, _, rfl, ha, kf_no _ _, _, rfl, _, t, x, rfl, hk, hin, ?_⟩
    have hg := DGet.k (k := Sum.inr x) hd
    rw [hv] at hg
    refine ⟨_, rfl, a, C, dx, _, _, rfl, ha, T.cl, T.nT, kf_T _ _, _, rfl, d, _, rfl, hg, _, rfl, b, rs, st, u, rfl, rfl, SqT.of hb, atI_nat hu', q u hpu⟩
abbrev s_names : Stmt := inClass (top 19) 2
theorem sc_names : FnScope ["self"] ["self"] (defScope s_names) := ⟨rfl, rfl, rfl, by decide +kernel, rfl, by decide +kernel, by decide +kernel⟩
def sp_names (C : Addr) : Sp := fun vs H Q _ => ∃ (v : V) (t : Tab), vs = [v] ∧ KindV C H v t ∧ ∀ p, H p = none → Q (.ref p) (upd H p (.tup ((namesT t).map V.str)))
end
end Tm

/-! tuple(d), d a dict: its keys -/
namespace TmD
open PySem PySem.Spec PyProof.Rows PySem.W
section
variable {prog : Program} {w : World} {A : Around} {E : Value → Shared → Prop} {s : Shared} {T : String} {r d : Addr} {n : Nat} {Pd : Nat → Value → Prop} {OK : Heap → Prop}
abbrev emptyL : Obj := { cls := .type "list", data := .seq ([] : List Value).toArray }
theorem gather (K : KdlSrc prog w T r d n Pd OK) (hh : A.handled = none) (hok : OK s.heap) (hn : n ≤ sizeLine) {Q : List Value → Shared → Prop}
    (hQ : ∀ (h' : Heap) (tk : Nat) (acc : Array Value), (∀ b o, s.heap.get? b = some o → h'.get? b = some o) → ItemsOf Pd acc n → Q acc.toList { s with heap := h', toks := tk }) :
    wpAny (model prog w) A (collect (.ref r)) Q E s := by
  unfold collect
  refine wpAny_bind (wpAny_runValue (codeAny_builtin F.entry_proto_collect ?_))
  rw [Around.under_plainId F.plain_proto_collect _]
  show wpAny _ A.in1 (newList [] >>= fun l => again (.builtin "list.__iadd__" ⟨[l, .ref r], []⟩)) _ _ s
  refine wpAny_bind (wpAny_newObj_type ?_)
  refine wpAny_pure ⟨plainId_quiet F.plain_list_iadd _, codeAny_builtin F.entry_list_iadd ?_⟩
  rw [Around.under_plainId F.plain_list_iadd _]
  generalize hs1 : ({ s with heap := s.heap.push emptyL } : Shared) = s1
  have e1 : s1.heap = s.heap.push emptyL := by rw [← hs1]
  have old : ∀ b o, s.heap.get? b = some o → s1.heap.get? b = some o := fun b o q => by rw [e1]; exact Heap.get?_push_of_some _ q
  have lt := K.there _ hok
  have hS : s1.heap.get? s.heap.objs.size = some { cls := .type "list", data := .seq #[] 0 } := by rw [e1]; exact Heap.get?_push_size _ rfl
  have run := kdl_extend (A := A) (s := s1) (R := fun rr s' => rr = .ok (.ret (.ref s.heap.objs.size)) ∧ ∃ (h' : Heap) (tk : Nat) (acc : Array Value) (c' : Nat), s' = { s with heap := h', toks := tk } ∧
      (∀ b o, s.heap.get? b = some o → h'.get? b = some o) ∧ h'.get? s.heap.objs.size = some { cls := .type "list", dict := none, data := .seq acc c', slots := #[] } ∧ ItemsOf Pd acc n)
    K hh (K.keep _ _ hok fun b _ o q => old b o q) s.heap.objs.size (Nat.ne_of_gt lt.1) (Nat.ne_of_gt lt.2) (.ref s.heap.objs.size) 0 hS
    (fun h' tk acc c' hk e hi => ⟨rfl, h', tk, acc, c', by rw [← hs1], fun b o q => hk b o (Nat.ne_of_lt (Heap.lt_size q)) (old b o q), e, hi⟩) hn
  refine wpAny_mono run (fun fin s' h => ?_) (fun e s' h => absurd h.1 (by simp))
  cases fin with
  | done f =>
    obtain ⟨e, h', tk, acc, c', rfl, hk, hS', hi⟩ := h
    cases e
    show wpAny _ A (load s.heap.objs.size >>= _) _ _ _
    exact wpAny_bind (wpAny_load hS' (wpAny_pure (hQ h' tk acc hk hi)))
  | again c' =>
    refine ⟨h.1, codeAny_mono h.2 fun rr s'' z => ?_⟩
    obtain ⟨rfl, h', tk, acc, c', rfl, hk, hS', hi⟩ := z
    show wpAny _ A (load s.heap.objs.size >>= _) _ _ _
    exact wpAny_bind (wpAny_load hS' (wpAny_pure (hQ h' tk acc hk hi)))
theorem new_tuple (K : KdlSrc prog w T r d n Pd OK) (hh : A.handled = none) (hok : OK s.heap) (hn : n ≤ sizeLine) {Q₁ : Value → Shared → Prop}
    (hq : ∀ (h' : Heap) (tk : Nat) (acc : Array Value), (∀ b o, s.heap.get? b = some o → h'.get? b = some o) → ItemsOf Pd acc n → Q₁ (.ref h'.objs.size) { s with heap := h'.push { cls := .type "tuple", data := .seq acc }, toks := tk }) :
    codeAny (model prog w) A (.call (.builtin "tuple.__new__") ⟨[.type "tuple", .ref r], []⟩) (wants Q₁ E) s := by
  refine codeAny_of_tree ?_
  show wpAny _ A.in1 (do checkBuiltinCall "tuple.__new__" ⟨[.type "tuple", .ref r], []⟩; again (.builtin "tuple.__new__" ⟨[.type "tuple", .ref r], []⟩)) _ _ s
  refine wpAny_bind (wpAny_of_eq (F.newCall_tuple_1 _) (wpAny_pure ⟨plainId_quiet F.plain_tuple_new _, codeAny_builtin F.entry_tuple_new ?_⟩))
  rw [Around.under_plainId F.plain_tuple_new _]
  have a1 := sub_tuple_self
  have a2 := init_tuple_lookup
  have a3 := madeHere_tuple
  have a4 : s.TypeIs (.ref r) T := K.type s hok
  have a5 : A.in1.handled = none := hh
  wp_walk using wpAny_typeOf a4, gather (A := A.in1) K a5 hok hn
  rw [if_neg (by rw [K.notTuple]; decide)]
  wp_walk using gather (A := A.in1) K a5 hok hn
  intro h' tk acc hk hacc
  have ea : acc.toList.toArray = acc := by simp
  have hz : acc.size ≤ sizeLine := by rw [hacc.1]; exact hn
  show wpAny _ _ (Builtin.Tuple.tupleExact acc.toList.toArray >>= fun v => ret v) _ _ _
  rw [ea]
  unfold Builtin.Tuple.tupleExact
  exact wpAny_bind (wpAny_newObj_type (wpAny_pure (hq h' tk acc hk hacc)) hz)
theorem call_tuple_src (K : KdlSrc prog w T r d n Pd OK) (hh : A.handled = none) (hok : OK s.heap) (hn : n ≤ sizeLine) {Q : Value → Shared → Prop}
    (hq : ∀ (h' : Heap) (tk : Nat) (acc : Array Value), (∀ b o, s.heap.get? b = some o → h'.get? b = some o) → ItemsOf Pd acc n → Q (.ref h'.objs.size) { s with heap := h'.push { cls := .type "tuple", data := .seq acc }, toks := tk }) :
    wpAny (model prog w) A (call (.type "tuple") [.ref r]) Q E s := by
  have made := new_tuple (A := A.in1) (E := E) K hh hok hn (Q₁ := fun obj s₁ => s₁.TypeIs obj "tuple" ∧ Q obj s₁) fun h' tk acc hk hacc => ⟨⟨_, Heap.get?_push_size _ rfl, rfl⟩, hq h' tk acc hk hacc⟩
  refine callType_codes F.called_tuple (F.typeCall_tuple_1 _) F.entry_object_init made fun obj s₁ z => ?_
  exact ⟨z.1, F.args_object_init_2 obj _, object_init_meets F.called_tuple.init.lookup F.called_tuple.made (by decide) prog w A.in1 _ s₁ ⟨z.1, rfl, z.2⟩⟩
end
end TmD
namespace Tm
open PySem PySem.Spec PyProof.Rows L2
theorem vals_keys {prog : Program} {w : World} {kvs : List (L2.Key × V)} {vs : List (L2.Key × Value)} (kv : KV kvs vs) (acc : List Value) (hl : acc.length = vs.length) (h : ∀ (i : Nat) (v : Value), acc[i]? = some v → ∃ k x, vs[i]? = some (k, x) ∧ (mixKind prog w).is k v = true) :
    Vals (kvs.map fun e => kV e.1) acc := by
  induction kv generalizing acc with
  | nil =>
    cases acc with
    | nil => exact .nil
    | cons a r => simp at hl
  | cons r t ih =>
    cases acc with
    | nil => simp at hl
    | cons a r' =>
      obtain ⟨k, x, e, hk⟩ := h 0 a rfl
      simp only [List.getElem?_cons_zero, Option.some.injEq] at e
      refine .cons ?_ (ih r' (by simpa using hl) fun i v hv => by simpa using h (i + 1) v (by simpa using hv))
      show RelV (kV _) a
      rw [r.1, e]
      exact relV_key (show keyIs k a = true from hk)
/-- tuple(d) -/
theorem tupleD {X : Cx} (hc : X.calm = true := by rfl) : CallR X (.type "tuple") (fun xs H Q => ∃ (d : Addr) (kvs : List (L2.Key × V)), xs = [.ref d] ∧ H d = some (.dK kvs) ∧ ∀ p, H p = none → Q (.ref p) (upd H p (.tup (kvs.map fun e => kV e.1)))) := by
  intro pins s σ H xs us Q I r h
  obtain ⟨d, kvs, rfl, hd, q⟩ := h
  obtain ⟨u, rfl, ru⟩ := vals1 r
  have eu : u = Value.ref d := ru
  subst eu
  obtain ⟨hz, sys, vs, kv, hdo⟩ := I.hok d _ hd
  obtain ⟨ep, hat⟩ := hdo.dictAt
  have lk : kvs.length = vs.length := Paired.length kv
  refine TmD.call_tuple_src (PySem.W.kdl_dict (knd := mixKind X.prog X.w) (kvs := vs) (ep := ep) sys) (I.ok.hd hc) hat (by rw [← lk]; exact hz) fun h' tk acc hk hacc => ?_
  have I1 : Inv X pins σ H { s with heap := h', toks := tk } := I.kept hk
  have hv : Vals (kvs.map fun e => kV e.1) acc.toList := vals_keys kv acc.toList (by rw [Array.length_toList]; exact hacc.1) fun i v hv => hacc.2 i v (by rw [← Array.getElem?_toList]; exact hv)
  have ea : acc.toList.toArray = acc := by simp
  have I2 : Inv X pins σ (upd H h'.objs.size (.tup (kvs.map fun e => kV e.1))) { s with heap := h'.push { cls := .type "tuple", data := .seq acc.toList.toArray }, toks := tk } :=
    I1.laid (t' := tk) (fun b o e => Heap.get?_push_of_some _ e) (Nat.le_refl _) (show ObjOk X.prog X.w _ _ _ (.tup _) from ⟨by rw [List.length_map]; exact hz, acc.toList, hv, IsTup.new _ _⟩)
  rw [ea] at I2
  exact ⟨.ref h'.objs.size, _, I2, rfl, q _ (I1.hok.fresh (Nat.le_refl _))⟩
local macro_rules | `(tactic| walk_at "x") => `(tactic| dsimp only [tNext, tRet, tSeq, tCB, tCons, tNil, tAsg, tDrop, sFld])
section
variable {P : Program} {w : World} {K : PySem.W.Frag} {mg : Str → Option Value} {base : Heap} {C : Addr}
theorem ok_names (B : Bt mg) (T : Kc K C) (D : DfP K C "names" "Kind.names" s_names) : OkP P w K mg base C "names" 1 (sp_names C) := by
  refine D.ok sc_names (fun vs H Q E h => ?_) (fun f cdv A outer s H vs Q E hr h => ?_)
  · obtain ⟨v, t, rfl, _⟩ := h
    rfl
  · obtain ⟨v, t, rfl, ⟨a, dx, d, kvs, rfl, ha, hd, ht, hok, nd, hst⟩, q⟩ := h
    refine ⟨_, pss_one (ps_ret (pe_callTy tupleD (by rfl) B.tuple (by decide +kernel) (pa_cons (pe_fld (pv 0) rfl) pa_nil))), ?_⟩
    refine ⟨_, rfl, a, C, dx, _, _, rfl, ha, T.cl, T.nT, kf_T _ _, d, kvs, rfl, hd, fun p hp => ?_⟩
    have e : (kvs.map fun e => kV e.1) = (namesT t).map V.str := by
      have h1 := congrArg (List.map kV) (tabV_keys ht)
      rw [List.map_map, List.map_map] at h1
      exact h1
    rw [e]
    exact q p hp
end
end Tm

namespace Tm
open PySem PySem.Spec PyProof.Rows L2
local macro_rules | `(tactic| walk_at "x") => `(tactic| dsimp only [tNext, tRet, tSeq, tCB, tCons, tNil, tAsg, tDrop, sFld])
/-! ### the tables of the made kinds -/
def letr (word : Str) (i : Nat) : Str := word ++ (⟨#[97 + i]⟩ : Str)
def letT (word : Str) (rows : List Row) : Tab := rows.zipIdx.map fun z => (letr word z.2, z.1)
def cellT (n : Nat) : Tab := letT "put" ((List.range n).map fun (v : Nat) => List.replicate n ((v : Int), (0 : Int)))
def swapT (n : Nat) : Tab := letT "swap" ((List.range n).map fun (v : Nat) => (List.range n).map fun (s : Nat) => ((v : Int), (s : Int)))
def highT (n : Nat) : Tab := letT "raise" ((List.range n).map fun (l : Nat) => (List.range n).map fun (s : Nat) => ((if (l : Int) > (s : Int) then (l : Int) else (s : Int)), (0 : Int)))
def keptR (n : Nat) : Row := (List.range n).map fun (i : Nat) => (1 + (i : Int), 1 + (i : Int))
def slotT (n : Nat) : Tab := letT "set" ((keptR n).map fun p => p :: keptR n)
def fadeS (s n : Int) : Int := if s = n then 2 * n + 1 else if 2 * n + 1 < s + 1 then 2 * n + 1 else s + 1
def laterR (n : Nat) : Row := (List.range (2 * n + 1)).map fun (i : Nat) => (fadeS (1 + (i : Int)) n, (0 : Int))
def fadeT (n : Nat) : Tab := letT "set" [(1, 0) :: laterR n, ((n : Int) + 1, 0) :: laterR n]
def adderT (n : Nat) : Tab := [("add", (List.range n).map fun (s : Nat) => (((s : Int) + 1) % (n : Int), (s : Int)))]
def flagT : Tab := [("set", [(1, 0), (1, 1)])]
structure Gm (mg : Str → Option Value) : Prop where
  LETTERS : GV mg "LETTERS" (.str (PySem.Str.ofString "abcdefgh"))
theorem letters_at : ∀ k, k < 8 → (PySem.Str.ofString "abcdefgh").cps.toList[k]? = some (97 + k) := by decide +kernel
theorem paired_mapR {α β γ : Type} {F : α → γ → Prop} (f : β → γ) : ∀ {xs : List α} {ys : List β}, Paired (fun x y => F x (f y)) xs ys → Paired F xs (ys.map f)
  | _, _, .nil => .nil
  | _, _, .cons r t => .cons r (paired_mapR f t)
theorem paired_unmapR {α β γ : Type} {F : α → γ → Prop} (f : β → γ) : ∀ {xs : List α} {ys : List β}, Paired F xs (ys.map f) → Paired (fun x y => F x (f y)) xs ys
  | [], [], _ => .nil
  | _ :: _, [], h => by cases h
  | [], _ :: _, h => by cases h
  | _ :: _, _ :: _, .cons r t => .cons r (paired_unmapR f t)
/-! ### tuples made on the way -/
section
variable {α : Type} {K : PySem.W.Frag} {σ : L2.St} {H : Hp} {ta tb te : TE} {vs : List Nat} {j : Nat}
theorem ev_pair {x y : Int} (ha : Ev ta σ H fun v _ => v = .int x) (hb : ∀ H1, Same H H1 → Ev tb σ H1 fun v _ => v = .int y) : Ev (tTup (tCons ta (tCons tb tNil))) σ H (fun v H1 => PairV H1 v (x, y)) := fun Q q =>
  ha _ fun v H1 e1 h1 => hb H1 e1 _ fun u H2 e2 h2 => ⟨by show 2 ≤ sizeLine; decide, fun p hp => q _ _ (e1.trans (e2.trans (same_new hp))) ⟨p, rfl, by rw [upd_same, h1, h2]⟩⟩
/-- tuple(a new list of pairs) -/
theorem ev_rowOf {zs : List α} {f : α → Int × Int} (h : Ev te σ H fun v H1 => ∃ p ys, v = .ref p ∧ H1 p = some (.lst ys) ∧ Paired (fun v z => PairV H1 v (f z)) ys zs) :
    Ev (tCB (fun xs H Q => ∃ p ys, xs = [.ref p] ∧ ((SqL K H p ys ∧ ∀ l, H l = none → Q (.ref l) (upd H l (.tup ys))) ∨ (SqT K H p ys ∧ Q (.ref p) H))) (tCons te tNil)) σ H (fun v H1 => RowV H1 v (zs.map f)) := fun Q q =>
  h _ fun v H1 e1 hv => by
    obtain ⟨p, ys, rfl, hl, hP⟩ := hv
    exact ⟨p, ys, rfl, .inl ⟨SqL.of hl, fun l hl' => q _ _ (e1.trans (same_new hl')) ⟨l, ys, rfl, upd_same, paired_mapR f (Paired.mapP hP fun _ _ r => r.mono (tups_of (same_new hl')))⟩⟩⟩
theorem range_at {n i : Nat} {z : Nat} (h : (List.range n)[i]? = some z) : z = i ∧ i < n := by
  have hl := (List.getElem?_eq_some_iff.mp h).1
  rw [List.length_range] at hl
  rw [List.getElem?_range hl] at h
  exact ⟨(Option.some.inj h).symm, hl⟩
/-- [e for x in range(n)], a row of pairs -/
theorem ev_lcR {ta' : TA} {n : Nat} (h : EvA ta' σ H fun l _ => l = [.int (n : Int)]) (hn : n ≤ 1000) (R : Nat → V → Hp → Prop) (hw : ∀ x, wipe ((wipe σ vs).set j (some x)) vs = wipe σ vs) (hR : ∀ z v H H', TupS H H' → R z v H → R z v H')
    (hs : ∀ (i : Nat) H1, i < n → Same H H1 → Ev te ((wipe σ vs).set j (some (.int (i : Int)))) H1 (R i)) :
    Ev (tLc (iRng1 ta') (gName j) tYes te vs) σ H (fun v H1 => ∃ p ys, v = .ref p ∧ H1 p = some (.lst ys) ∧ Paired (fun v z => R z v H1) ys (List.range n)) := fun Q q =>
  lc_runR h (by omega) (List.range n) (by rw [List.length_range]; omega) (fun _ => true) R (by rw [List.length_range]; omega) hw hR
    (fun i z x H1 hi hx e => ⟨evt_yes, fun _ H3 e3 => by
      obtain ⟨rfl, hlt⟩ := range_at hi
      rw [hx]
      exact hs z H3 hlt (e.trans e3)⟩)
    (fun p H1 ys hp e hl hP => q _ _ e ⟨p, ys, rfl, hl, by rw [filter_all] at hP; exact hP⟩)
theorem ev_lcR2 {ta' : TA} {lo m : Int} {n : Nat} (h : EvA ta' σ H fun l _ => l = [.int lo, .int m]) (hlo : 0 ≤ lo ∧ lo ≤ 1000) (hm : m = lo + n) (hn : n ≤ 1000) (R : Nat → V → Hp → Prop) (hw : ∀ x, wipe ((wipe σ vs).set j (some x)) vs = wipe σ vs) (hR : ∀ z v H H', TupS H H' → R z v H → R z v H')
    (hs : ∀ (i : Nat) H1, i < n → Same H H1 → Ev te ((wipe σ vs).set j (some (.int (lo + (i : Int))))) H1 (R i)) :
    Ev (tLc (iRng2 ta') (gName j) tYes te vs) σ H (fun v H1 => ∃ p ys, v = .ref p ∧ H1 p = some (.lst ys) ∧ Paired (fun v z => R z v H1) ys (List.range n)) := fun Q q =>
  lc_runR2 h (by omega) (List.range n) (by rw [List.length_range]; omega) (fun _ => true) R (by rw [List.length_range]; omega) hw hR
    (fun i z x H1 hi hx e => ⟨evt_yes, fun _ H3 e3 => by
      obtain ⟨rfl, hlt⟩ := range_at hi
      rw [hx]
      exact hs z H3 hlt (e.trans e3)⟩)
    (fun p H1 ys hp e hl hP => q _ _ e ⟨p, ys, rfl, hl, by rw [filter_all] at hP; exact hP⟩)
theorem lcR_go {Q : VK} {ta' : TA} {n : Nat} (h : EvA ta' σ H fun l _ => l = [.int (n : Int)]) (hn : n ≤ 1000) (R : Nat → V → Hp → Prop) (hw : ∀ x, wipe ((wipe σ vs).set j (some x)) vs = wipe σ vs) (hR : ∀ z v H H', TupS H H' → R z v H → R z v H')
    (hs : ∀ (i : Nat) H1, i < n → Same H H1 → Ev te ((wipe σ vs).set j (some (.int (i : Int)))) H1 (R i))
    (hq : ∀ p H1 ys, Same H H1 → H1 p = some (.lst ys) → Paired (fun v z => R z v H1) ys (List.range n) → Q (.ref p) H1) : tLc (iRng1 ta') (gName j) tYes te vs σ H Q :=
  ev_lcR h hn R hw hR hs Q fun v H1 e hv => by
    obtain ⟨p, ys, rfl, hl, hP⟩ := hv
    exact hq p H1 ys e hl hP
theorem lcR2_go {Q : VK} {ta' : TA} {lo m : Int} {n : Nat} (h : EvA ta' σ H fun l _ => l = [.int lo, .int m]) (hlo : 0 ≤ lo ∧ lo ≤ 1000) (hm : m = lo + n) (hn : n ≤ 1000) (R : Nat → V → Hp → Prop) (hw : ∀ x, wipe ((wipe σ vs).set j (some x)) vs = wipe σ vs) (hR : ∀ z v H H', TupS H H' → R z v H → R z v H')
    (hs : ∀ (i : Nat) H1, i < n → Same H H1 → Ev te ((wipe σ vs).set j (some (.int (lo + (i : Int))))) H1 (R i))
    (hq : ∀ p H1 ys, Same H H1 → H1 p = some (.lst ys) → Paired (fun v z => R z v H1) ys (List.range n) → Q (.ref p) H1) : tLc (iRng2 ta') (gName j) tYes te vs σ H Q :=
  ev_lcR2 h hlo hm hn R hw hR hs Q fun v H1 e hv => by
    obtain ⟨p, ys, rfl, hl, hP⟩ := hv
    exact hq p H1 ys e hl hP
end
section
variable {P : Program} {w : World} {K : PySem.W.Frag} {mg : Str → Option Value} {base : Heap} {C : Addr}
/-! ### _lettered -/
abbrev s_lettered : Stmt := top 23
theorem sc_lettered : FnScope ["word", "rows", "index", "row"] ["word", "rows"] (defScope s_lettered) := ⟨rfl, rfl, rfl, by decide +kernel, rfl, by decide +kernel, by decide +kernel⟩
def sp_lettered (C : Addr) : Sp := fun vs H Q _ => ∃ (word : Str) (a : Addr) (xs : List V) (rows : List Row), vs = [.str word, .ref a] ∧ H a = some (.lst xs) ∧ Paired (RowV H) xs rows ∧ word.length ≤ 100 ∧ okTab (letT word rows) = true ∧ (namesT (letT word rows)).Nodup ∧
  ∀ v H' t', Same H H' → KindV C H' v t' → t'.Perm (letT word rows) → Q v H'
theorem zip_at {rows : List Row} {k : Nat} {z : Row × Nat} (h : rows.zipIdx[k]? = some z) : z.2 = k ∧ rows[k]? = some z.1 := by
  rw [List.getElem?_zipIdx] at h
  cases e : rows[k]? with
  | none => rw [e] at h; cases h
  | some r =>
    rw [e] at h
    have := Option.some.inj h
    rw [← this]
    exact ⟨Nat.zero_add _, rfl⟩
theorem ok_lettered (B : Bt mg) (G : Gm mg) (OC_Kind : OkC P w K mg base "Kind" C 5 ["self", "operations"] (sp_init C)) (D : Df K mg "_lettered" s_lettered ["word", "rows"]) : Ok P w K mg base "_lettered" 7 ["word", "rows"] (sp_lettered C) := by
  refine D.ok sc_lettered (fun vs H Q E h => ?_) (fun f cdv A outer s H vs Q E hr h => ?_)
  · obtain ⟨word, a, xs, rows, rfl, _⟩ := h
    rfl
  · obtain ⟨word, a, xs, rows, rfl, ha, hx, hwl, hok, nd, q⟩ := h
    have hlen := Paired.length hx
    have h6 : rows.length ≤ 6 := by
      have := hok
      unfold okTab at this
      simp only [Bool.and_eq_true, decide_eq_true_eq] at this
      have h2 := this.1.1.1.2
      unfold letT at h2
      rw [List.length_map, List.length_zipIdx] at h2
      exact h2
    refine ⟨_, pss_one (ps_ret (OC_Kind.make hr (ha := pa_cons (pe_dc (own := [("index", 2), ("row", 3)]) (g := gTup K 2 (gCons (gName 2) (gCons (gName 3) (gNil)))) (tt := tYes) rfl sc_lettered.nd (pi_enum (by rfl) B.enumerate (pa_cons (pv 1) (pa_nil))) (blkOk_by (own := [("index", 2), ("row", 3)]) (N := ["word", "rows", "index", "row"]) (sc := defScope s_lettered) (by decide +kernel)) (fun _ _ _ _ _ => pg_tup (by rfl) (pgs_cons (pg_name (i := 2) sc_lettered.nd rfl (.inl rfl)) (pgs_cons (pg_name (i := 3) sc_lettered.nd rfl (.inl rfl)) (pgs_nil)))) (fun _ _ _ _ _ => pts_nil) (fun _ _ _ _ _ => pe_op op_add_str (pv 0) (pe_ix ix_str (G.LETTERS.pe) (pv 2) (fun _ _ => rfl))) (fun _ _ _ _ _ => pv 3)) (pa_nil)))), ?_⟩
    dsimp only [tRet, tMake, tCons, tNil]
    refine dc_runE (K := K) (xs := xs) (fun Q q => ⟨_, rfl, q _ _ (Same.refl _) ⟨a, rfl, SqL.of ha⟩⟩) rows.zipIdx (by rw [List.length_zipIdx]; exact hlen) (fun _ => true) (fun z => Sum.inr (letr word z.2)) (fun z v H => RowV H v z.1) (by rw [List.length_zipIdx]; omega)
      (by
        have h1 : (rows.zipIdx.map fun z => (Sum.inr (letr word z.2) : L2.Key)) = (namesT (letT word rows)).map Sum.inr := by
          unfold namesT letT
          rw [List.map_map, List.map_map]
          rfl
        rw [h1, List.nodup_iff_pairwise_ne, List.pairwise_map]
        exact (List.nodup_iff_pairwise_ne.mp nd).imp fun h z => h (Sum.inr.inj z)) (by intro _ _; rfl)
      (fun z v H H' e h => h.mono e) (fun k z x H1 hk hx' e => ⟨evt_yes, fun _ H3 e3 => ?_, fun _ H3 e3 => ?_⟩) (fun p H1 kvs hp e hd hP => ?_)
    · obtain ⟨ez, hr'⟩ := zip_at hk
      have hk8 : k < 8 := by have := (List.getElem?_eq_some_iff.mp hr').1; omega
      intro Q q
      refine ⟨_, rfl, _, rfl, _, (k : Int), 97 + k, rfl, rfl, sz_le (by decide), atI_nat (letters_at k hk8), word, _, rfl, rfl, sz_le (by show word.length + 1 ≤ 100000; omega), ?_⟩
      refine q _ _ (Same.refl _) ?_
      rw [ez]
      rfl
    · obtain ⟨ez, hr'⟩ := zip_at hk
      obtain ⟨r, hr2, hrow⟩ := paired_ix2 hx hx'
      rw [hr'] at hr2
      cases hr2
      exact ev_is rfl (hrow.mono (tups_of (e.trans e3)))
    · rw [filter_all] at hP
      have ht : TabV H1 kvs (letT word rows) := paired_mapR _ hP
      exact mk_kind hd ht hok nd fun v H' t' e' hk pm => q v H' t' (e.trans e') hk pm
end
end Tm

namespace Tm
open PySem PySem.Spec PyProof.Rows L2
local macro_rules | `(tactic| walk_at "x") => `(tactic| dsimp only [tNext, tRet, tSeq, tCall, tC, tCons, tNil, tAsg, tDrop, sFld])
theorem cell_ok : ∀ n, n < 7 → 2 ≤ n → okTab (cellT n) = true ∧ (namesT (cellT n)).Nodup := by decide +kernel
theorem swap_ok : ∀ n, n < 7 → 2 ≤ n → okTab (swapT n) = true ∧ (namesT (swapT n)).Nodup := by decide +kernel
theorem high_ok : ∀ n, n < 7 → 2 ≤ n → okTab (highT n) = true ∧ (namesT (highT n)).Nodup := by decide +kernel
theorem slot_ok : ∀ n, n < 7 → 1 ≤ n → okTab (slotT n) = true ∧ (namesT (slotT n)).Nodup := by decide +kernel
theorem fade_ok : ∀ n, n < 6 → 1 ≤ n → okTab (fadeT n) = true ∧ (namesT (fadeT n)).Nodup := by decide +kernel
theorem adder_ok : ∀ n, n < 13 → 2 ≤ n → okTab (adderT n) = true ∧ (namesT (adderT n)).Nodup := by decide +kernel
theorem flag_ok : okTab flagT = true ∧ (namesT flagT).Nodup := by decide +kernel
/-- x = tuple(a new list of pairs), then the rest -/
theorem asg_row {α : Type} {K : PySem.W.Frag} {D : Ends} {σ : L2.St} {H : Hp} {te : TE} {i : Nat} {rest : TS} {zs : List α} {f : α → Int × Int} (h : Ev te σ H fun v H1 => ∃ p ys, v = .ref p ∧ H1 p = some (.lst ys) ∧ Paired (fun v z => PairV H1 v (f z)) ys zs)
    (k : ∀ v H1, Same H H1 → RowV H1 v (zs.map f) → rest D (σ.set i (some v)) H1) :
    tSeq (tAsg (tCB (fun xs H Q => ∃ p ys, xs = [.ref p] ∧ ((SqL K H p ys ∧ ∀ l, H l = none → Q (.ref l) (upd H l (.tup ys))) ∨ (SqT K H p ys ∧ Q (.ref p) H))) (tCons te tNil)) (gName i)) rest D σ H :=
  ev_rowOf (K := K) h _ fun v H1 e hv => k v H1 e hv
theorem paired_rep {α β : Type} {F : α → β → Prop} {x : α} {y : β} (h : F x y) : ∀ n, Paired F (List.replicate n x) (List.replicate n y)
  | 0 => .nil
  | n + 1 => .cons h (paired_rep h n)
section
variable {P : Program} {w : World} {K : PySem.W.Frag} {mg : Str → Option Value} {base : Heap} {C : Addr}
def sp_made (C : Addr) (lo hi : Nat) (T : Nat → Tab) : Sp := fun vs H Q _ => ∃ n : Nat, vs = [.int (n : Int)] ∧ lo ≤ n ∧ n ≤ hi ∧ ∀ v H' t', Same H H' → KindV C H' v t' → t'.Perm (T n) → Q v H'
abbrev NeedNum (P : Program) (w : World) (K : PySem.W.Frag) (mg : Str → Option Value) (base : Heap) := Ok P w K mg base "need_number" 2 ["value", "least", "most"] sp_need
abbrev Lett (P : Program) (w : World) (K : PySem.W.Frag) (mg : Str → Option Value) (base : Heap) (C : Addr) := Ok P w K mg base "_lettered" 7 ["word", "rows"] (sp_lettered C)
/-! ### cells -/
abbrev s_cell : Stmt := top 24
theorem sc_cell_kind : FnScope ["many", "value"] ["many"] (defScope s_cell) := ⟨rfl, rfl, rfl, by decide +kernel, rfl, by decide +kernel, by decide +kernel⟩
theorem ok_cell (B : Bt mg) (O_need_number : NeedNum P w K mg base) (O_lettered : Lett P w K mg base C) (D : Df K mg "cell_kind" s_cell ["many"]) : Ok P w K mg base "cell_kind" 8 ["many"] (sp_made C 2 6 cellT) := by
  refine D.ok sc_cell_kind (fun vs H Q E h => ?_) (fun f cdv A outer s H vs Q E hr h => ?_)
  · obtain ⟨n, rfl, _⟩ := h
    rfl
  · obtain ⟨n, rfl, h2, h6, q⟩ := h
    have hT := cell_ok n (by omega) h2
    refine ⟨_, pss_cons (ps_expr (O_need_number.call hr (ha := pa_cons (pv 0) (pa_cons (pe_int) (pa_cons (pe_int) (pa_nil))))))
      (pss_one (ps_ret (O_lettered.call hr (ha := pa_cons (pe_str) (pa_cons (pe_lc (own := [("value", 1)]) (g := gName 1) (tt := tYes) rfl sc_cell_kind.nd (pi_range1 (by rfl) B.range (pa_cons (pv 0) (pa_nil))) (blkOk_by (own := [("value", 1)]) (N := ["many", "value"]) (sc := defScope s_cell) (by decide +kernel)) (fun _ _ _ _ _ => pg_name (i := 1) sc_cell_kind.nd rfl (.inl rfl)) (fun _ _ _ _ _ => pts_nil) (fun _ _ _ _ _ => pe_op (repTK (K := K)) (pe_tup (pa_cons (pe_tup (pa_cons (pv 1) (pa_cons (pe_int) (pa_nil)))) (pa_nil))) (pv 0))) (pa_nil)))))), ?_⟩
    refine ⟨_, rfl, n, 1, 6, rfl, by omega, by omega, ?_⟩
    walk_at "x"
    refine lcR_go (n := n) (fun Q q => ⟨_, rfl, q _ _ (Same.refl _) rfl⟩) (by omega) (fun i v H => RowV H v (List.replicate n ((i : Int), (0 : Int)))) (by intro _; rfl) (fun z v H H' e h => h.mono e) (fun i H1 hi e Q q => ?_) fun p H1 ys e hl hP => ?_
    · refine ⟨_, rfl, by show 2 ≤ sizeLine; decide, fun p hp => ⟨by show 1 ≤ sizeLine; decide, fun p2 hp2 => ⟨_, rfl, p2, (n : Int), [.ref p], rfl, rfl, SqT.of upd_same, by simp, by omega, by omega, by simp, fun p3 hp3 => ?_⟩⟩⟩
      have hp3' : p3 ≠ p := fun z => by rw [z, upd_ne (fun y => by rw [y, upd_same] at hp2; cases hp2), upd_same] at hp3; cases hp3
      have np2 : p2 ≠ p := fun y => by rw [y, upd_same] at hp2; cases hp2
      refine q _ _ ?_ ⟨p3, _, rfl, upd_same, ?_⟩
      · exact (same_new hp).trans ((same_new hp2).trans (same_new hp3))
      · have er : (List.replicate (n : Int).toNat [V.ref p]).flatten = List.replicate n (V.ref p) := by simp
        rw [er]
        have hpair : PairV (upd (upd (upd H1 p (.tup [.int (i : Int), .int 0])) p2 (.tup [.ref p])) p3 (.tup (List.replicate n (V.ref p)))) (.ref p) ((i : Int), 0) :=
          ⟨p, rfl, by rw [upd_ne hp3'.symm, upd_ne np2.symm, upd_same]⟩
        generalize upd (upd (upd H1 p (.tup [.int (i : Int), .int 0])) p2 (.tup [.ref p])) p3 (.tup (List.replicate n (V.ref p))) = Hn at hpair
        exact paired_rep hpair n
    · exact ⟨"put", p, ys, _, rfl, hl, paired_mapR _ hP, by decide, hT.1, hT.2, fun v H' t' e' hk pm => q v H' t' (e.trans e') hk pm⟩
/-! ### swap and highest kinds: rows of rows -/
abbrev s_swap : Stmt := top 27
theorem sc_swap_kind : FnScope ["many", "value", "state"] ["many"] (defScope s_swap) := ⟨rfl, rfl, rfl, by decide +kernel, rfl, by decide +kernel, by decide +kernel⟩
theorem ok_swap (B : Bt mg) (O_need_number : NeedNum P w K mg base) (O_lettered : Lett P w K mg base C) (D : Df K mg "swap_kind" s_swap ["many"]) : Ok P w K mg base "swap_kind" 8 ["many"] (sp_made C 2 6 swapT) := by
  refine D.ok sc_swap_kind (fun vs H Q E h => ?_) (fun f cdv A outer s H vs Q E hr h => ?_)
  · obtain ⟨n, rfl, _⟩ := h
    rfl
  · obtain ⟨n, rfl, h2, h6, q⟩ := h
    have hT := swap_ok n (by omega) h2
    refine ⟨_, pss_cons (ps_expr (O_need_number.call hr (ha := pa_cons (pv 0) (pa_cons (pe_int) (pa_cons (pe_int) (pa_nil))))))
      (pss_one (ps_ret (O_lettered.call hr (ha := pa_cons (pe_str) (pa_cons (pe_lc (own := [("value", 1)]) (g := gName 1) (tt := tYes) rfl sc_swap_kind.nd (pi_range1 (by rfl) B.range (pa_cons (pv 0) (pa_nil))) (blkOk_by (own := [("value", 1)]) (N := ["many", "value", "state"]) (sc := defScope s_swap) (by decide +kernel)) (fun _ _ _ _ _ => pg_name (i := 1) sc_swap_kind.nd rfl (.inr rfl)) (fun _ _ _ _ _ => pts_nil) (fun _ _ _ _ _ => pe_callTy (tupleK (K := K)) (by rfl) B.tuple (by decide +kernel) (pa_cons (pe_lc (own := [("state", 2)]) (g := gName 2) (tt := tYes) rfl sc_swap_kind.nd (pi_range1 (by rfl) B.range (pa_cons (pv 0) (pa_nil))) (blkOk_by (own := [("state", 2)]) (N := ["many", "value", "state"]) (by rfl)) (fun _ _ _ _ _ => pg_name (i := 2) sc_swap_kind.nd rfl (.inl rfl)) (fun _ _ _ _ _ => pts_nil) (fun _ _ _ _ _ => pe_tup (pa_cons (pv 1) (pa_cons (pv 2) (pa_nil))))) (pa_nil)))) (pa_nil)))))), ?_⟩
    refine ⟨_, rfl, n, 2, 6, rfl, by omega, by omega, ?_⟩
    walk_at "x"
    refine lcR_go (n := n) (fun Q q => ⟨_, rfl, q _ _ (Same.refl _) rfl⟩) (by omega) (fun i v H => RowV H v ((List.range n).map fun s : Nat => ((i : Int), (s : Int)))) (by intro _; rfl) (fun z v H H' e h => h.mono e) (fun i H1 hi e => ?_) fun p H1 ys e hl hP => ?_
    · refine ev_rowOf (f := fun s : Nat => ((i : Int), (s : Int))) ?_
      exact ev_lcR (n := n) (fun Q q => ⟨_, rfl, q _ _ (Same.refl _) rfl⟩) (by omega) _ (by intro _; rfl) (fun z v H H' e h => h.mono e) (fun s H2 hs e2 => ev_pair (ev_is rfl rfl) fun _ _ => ev_is rfl rfl)
    · exact ⟨"swap", p, ys, _, rfl, hl, paired_mapR _ hP, by decide, hT.1, hT.2, fun v H' t' e' hk pm => q v H' t' (e.trans e') hk pm⟩
abbrev s_high : Stmt := top 33
theorem sc_highest_kind : FnScope ["many", "least", "state"] ["many"] (defScope s_high) := ⟨rfl, rfl, rfl, by decide +kernel, rfl, by decide +kernel, by decide +kernel⟩
theorem ok_high (B : Bt mg) (O_need_number : NeedNum P w K mg base) (O_lettered : Lett P w K mg base C) (D : Df K mg "highest_kind" s_high ["many"]) : Ok P w K mg base "highest_kind" 8 ["many"] (sp_made C 2 6 highT) := by
  refine D.ok sc_highest_kind (fun vs H Q E h => ?_) (fun f cdv A outer s H vs Q E hr h => ?_)
  · obtain ⟨n, rfl, _⟩ := h
    rfl
  · obtain ⟨n, rfl, h2, h6, q⟩ := h
    have hT := high_ok n (by omega) h2
    refine ⟨_, pss_cons (ps_expr (O_need_number.call hr (ha := pa_cons (pv 0) (pa_cons (pe_int) (pa_cons (pe_int) (pa_nil))))))
      (pss_one (ps_ret (O_lettered.call hr (ha := pa_cons (pe_str) (pa_cons (pe_lc (own := [("least", 1)]) (g := gName 1) (tt := tYes) rfl sc_highest_kind.nd (pi_range1 (by rfl) B.range (pa_cons (pv 0) (pa_nil))) (blkOk_by (own := [("least", 1)]) (N := ["many", "least", "state"]) (sc := defScope s_high) (by decide +kernel)) (fun _ _ _ _ _ => pg_name (i := 1) sc_highest_kind.nd rfl (.inr rfl)) (fun _ _ _ _ _ => pts_nil) (fun _ _ _ _ _ => pe_callTy (tupleK (K := K)) (by rfl) B.tuple (by decide +kernel) (pa_cons (pe_lc (own := [("state", 2)]) (g := gName 2) (tt := tYes) rfl sc_highest_kind.nd (pi_range1 (by rfl) B.range (pa_cons (pv 0) (pa_nil))) (blkOk_by (own := [("state", 2)]) (N := ["many", "least", "state"]) (by rfl)) (fun _ _ _ _ _ => pg_name (i := 2) sc_highest_kind.nd rfl (.inl rfl)) (fun _ _ _ _ _ => pts_nil) (fun _ _ _ _ _ => pe_tup (pa_cons (pe_callB (call_max2 rfl) (by rfl) B.max (by decide +kernel) (pa_cons (pv 2) (pa_cons (pv 1) (pa_nil)))) (pa_cons (pe_int) (pa_nil))))) (pa_nil)))) (pa_nil)))))), ?_⟩
    refine ⟨_, rfl, n, 2, 6, rfl, by omega, by omega, ?_⟩
    walk_at "x"
    refine lcR_go (n := n) (fun Q q => ⟨_, rfl, q _ _ (Same.refl _) rfl⟩) (by omega) (fun i v H => RowV H v ((List.range n).map fun s : Nat => ((if (i : Int) > (s : Int) then (i : Int) else (s : Int)), (0 : Int)))) (by intro _; rfl) (fun z v H H' e h => h.mono e) (fun i H1 hi e => ?_) fun p H1 ys e hl hP => ?_
    · refine ev_rowOf (f := fun s : Nat => ((if (i : Int) > (s : Int) then (i : Int) else (s : Int)), (0 : Int))) ?_
      exact ev_lcR (n := n) (fun Q q => ⟨_, rfl, q _ _ (Same.refl _) rfl⟩) (by omega) _ (by intro _; rfl) (fun z v H H' e h => h.mono e) (fun s H2 hs e2 => ev_pair (fun Q q => ⟨_, rfl, _, rfl, _, _, rfl, q _ _ (Same.refl _) rfl⟩) fun _ _ => ev_c rfl)
    · exact ⟨"raise", p, ys, _, rfl, hl, paired_mapR _ hP, by decide, hT.1, hT.2, fun v H' t' e' hk pm => q v H' t' (e.trans e') hk pm⟩
/-! ### slots -/
abbrev s_slot : Stmt := top 28
theorem sc_slot_kind : FnScope ["many", "kept", "state", "pair"] ["many"] (defScope s_slot) := ⟨rfl, rfl, rfl, by decide +kernel, rfl, by decide +kernel, by decide +kernel⟩
theorem ok_slot (B : Bt mg) (O_need_number : NeedNum P w K mg base) (O_lettered : Lett P w K mg base C) (D : Df K mg "slot_kind" s_slot ["many"]) : Ok P w K mg base "slot_kind" 8 ["many"] (sp_made C 1 6 slotT) := by
  refine D.ok sc_slot_kind (fun vs H Q E h => ?_) (fun f cdv A outer s H vs Q E hr h => ?_)
  · obtain ⟨n, rfl, _⟩ := h
    rfl
  · obtain ⟨n, rfl, h2, h6, q⟩ := h
    have hT := slot_ok n (by omega) h2
    refine ⟨_, pss_cons (ps_expr (O_need_number.call hr (ha := pa_cons (pv 0) (pa_cons (pe_int) (pa_cons (pe_int) (pa_nil))))))
      (pss_cons (ps_set (i := 1) sc_slot_kind.nd rfl (.inr rfl) (pe_callTy (tupleK (K := K)) (by rfl) B.tuple (by decide +kernel) (pa_cons (pe_lc (own := [("state", 2)]) (g := gName 2) (tt := tYes) rfl sc_slot_kind.nd (pi_range2 (by rfl) B.range (pa_cons (pe_int) (pa_cons (pe_op op_add (pv 0) (pe_int)) (pa_nil)))) (blkOk_by (own := [("state", 2)]) (N := ["many", "kept", "state", "pair"]) (sc := defScope s_slot) (by decide +kernel)) (fun _ _ _ _ _ => pg_name (i := 2) sc_slot_kind.nd rfl (.inl rfl)) (fun _ _ _ _ _ => pts_nil) (fun _ _ _ _ _ => pe_tup (pa_cons (pv 2) (pa_cons (pv 2) (pa_nil))))) (pa_nil))))
      (pss_one (ps_ret (O_lettered.call hr (ha := pa_cons (pe_str) (pa_cons (pe_lc (own := [("pair", 3)]) (g := gName 3) (tt := tYes) rfl sc_slot_kind.nd (pi_tup (pv 1)) (blkOk_by (own := [("pair", 3)]) (N := ["many", "kept", "state", "pair"]) (sc := defScope s_slot) (by decide +kernel)) (fun _ _ _ _ _ => pg_name (i := 3) sc_slot_kind.nd rfl (.inl rfl)) (fun _ _ _ _ _ => pts_nil) (fun _ _ _ _ _ => pe_tup (pa_cons (pv 3) (pa_starK (K := K) (pv 1) (pa_nil))))) (pa_nil))))))), ?_⟩
    refine ⟨_, rfl, n, 1, 6, rfl, by omega, by omega, ?_⟩
    dsimp only
    refine asg_row (f := fun i : Nat => (1 + (i : Int), 1 + (i : Int))) (zs := List.range n) ?_ fun v H1 e1 hv => ?_
    · exact ev_lcR2 (n := n) (lo := 1) (m := (n : Int) + 1) (fun Q q => ⟨_, rfl, _, _, rfl, rfl, q _ _ (Same.refl _) rfl⟩) (by omega) (by omega) (by omega) _ (by intro _; rfl) (fun z v H H' e h => h.mono e) (fun s H2 hs e2 => ev_pair (ev_is rfl rfl) fun _ _ => ev_is rfl rfl)
    obtain ⟨a, xs, rfl, ha, hx⟩ := hv
    have hkl : (keptR n).length = n := by simp [keptR]
    have hlen := Paired.length hx
    rw [List.length_map, List.length_range] at hlen
    walk_at "x"
    refine lc_runT (K := K) (xs := xs) (ev_is rfl ⟨a, rfl, SqT.of ha⟩) (keptR n) (by rw [hkl]; exact hlen) (fun _ => true) (fun z v H => RowV H v (z :: keptR n)) (by rw [hkl]; omega) (by intro _; rfl) (fun z v H H' e h => h.mono e)
      (fun i z v H2 hi y e => ⟨evt_yes, fun _ H3 e3 Q q => ?_⟩) (fun p H2 ys hp e2 hl hP => ?_)
    · obtain ⟨z', hz', hpz⟩ := paired_ix2 hx y
      have hz2 : z' = z := by
        have h0 : (keptR n)[i]? = some z' := hz'
        rw [hi] at h0
        exact (Option.some.inj h0).symm
      subst hz2
      have s3 : Same H1 H3 := e.trans e3
      refine ⟨_, rfl, _, rfl, a, xs, rfl, .inl (SqT.of (s3 _ _ ha)), by show (v :: (xs ++ [])).length ≤ sizeLine; exact sz_le (by simp; omega), fun p hp => q _ _ (same_new hp) ⟨p, _, rfl, upd_same, ?_⟩⟩
      rw [List.append_nil]
      have t4 := (tups_of s3).trans (tups_of (same_new (o := .tup (v :: xs)) hp))
      exact .cons (hpz.mono t4) (Paired.mapP hx fun _ _ r => r.mono t4)
    · rw [filter_all] at hP
      exact ⟨"set", p, ys, _, rfl, hl, paired_mapR _ hP, by decide, hT.1, hT.2, fun v H' t' e' hk pm => q v H' t' (e1.trans (e2.trans e')) hk pm⟩
end
end Tm

namespace Tm
open PySem PySem.Spec PyProof.Rows L2
local macro_rules | `(tactic| walk_at "x") => `(tactic| dsimp only [tNext, tRet, tSeq, tCall, tCB, tC, tCons, tNil, tAsg, tDrop, sFld])
/-! ### the place of a text in a list -/
def idxS : List Str → Str → Nat
  | [], _ => 0
  | w :: ws, x => if w = x then 0 else idxS ws x + 1
theorem idx_ok : ∀ {ws : List Str} {x : Str}, x ∈ ws → ws[idxS ws x]? = some x ∧ ∀ (m : Nat) (z : Str), m < idxS ws x → ws[m]? = some z → z ≠ x
  | [], _, h => by simp at h
  | w :: ws, x, h => by
    by_cases hw : w = x
    · have e : idxS (w :: ws) x = 0 := if_pos hw
      rw [e]
      exact ⟨by simp [hw], fun m z hm => absurd hm (Nat.not_lt_zero _)⟩
    · have e : idxS (w :: ws) x = idxS ws x + 1 := if_neg hw
      have hm : x ∈ ws := (List.mem_cons.mp h).resolve_left (fun z => hw z.symm)
      obtain ⟨h1, h2⟩ := idx_ok hm
      rw [e]
      refine ⟨by simpa using h1, fun m z hlt hz => ?_⟩
      cases m with
      | zero =>
        simp at hz
        rw [← hz]; exact hw
      | succ m => exact h2 m z (by omega) (by simpa using hz)
theorem indexFK {X : Cx} {K : PySem.W.Frag} (hK : X.K = K := by rfl) : MtR X "list.index" (rIndex K) := by subst hK; exact mt_index
theorem pe_bmK {X : Cx} {K : PySem.W.Frag} {T id : String} {r : V → List V → Hp → VK → Prop} {o e : Expr} {es : List Expr} {to : TE} {t : TA} {name : Str} {apos cpos : Pos} (pa : PlainAttrs T) (slot : Slot T name id) (hty : typeOf (.builtin id) = pure (.type "method_descriptor")) (hm : MtR X id r) (ho : PE X o to) (ha : PA X (e :: es) t)
    (hK : X.K = K := by rfl) (hbase : attributeBase o name X.env (eval o X.env) = eval o X.env := by rfl)
    (hfew : ((backTo cpos (starEach (e :: es) X.env)).all (fun x => !x.1) && (backToKw cpos (keywordEach [] X.env)).all (fun x => x.1.isSome) &&
      decide ((e :: es).length + ([] : List Keyword).length + (if ([] : List Keyword).isEmpty then 0 else 1) < 30)) = true := by rfl)
    (hline : (apos.endLine == cpos.line) = true := by rfl) (hs : starEach (e :: es) X.env = (false, eval e X.env) :: starEach es X.env := by rfl) (hp : (backTo cpos (starEach es X.env)).any (·.1) = false := by rfl) :
    PE X (.Call (.Attribute o name apos) (e :: es) [] cpos) (tBM K T r to t) := by subst hK; exact pe_bm pa slot hty hm ho ha hbase hfew hline hs hp
theorem ev_index {K : PySem.W.Frag} {σ : L2.St} {H : Hp} {i : Nat} {te : TE} {a : Addr} {ws : List Str} {x : Str} (hi : σ[i]? = some (some (.ref a))) (ha : H a = some (.lst (ws.map V.str))) (hx : x ∈ ws) (he : Ev te σ H fun v _ => v = .str x) :
    Ev (tBM K "list" (rIndex K) (tVar i) (tCons te tNil)) σ H (fun v _ => v = .int (idxS ws x : Nat)) := fun Q q => by
  refine ⟨_, hi, .inl ⟨rfl, _, SqL.of ha⟩, he _ fun v H1 e1 ev => ?_⟩
  subst ev
  obtain ⟨h1, h2⟩ := idx_ok hx
  refine ⟨a, ws.map V.str, .str x, idxS ws x, .str x, rfl, rfl, SqL.of (e1 _ _ ha), rfl, by simp [List.all_map, flatV], by rw [List.getElem?_map, h1]; rfl, by simp [eqV], fun m z' hm hz => ?_, q _ _ e1 rfl⟩
  rw [List.getElem?_map] at hz
  cases hw : ws[m]? with
  | none => rw [hw] at hz; cases hz
  | some z =>
    rw [hw] at hz
    have ez : V.str z = z' := Option.some.inj hz
    subst ez
    have := h2 m z hm hw
    simp [eqV, this]
/-! ### queues -/
def QW : List Str := ["", "a", "b", "aa", "ab", "ba", "bb"]
def qwords (n : Nat) : List Str := QW.filter fun w => decide (w.length ≤ n)
def longS (n : Nat) (l w : Str) : Str := if w.length < n then w ++ l else w
def joinR (n : Nat) (l : Str) : Row := (qwords n).map fun w => ((idxS (qwords n) (longS n l w) : Nat), (0 : Int))
def leaveR (n : Nat) : Row := (qwords n).map fun w => ((idxS (qwords n) (cutS w (some 1) none) : Nat), (idxS (qwords n) (cutS w none (some 1)) : Nat))
def queueT (n : Nat) : Tab := [("joina", joinR n "a"), ("joinb", joinR n "b"), ("leave", leaveR n)]
theorem queue_ok : ∀ n, n < 3 → 1 ≤ n → okTab (queueT n) = true ∧ (namesT (queueT n)).Nodup := by decide +kernel
theorem q_long : ∀ n, n < 3 → 1 ≤ n → ∀ l ∈ (["a", "b"] : List Str), ∀ w ∈ qwords n, longS n l w ∈ qwords n := by decide +kernel
theorem q_cut : ∀ n, n < 3 → 1 ≤ n → ∀ w ∈ qwords n, cutS w (some 1) none ∈ qwords n ∧ cutS w none (some 1) ∈ qwords n ∧ w.length ≤ 2 := by decide +kernel
theorem q_short : ∀ w ∈ QW, w.length ≤ 2 := by decide +kernel
theorem q_len : ∀ n, n < 3 → (qwords n).length ≤ 7 := by decide +kernel
section
variable {P : Program} {w : World} {K : PySem.W.Frag} {mg : Str → Option Value} {base : Heap} {C : Addr}
abbrev s_join : Stmt := top 32
theorem sc_join_row : FnScope ["words", "many", "letter", "longer", "word"] ["words", "many", "letter"] (defScope s_join) := ⟨rfl, rfl, rfl, by decide +kernel, rfl, by decide +kernel, by decide +kernel⟩
def sp_join : Sp := fun vs H Q _ => ∃ (a : Addr) (n : Nat) (l : Str), vs = [.ref a, .int (n : Int), .str l] ∧ H a = some (.lst ((qwords n).map V.str)) ∧ 1 ≤ n ∧ n ≤ 2 ∧ l ∈ (["a", "b"] : List Str) ∧ ∀ v H', Same H H' → RowV H' v (joinR n l) → Q v H'
theorem ok_join (B : Bt mg) (D : Df K mg "_join_row" s_join ["words", "many", "letter"]) : Ok P w K mg base "_join_row" 1 ["words", "many", "letter"] sp_join := by
  refine D.ok sc_join_row (fun vs H Q E h => ?_) (fun f cdv A outer s H vs Q E hr h => ?_)
  · obtain ⟨a, n, l, rfl, _⟩ := h
    rfl
  · obtain ⟨a, n, l, rfl, ha, h1, h2, hl, q⟩ := h
    have hlong := q_long n (by omega) h1 l hl
    have hsh : ∀ w ∈ qwords n, w.length ≤ 2 := fun w hw => q_short w (List.mem_filter.mp hw).1
    have hl1 : l.length = 1 := by
      rcases List.mem_cons.mp hl with z | z
      · rw [z]; decide +kernel
      · rcases List.mem_cons.mp z with z | z
        · rw [z]; decide +kernel
        · simp at z
    have hql := q_len n (by omega)
    refine ⟨_, pss_cons (ps_setLc (i := 3) (own := [("word", 4)]) (g := gName 4) (tt := tYes) rfl sc_join_row.nd rfl rfl (sw_true rfl rfl rfl (by decide +kernel)) (pi_list (pv 0)) (blkOk_by (own := [("word", 4)]) (N := ["words", "many", "letter", "longer", "word"]) (sc := defScope s_join) (by decide +kernel)) (fun _ _ _ _ _ => pg_name (i := 4) sc_join_row.nd rfl (.inl rfl)) (fun _ _ _ _ _ => pts_nil) (fun _ _ _ _ _ => pe_ifExp (pt_cmpR op_lt (pe_callB call_len_str (by rfl) B.len (by decide +kernel) (pa_cons (pv 4) (pa_nil))) (pv 1) (nomark _)) (pe_op op_add_str (pv 4) (pv 2)) (pv 4)))
      (pss_one (ps_ret (pe_callTy (tupleK (K := K)) (by rfl) B.tuple (by decide +kernel) (pa_cons (pe_lc (own := [("word", 4)]) (g := gName 4) (tt := tYes) rfl sc_join_row.nd (pi_list (pv 3)) (blkOk_by (own := [("word", 4)]) (N := ["words", "many", "letter", "longer", "word"]) (sc := defScope s_join) (by decide +kernel)) (fun _ _ _ _ _ => pg_name (i := 4) sc_join_row.nd rfl (.inl rfl)) (fun _ _ _ _ _ => pts_nil) (fun _ _ _ _ _ => pe_tup (pa_cons (pe_bmK (K := K) PySem.F.plainAttrs_list PySem.F.slot_list_index PySem.F.type_list_index (indexFK (K := K)) (pv 0) (pa_cons (pv 4) (pa_nil))) (pa_cons (pe_int) (pa_nil))))) (pa_nil))))), ?_⟩
    dsimp only [tSeq, tAsg]
    refine lc_runL (K := K) (xs := (qwords n).map V.str) (ev_is rfl ⟨a, rfl, SqL.of ha⟩) (qwords n) (List.length_map ..) (fun _ => true) (fun w v _ => v = V.str (longS n l w)) (by omega) (by intro _; rfl) (fun _ _ _ _ _ h => h)
      (fun i w v H1 hi hx e => ⟨evt_yes, fun _ H3 e3 Q q => ?_⟩) (fun p H1 ys hp e hls hP => ?_)
    · rw [List.getElem?_map, hi] at hx
      have ex : V.str w = v := Option.some.inj hx
      subst ex
      have hw2 := hsh w (List.mem_of_getElem? hi)
      refine ⟨_, rfl, w, rfl, sz_le (by omega), _, rfl, _, _, rfl, rfl, _, rfl, ?_⟩
      by_cases hc : w.length < n
      · refine ifT (decide_eq_true (by omega)) ?_
        refine ⟨_, rfl, _, rfl, _, _, rfl, rfl, sz_le (by omega), q _ _ (Same.refl _) ?_⟩
        rw [longS, if_pos hc]
      · refine ifF (decide_eq_false (by omega)) ?_
        refine ⟨_, rfl, q _ _ (Same.refl _) ?_⟩
        rw [longS, if_neg hc]
    · rw [filter_all] at hP
      have ey : ys = ((qwords n).map (longS n l)).map V.str := by
        clear hls
        generalize qwords n = ws at hP
        induction hP with
        | nil => rfl
        | cons r t ih => rw [r, ih]; rfl
      rw [ey] at hls
      dsimp only [gName]
      walk_at "x"

      refine lc_runL (K := K) (xs := ((qwords n).map (longS n l)).map V.str) (ev_is rfl ⟨p, rfl, SqL.of hls⟩) (qwords n) (by simp) (fun _ => true) (fun w v H => PairV H v ((idxS (qwords n) (longS n l w) : Nat), (0 : Int))) (by omega) (by intro _; rfl) (fun _ _ _ _ e h => h.mono e)
        (fun i w v H2 hi hx e2 => ⟨evt_yes, fun _ H3 e3 => ?_⟩) (fun p2 H2 ys2 hp2 e2 hl2 hP2 => ?_)
      · rw [List.getElem?_map, List.getElem?_map, hi] at hx
        have ex : V.str (longS n l w) = v := Option.some.inj hx
        subst ex
        refine ev_pair ?_ fun _ _ => ev_c rfl
        exact ev_index (ws := qwords n) rfl ((e.trans (e2.trans e3)) _ _ ha) (hlong w (List.mem_of_getElem? hi)) (ev_is rfl rfl)
      · rw [filter_all] at hP2
        refine ⟨p2, ys2, rfl, .inl ⟨SqL.of hl2, fun l3 hl3 => q _ _ (e.trans (e2.trans (same_new hl3))) ⟨l3, ys2, rfl, upd_same, ?_⟩⟩⟩
        exact paired_mapR _ (Paired.mapP hP2 fun _ _ r => r.mono (tups_of (same_new hl3)))
end
end Tm

namespace Tm
open PySem PySem.Spec PyProof.Rows L2
local macro_rules | `(tactic| walk_at "x") => `(tactic| dsimp only [tNext, tRet, tSeq, tCall, tCB, tC, tCons, tNil, tAsg, tDrop, sFld])
/-- a constant tuple of texts of the top -/
structure GT (K : PySem.W.Frag) (mg : Str → Option Value) (x : Str) (ws : List Str) : Prop where
  ex : ∃ a, mg x = some (.ref a) ∧ ∀ H, SqT K H a (ws.map V.str)
theorem merge1 (k : L2.Key) (v : V) : mergeK [] [(k, v)] = [(k, v)] := rfl
section
variable {P : Program} {w : World} {K : PySem.W.Frag} {mg : Str → Option Value} {base : Heap} {C : Addr}
abbrev s_faded : Stmt := top 30
theorem sc_faded : FnScope ["state", "many", "forgotten"] ["state", "many"] (defScope s_faded) := ⟨rfl, rfl, rfl, by decide +kernel, rfl, by decide +kernel, by decide +kernel⟩
def sp_faded : Sp := fun vs H Q _ => ∃ s n : Int, vs = [.int s, .int n] ∧ Q (.int (fadeS s n)) H
theorem ok_faded (B : Bt mg) (D : Df K mg "_faded" s_faded ["state", "many"]) : Ok P w K mg base "_faded" 1 ["state", "many"] sp_faded := by
  refine D.ok sc_faded (fun vs H Q E h => ?_) (fun f cdv A outer s H vs Q E hr h => ?_)
  · obtain ⟨s, n, rfl, _⟩ := h
    rfl
  · obtain ⟨s, n, rfl, q⟩ := h
    refine ⟨_, pss_cons (ps_set (i := 2) sc_faded.nd rfl (.inl rfl) (pe_op op_add (pe_op op_mul (pe_int) (pv 1)) (pe_int)))
      (pss_cons (ps_if (pt_cmpR op_eq (pv 0) (pv 1) (nomark _))
        (pss_one (ps_ret (pv 2)))
        (pss_nil))
      (pss_one (ps_ret (pe_callB (call_min2 rfl) (by rfl) B.min (by decide +kernel) (pa_cons (pe_op op_add (pv 0) (pe_int)) (pa_cons (pv 2) (pa_nil))))))), ?_⟩
    refine ⟨_, rfl, _, _, rfl, rfl, .inl ⟨by decide, by decide⟩, _, _, rfl, rfl, ?_⟩
    refine ⟨_, rfl, _, rfl, rfl, _, rfl, ?_⟩
    by_cases hc : s = n
    · refine ifT (by simp [hc]) ?_
      refine ⟨_, rfl, ?_⟩
      have e : fadeS s n = 2 * n + 1 := if_pos hc
      rw [e] at q
      exact q
    · refine ifF (by simp [hc]) ?_
      refine ⟨_, rfl, _, _, rfl, rfl, _, rfl, _, _, rfl, ?_⟩
      have e : fadeS s n = if 2 * n + 1 < s + 1 then 2 * n + 1 else s + 1 := if_neg hc
      rw [e] at q
      exact q
abbrev s_fading : Stmt := top 29
theorem sc_fading_kind : FnScope ["many", "later", "state"] ["many"] (defScope s_fading) := ⟨rfl, rfl, rfl, by decide +kernel, rfl, by decide +kernel, by decide +kernel⟩
theorem ok_fading (B : Bt mg) (O_need_number : NeedNum P w K mg base) (O_faded : Ok P w K mg base "_faded" 1 ["state", "many"] sp_faded) (O_lettered : Lett P w K mg base C) (D : Df K mg "fading_kind" s_fading ["many"]) : Ok P w K mg base "fading_kind" 8 ["many"] (sp_made C 1 5 fadeT) := by
  refine D.ok sc_fading_kind (fun vs H Q E h => ?_) (fun f cdv A outer s H vs Q E hr h => ?_)
  · obtain ⟨n, rfl, _⟩ := h
    rfl
  · obtain ⟨n, rfl, h2, h6, q⟩ := h
    have hT := fade_ok n (by omega) h2
    refine ⟨_, pss_cons (ps_expr (O_need_number.call hr (ha := pa_cons (pv 0) (pa_cons (pe_int) (pa_cons (pe_int) (pa_nil))))))
      (pss_cons (ps_set (i := 1) sc_fading_kind.nd rfl (.inl rfl) (pe_callTy (tupleK (K := K)) (by rfl) B.tuple (by decide +kernel) (pa_cons (pe_lc (own := [("state", 2)]) (g := gName 2) (tt := tYes) rfl sc_fading_kind.nd (pi_range2 (by rfl) B.range (pa_cons (pe_int) (pa_cons (pe_op op_add (pe_op op_mul (pe_int) (pv 0)) (pe_int)) (pa_nil)))) (blkOk_by (own := [("state", 2)]) (N := ["many", "later", "state"]) (sc := defScope s_fading) (by decide +kernel)) (fun _ _ _ _ _ => pg_name (i := 2) sc_fading_kind.nd rfl (.inl rfl)) (fun _ _ _ _ _ => pts_nil) (fun _ _ _ _ _ => pe_tup (pa_cons (O_faded.call hr (ha := pa_cons (pv 2) (pa_cons (pv 0) (pa_nil)))) (pa_cons (pe_int) (pa_nil))))) (pa_nil))))
      (pss_one (ps_ret (O_lettered.call hr (ha := pa_cons (pe_str) (pa_cons (pe_lst (pa_cons (pe_tup (pa_cons (pe_tup (pa_cons (pe_int) (pa_cons (pe_int) (pa_nil)))) (pa_starK (K := K) (pv 1) (pa_nil)))) (pa_cons (pe_tup (pa_cons (pe_tup (pa_cons (pe_op op_add (pv 0) (pe_int)) (pa_cons (pe_int) (pa_nil)))) (pa_starK (K := K) (pv 1) (pa_nil)))) (pa_nil)))) (pa_nil))))))), ?_⟩
    refine ⟨_, rfl, n, 1, 5, rfl, by omega, by omega, ?_⟩
    dsimp only
    refine asg_row (f := fun i : Nat => (fadeS (1 + (i : Int)) n, (0 : Int))) (zs := List.range (2 * n + 1)) ?_ fun v H1 e1 hv => ?_
    · exact ev_lcR2 (n := 2 * n + 1) (lo := 1) (m := 2 * (n : Int) + 2) (fun Q q => ⟨_, rfl, _, _, rfl, rfl, .inl ⟨by decide, by decide⟩, _, _, rfl, rfl, q _ _ (Same.refl _) rfl⟩) (by omega) (by omega) (by omega) _ (by intro _; rfl) (fun z v H H' e h => h.mono e)
        (fun s H2 hs e2 => ev_pair (fun Q q => ⟨_, rfl, _, rfl, _, _, rfl, q _ _ (Same.refl _) rfl⟩) fun _ _ => ev_c rfl)
    obtain ⟨a, xs, rfl, ha, hx⟩ := hv
    have hlen := Paired.length hx
    rw [List.length_map, List.length_range] at hlen
    refine ⟨by show 2 ≤ sizeLine; decide, fun p1 hp1 => ?_⟩
    refine ⟨_, rfl, a, xs, rfl, .inl (SqT.of ((same_new hp1) _ _ ha)), by show (V.ref p1 :: (xs ++ [])).length ≤ sizeLine; exact sz_le (by simp; omega), fun p2 hp2 => ?_⟩
    rw [List.append_nil]
    have e2 : Same H1 (upd (upd H1 p1 (.tup [.int 1, .int 0])) p2 (.tup (.ref p1 :: xs))) := (same_new hp1).trans (same_new hp2)
    have r1 : RowV (upd (upd H1 p1 (.tup [.int 1, .int 0])) p2 (.tup (.ref p1 :: xs))) (.ref p2) ((1, 0) :: laterR n) := by
      refine ⟨p2, _, rfl, upd_same, .cons ⟨p1, rfl, ?_⟩ (Paired.mapP hx fun _ _ r => r.mono (tups_of e2))⟩
      rw [upd_ne (fun z => by rw [z, upd_same] at hp2; cases hp2), upd_same]
    generalize upd (upd H1 p1 (.tup [.int 1, .int 0])) p2 (.tup (.ref p1 :: xs)) = H2 at e2 r1
    refine ⟨_, rfl, _, _, rfl, rfl, by show 2 ≤ sizeLine; decide, fun p3 hp3 => ?_⟩
    refine ⟨_, rfl, a, xs, rfl, .inl (SqT.of ((same_new hp3) _ _ (e2 _ _ ha))), by show (V.ref p3 :: (xs ++ [])).length ≤ sizeLine; exact sz_le (by simp; omega), fun p4 hp4 => ?_⟩
    rw [List.append_nil]
    have e3 : Same H2 (upd (upd H2 p3 (.tup [.int ((n : Int) + 1), .int 0])) p4 (.tup (.ref p3 :: xs))) := (same_new hp3).trans (same_new hp4)
    have r2 : RowV (upd (upd H2 p3 (.tup [.int ((n : Int) + 1), .int 0])) p4 (.tup (.ref p3 :: xs))) (.ref p4) (((n : Int) + 1, 0) :: laterR n) := by
      refine ⟨p4, _, rfl, upd_same, .cons ⟨p3, rfl, ?_⟩ (Paired.mapP hx fun _ _ r => r.mono (tups_of (e2.trans e3)))⟩
      rw [upd_ne (fun z => by rw [z, upd_same] at hp4; cases hp4), upd_same]
    generalize upd (upd H2 p3 (.tup [.int ((n : Int) + 1), .int 0])) p4 (.tup (.ref p3 :: xs)) = H3 at e3 r2
    refine ⟨by show 2 ≤ sizeLine; decide, fun l hl => ?_⟩
    refine ⟨"set", l, _, [(1, 0) :: laterR n, ((n : Int) + 1, 0) :: laterR n], rfl, upd_same, .cons ((r1.mono (tups_of e3)).mono (tups_of (same_new hl))) (.cons (r2.mono (tups_of (same_new hl))) .nil), by decide, hT.1, hT.2, fun v H' t' e' hk pm => q v H' t' ((e1.trans (e2.trans (e3.trans (same_new hl)))).trans e') hk pm⟩
/-! ### flags, adders -/
abbrev s_flag : Stmt := top 25
theorem sc_flag_kind : FnScope [] [] (defScope s_flag) := ⟨rfl, rfl, rfl, by decide +kernel, rfl, by decide +kernel, by decide +kernel⟩
def sp_flag (C : Addr) : Sp := fun vs H Q _ => vs = [] ∧ ∀ v H' t', Same H H' → KindV C H' v t' → t'.Perm flagT → Q v H'
theorem ok_flag (OC_Kind : OkC P w K mg base "Kind" C 5 ["self", "operations"] (sp_init C)) (D : Df K mg "flag_kind" s_flag []) : Ok P w K mg base "flag_kind" 7 [] (sp_flag C) := by
  refine D.ok sc_flag_kind (fun vs H Q E h => ?_) (fun f cdv A outer s H vs Q E hr h => ?_)
  · obtain ⟨rfl, _⟩ := h
    rfl
  · obtain ⟨rfl, q⟩ := h
    refine ⟨_, pss_one (ps_ret (OC_Kind.make hr (ha := pa_cons (pe_disp (pps_cons (pe_str) (pe_tup (pa_cons (pe_tup (pa_cons (pe_int) (pa_cons (pe_int) (pa_nil)))) (pa_cons (pe_tup (pa_cons (pe_int) (pa_cons (pe_int) (pa_nil)))) (pa_nil)))) (pps_nil)) (by rfl) (by rfl) (fun z => by cases z) (by decide)) (pa_nil)))), ?_⟩
    intro d hd
    refine ⟨by show 2 ≤ sizeLine; decide, fun p1 hp1 => ⟨by show 2 ≤ sizeLine; decide, fun p2 hp2 => ⟨by show 2 ≤ sizeLine; decide, fun p3 hp3 => ?_⟩⟩⟩
    have e1 : Same (upd H d (.dK [])) (upd (upd (upd (upd H d (.dK [])) p1 (.tup [.int 1, .int 0])) p2 (.tup [.int 1, .int 1])) p3 (.tup [.ref p1, .ref p2])) := (same_new hp1).trans ((same_new hp2).trans (same_new hp3))
    have row : RowV (upd (upd (upd (upd H d (.dK [])) p1 (.tup [.int 1, .int 0])) p2 (.tup [.int 1, .int 1])) p3 (.tup [.ref p1, .ref p2])) (.ref p3) [(1, 0), (1, 1)] := by
      have n21 : p2 ≠ p1 := fun z => by rw [z, upd_same] at hp2; cases hp2
      have n31 : p3 ≠ p1 := fun z => by rw [z, upd_ne n21.symm, upd_same] at hp3; cases hp3
      have n32 : p3 ≠ p2 := fun z => by rw [z, upd_same] at hp3; cases hp3
      refine ⟨p3, _, rfl, upd_same, .cons ⟨p1, rfl, ?_⟩ (.cons ⟨p2, rfl, ?_⟩ .nil)⟩
      · rw [upd_ne n31.symm, upd_ne n21.symm, upd_same]
      · rw [upd_ne n32.symm, upd_same]
    generalize upd (upd (upd (upd H d (.dK [])) p1 (.tup [.int 1, .int 0])) p2 (.tup [.int 1, .int 1])) p3 (.tup [.ref p1, .ref p2]) = H1 at e1 row
    have hd1 : H1 d = some (.dK []) := e1 _ _ upd_same
    have eH : Same H (upd H1 d (.dK [(Sum.inr "set", .ref p3)])) := same_mut ((same_new hd).trans e1) hd
    refine ⟨hd1, [(Sum.inr "set", .ref p3)], rfl, by show 1 ≤ 15; decide, ?_⟩
    rw [merge1]
    exact mk_kind (t := flagT) upd_same (.cons ⟨rfl, row.mono (tups_upd hd1 (fun xs z => by cases z))⟩ .nil) flag_ok.1 flag_ok.2 fun v H' t' e' hk pm => q v H' t' (eH.trans e') hk pm
abbrev s_adder : Stmt := top 26
theorem sc_adder_kind : FnScope ["many", "state"] ["many"] (defScope s_adder) := ⟨rfl, rfl, rfl, by decide +kernel, rfl, by decide +kernel, by decide +kernel⟩
theorem ok_adder (B : Bt mg) (O_need_number : NeedNum P w K mg base) (OC_Kind : OkC P w K mg base "Kind" C 5 ["self", "operations"] (sp_init C)) (D : Df K mg "adder_kind" s_adder ["many"]) : Ok P w K mg base "adder_kind" 8 ["many"] (sp_made C 2 12 adderT) := by
  refine D.ok sc_adder_kind (fun vs H Q E h => ?_) (fun f cdv A outer s H vs Q E hr h => ?_)
  · obtain ⟨n, rfl, _⟩ := h
    rfl
  · obtain ⟨n, rfl, h2, h6, q⟩ := h
    have hT := adder_ok n (by omega) h2
    refine ⟨_, pss_cons (ps_expr (O_need_number.call hr (ha := pa_cons (pv 0) (pa_cons (pe_int) (pa_cons (pe_int) (pa_nil))))))
      (pss_one (ps_ret (OC_Kind.make hr (ha := pa_cons (pe_disp (pps_cons (pe_str) (pe_callTy (tupleK (K := K)) (by rfl) B.tuple (by decide +kernel) (pa_cons (pe_lc (own := [("state", 1)]) (g := gName 1) (tt := tYes) rfl sc_adder_kind.nd (pi_range1 (by rfl) B.range (pa_cons (pv 0) (pa_nil))) (blkOk_by (own := [("state", 1)]) (N := ["many", "state"]) (sc := defScope s_adder) (by decide +kernel)) (fun _ _ _ _ _ => pg_name (i := 1) sc_adder_kind.nd rfl (.inl rfl)) (fun _ _ _ _ _ => pts_nil) (fun _ _ _ _ _ => pe_tup (pa_cons (pe_op op_mod (pe_op op_add (pv 1) (pe_int)) (pv 0)) (pa_cons (pv 1) (pa_nil))))) (pa_nil))) (pps_nil)) (by rfl) (by rfl) (fun z => by cases z) (by decide)) (pa_nil))))), ?_⟩
    refine ⟨_, rfl, n, 2, 12, rfl, by omega, by omega, ?_⟩
    intro d hd
    dsimp only [tPairs, tC, tCB, tCons, tNil]
    refine lcR_go (n := n) (fun Q q => ⟨_, rfl, q _ _ (Same.refl _) rfl⟩) (by omega) (fun i v H => PairV H v (((i : Int) + 1) % (n : Int), (i : Int))) (by intro _; rfl) (fun z v H H' e h => h.mono e) (fun i H1 hi e => ?_) fun p H1 ys e hl hP => ?_
    · exact ev_pair (fun Q q => ⟨_, rfl, _, _, rfl, rfl, _, rfl, _, _, rfl, rfl, by omega, q _ _ (Same.refl _) rfl⟩) fun _ _ => ev_is rfl rfl
    · refine ⟨p, ys, rfl, .inl ⟨SqL.of hl, fun l hl2 => ?_⟩⟩
      have e2 : Same (upd H d (.dK [])) (upd H1 l (.tup ys)) := e.trans (same_new hl2)
      have row : RowV (upd H1 l (.tup ys)) (.ref l) ((List.range n).map fun s : Nat => (((s : Int) + 1) % (n : Int), (s : Int))) :=
        ⟨l, ys, rfl, upd_same, paired_mapR _ (Paired.mapP hP fun _ _ r => r.mono (tups_of (same_new hl2)))⟩
      generalize upd H1 l (.tup ys) = H2 at e2 row
      have hd1 : H2 d = some (.dK []) := e2 _ _ upd_same
      have eH : Same H (upd H2 d (.dK [(Sum.inr "add", .ref l)])) := same_mut ((same_new hd).trans e2) hd
      refine ⟨hd1, [(Sum.inr "add", .ref l)], rfl, by show 1 ≤ 15; decide, ?_⟩
      rw [merge1]
      exact mk_kind (t := adderT n) upd_same (.cons ⟨rfl, row.mono (tups_upd hd1 (fun xs z => by cases z))⟩ .nil) hT.1 hT.2 fun v H' t' e' hk pm => q v H' t' (eH.trans e') hk pm
end
end Tm

namespace Tm
open PySem PySem.Spec PyProof.Rows L2
local macro_rules | `(tactic| walk_at "x") => `(tactic| dsimp only [tNext, tRet, tSeq, tCall, tCB, tC, tCons, tNil, tAsg, tDrop, sFld])
theorem strs_eq : ∀ {ys : List V} {ws : List Str}, Paired (fun v z => v = V.str z) ys ws → ys = ws.map V.str
  | _, _, .nil => rfl
  | _, _, .cons r t => by rw [r, strs_eq t]; rfl
section
variable {P : Program} {w : World} {K : PySem.W.Frag} {mg : Str → Option Value} {base : Heap} {C : Addr}
abbrev s_queue : Stmt := top 31
theorem sc_queue_kind : FnScope ["many", "words", "leave", "word"] ["many"] (defScope s_queue) := ⟨rfl, rfl, rfl, by decide +kernel, rfl, by decide +kernel, by decide +kernel⟩
theorem ok_queue (B : Bt mg) (G : GT K mg "QUEUE_WORDS" QW) (O_need_number : NeedNum P w K mg base) (O_join_row : Ok P w K mg base "_join_row" 1 ["words", "many", "letter"] sp_join) (OC_Kind : OkC P w K mg base "Kind" C 5 ["self", "operations"] (sp_init C)) (D : Df K mg "queue_kind" s_queue ["many"]) : Ok P w K mg base "queue_kind" 8 ["many"] (sp_made C 1 2 queueT) := by
  obtain ⟨aq, hmq, hq⟩ := G.ex
  refine D.ok sc_queue_kind (fun vs H Q E h => ?_) (fun f cdv A outer s H vs Q E hr h => ?_)
  · obtain ⟨n, rfl, _⟩ := h
    rfl
  · obtain ⟨n, rfl, h1, h2, q⟩ := h
    have hT := queue_ok n (by omega) h1
    have hcut := q_cut n (by omega) h1
    have hql := q_len n (by omega)
    refine ⟨_, pss_cons (ps_expr (O_need_number.call hr (ha := pa_cons (pv 0) (pa_cons (pe_int) (pa_cons (pe_int) (pa_nil))))))
      (pss_cons (ps_set (i := 1) sc_queue_kind.nd rfl (.inr rfl) (pe_lc (own := [("word", 3)]) (g := gName 3) (tt := _) rfl sc_queue_kind.nd (pi_tup (pe_glob (v := .ref aq) (by rfl) hmq rfl)) (blkOk_by (own := [("word", 3)]) (N := ["many", "words", "leave", "word"]) (sc := defScope s_queue) (by decide +kernel)) (fun _ _ _ _ _ => pg_name (i := 3) sc_queue_kind.nd rfl (.inl rfl)) (fun _ _ _ _ _ => pts_one (pt_cmpR op_le (pe_callB call_len_str (by rfl) B.len (by decide +kernel) (pa_cons (pv 3) (pa_nil))) (pv 0) (nomark _))) (fun _ _ _ _ _ => pv 3)))
      (pss_cons (ps_set (i := 2) sc_queue_kind.nd rfl (.inl rfl) (pe_callTy (tupleK (K := K)) (by rfl) B.tuple (by decide +kernel) (pa_cons (pe_lc (own := [("word", 3)]) (g := gName 3) (tt := tYes) rfl sc_queue_kind.nd (pi_list (pv 1)) (blkOk_by (own := [("word", 3)]) (N := ["many", "words", "leave", "word"]) (sc := defScope s_queue) (by decide +kernel)) (fun _ _ _ _ _ => pg_name (i := 3) sc_queue_kind.nd rfl (.inl rfl)) (fun _ _ _ _ _ => pts_nil) (fun _ _ _ _ _ => pe_tup (pa_cons (pe_bmK (K := K) PySem.F.plainAttrs_list PySem.F.slot_list_index PySem.F.type_list_index (indexFK (K := K)) (pv 1) (pa_cons (pe_slice sl_str (pv 3) (po_some (pe_int)) (po_none)) (pa_nil))) (pa_cons (pe_bmK (K := K) PySem.F.plainAttrs_list PySem.F.slot_list_index PySem.F.type_list_index (indexFK (K := K)) (pv 1) (pa_cons (pe_slice sl_str (pv 3) (po_none) (po_some (pe_int))) (pa_nil))) (pa_nil))))) (pa_nil))))
      (pss_one (ps_ret (OC_Kind.make hr (ha := pa_cons (pe_disp (pps_cons (pe_str) (O_join_row.call hr (ha := pa_cons (pv 1) (pa_cons (pv 0) (pa_cons (pe_str) (pa_nil))))) (pps_cons (pe_str) (O_join_row.call hr (ha := pa_cons (pv 1) (pa_cons (pv 0) (pa_cons (pe_str) (pa_nil))))) (pps_cons (pe_str) (pv 2) (pps_nil)))) (by rfl) (by rfl) (fun z => by cases z) (by decide)) (pa_nil))))))), ?_⟩
    refine ⟨_, rfl, n, 1, 2, rfl, by omega, by omega, ?_⟩
    dsimp only [tSeq, tAsg]
    refine lc_runT (K := K) (xs := QW.map V.str) (ev_c ⟨aq, rfl, hq _⟩) QW (List.length_map ..) (fun w => decide (w.length ≤ n)) (fun w v _ => v = V.str w) (by decide) (by intro _; rfl) (fun _ _ _ _ _ h => h)
      (fun i w v H1 hi hx e => ?_) (fun p H1 ys hp e hls hP => ?_)
    · rw [List.getElem?_map, hi] at hx
      have ex : V.str w = v := Option.some.inj hx
      subst ex
      have hw2 := q_short w (List.mem_of_getElem? hi)
      refine ⟨fun Q q => ?_, fun _ H3 e3 => ev_is rfl rfl⟩
      refine ⟨_, rfl, w, rfl, sz_le (by omega), _, rfl, _, _, rfl, rfl, _, rfl, ?_⟩
      have ed : decide ((w.length : Int) ≤ (n : Int)) = decide (w.length ≤ n) := decide_eq_decide.mpr (by omega)
      have q2 := q H1 (Same.refl _)
      rw [← ed] at q2
      exact q2
    · have ey := strs_eq hP
      have hls : H1 p = some (.lst ((qwords n).map V.str)) := by rw [hls, ey]; rfl
      dsimp only [gName]
      refine asg_row (f := fun w : Str => (((idxS (qwords n) (cutS w (some 1) none) : Nat) : Int), ((idxS (qwords n) (cutS w none (some 1)) : Nat) : Int))) (zs := qwords n) ?_ fun v H2 e2 hv => ?_
      · intro Q q
        refine lc_runL (K := K) (xs := (qwords n).map V.str) (ev_is rfl ⟨p, rfl, SqL.of hls⟩) (qwords n) (List.length_map ..) (fun _ => true) (fun w v H => PairV H v (((idxS (qwords n) (cutS w (some 1) none) : Nat) : Int), ((idxS (qwords n) (cutS w none (some 1)) : Nat) : Int))) (by omega) (by intro _; rfl) (fun _ _ _ _ e h => h.mono e)
          (fun i w v H2 hi hx e2 => ⟨evt_yes, fun _ H3 e3 => ?_⟩) (fun p2 H2 ys2 hp2 e2 hl2 hP2 => ?_)
        · rw [List.getElem?_map, hi] at hx
          have ex : V.str w = v := Option.some.inj hx
          subst ex
          obtain ⟨c1, c2, c3⟩ := hcut w (List.mem_of_getElem? hi)
          refine ev_pair ?_ fun H4 e4 => ?_
          · exact ev_index (ws := qwords n) rfl ((e2.trans e3) _ _ hls) c1 (fun Q q => ⟨_, rfl, _, rfl, w, rfl, sz_le (by omega), q _ _ (Same.refl _) rfl⟩)
          · exact ev_index (ws := qwords n) rfl ((e2.trans (e3.trans e4)) _ _ hls) c2 (fun Q q => ⟨_, rfl, _, rfl, w, rfl, sz_le (by omega), q _ _ (Same.refl _) rfl⟩)
        · rw [filter_all] at hP2
          exact q _ _ e2 ⟨p2, ys2, rfl, hl2, hP2⟩
      · have hrow : RowV H2 v (leaveR n) := hv
        intro d hd
        have hp2 : H2 p = some (.lst ((qwords n).map V.str)) := e2 _ _ hls
        refine ⟨_, rfl, _, rfl, p, n, "a", rfl, (same_new hd) _ _ hp2, h1, h2, by decide +kernel, fun u1 H3 e3 r1 => ?_⟩
        refine ⟨_, rfl, _, rfl, p, n, "b", rfl, e3 _ _ ((same_new hd) _ _ hp2), h1, h2, by decide +kernel, fun u2 H4 e4 r2 => ?_⟩
        have e24 : Same H2 H4 := (same_new hd).trans (e3.trans e4)
        have hd4 : H4 d = some (.dK []) := e4 _ _ (e3 _ _ upd_same)
        refine ⟨_, rfl, hd4, [(Sum.inr "joina", u1), (Sum.inr "joinb", u2), (Sum.inr "leave", v)], rfl, by show 3 ≤ 15; decide, ?_⟩
        have hm : mergeK [] [((Sum.inr ("joina" : Str) : L2.Key), u1), (Sum.inr ("joinb" : Str), u2), (Sum.inr ("leave" : Str), v)] = [(Sum.inr ("joina" : Str), u1), (Sum.inr ("joinb" : Str), u2), (Sum.inr ("leave" : Str), v)] := by
          have n1 : ¬ ((Sum.inr ("joina" : Str) : L2.Key) = Sum.inr ("joinb" : Str)) := by decide +kernel
          have n2 : ¬ ((Sum.inr ("joina" : Str) : L2.Key) = Sum.inr ("leave" : Str)) := by decide +kernel
          have n3 : ¬ ((Sum.inr ("joinb" : Str) : L2.Key) = Sum.inr ("leave" : Str)) := by decide +kernel
          simp [mergeK, putK, n1, n2, n3]
        rw [hm]
        have eH : Same H (upd H4 d (.dK [(Sum.inr ("joina" : Str), u1), (Sum.inr ("joinb" : Str), u2), (Sum.inr ("leave" : Str), v)])) := same_mut (e.trans (e2.trans e24)) (e.free (e2.free hd))
        have tu : TupS H4 (upd H4 d (.dK [(Sum.inr ("joina" : Str), u1), (Sum.inr ("joinb" : Str), u2), (Sum.inr ("leave" : Str), v)])) := tups_upd hd4 (fun xs z => by cases z)
        exact mk_kind (t := queueT n) upd_same (.cons ⟨rfl, r1.mono ((tups_of e4).trans tu)⟩ (.cons ⟨rfl, r2.mono tu⟩ (.cons ⟨rfl, hrow.mono ((tups_of e24).trans tu)⟩ .nil))) hT.1 hT.2
          fun v H' t' e' hk pm => q v H' t' (eH.trans e') hk pm
end
end Tm

namespace Tm
open PySem PySem.Spec PyProof.Rows L2
local macro_rules | `(tactic| walk_at "x") => `(tactic| dsimp only [tNext, tRet, tSeq, tCall, tCB, tC, tCons, tNil, tAsg, tDrop, sFld])
/-! ### the vat of drawn numbers: a list of three whole numbers -/
def VatV (H : Hp) (l : Addr) : Prop := ∃ a b c : Int, H l = some (.lst [.int a, .int b, .int c])
/-- all but l stays, l is a vat again -/
def KL (l : Addr) (H H' : Hp) : Prop := (∀ b o, H b = some o → b ≠ l → H' b = some o) ∧ VatV H' l
theorem KL.trans {l : Addr} {H H1 H2 : Hp} (a : KL l H H1) (b : KL l H1 H2) : KL l H H2 := ⟨fun c o h n => b.1 c o (a.1 c o h n) n, b.2⟩
theorem KL.of {l : Addr} {H H' : Hp} (v : VatV H l) (e : Same H H') : KL l H H' := ⟨fun b o h _ => e b o h, by obtain ⟨a, b, c, h⟩ := v; exact ⟨a, b, c, e _ _ h⟩⟩
theorem KL.set {l : Addr} {H : Hp} (a b c : Int) : KL l H (upd H l (.lst [.int a, .int b, .int c])) := ⟨fun d o h n => by rw [upd_ne n]; exact h, a, b, c, upd_same⟩
theorem KL.tups {l : Addr} {H H' : Hp} (v : VatV H l) (k : KL l H H') : TupS H H' := fun a xs h => k.1 a _ h fun z => by
  obtain ⟨p, q, r, e⟩ := v
  rw [z, e] at h
  cases h
theorem opP {X : Cx} : OpR X (binaryOp .Pow) (rI (fun i j => 0 ≤ j ∧ (Builtin.Int.intBits i : Int) * j ≤ 2 ^ 27) fun i j => .int (i ^ j.toNat)) := opI fun _ _ _ _ _ _ _ hc q => pow_int hc.1 hc.2 q
section
variable {P : Program} {w : World} {K : PySem.W.Frag} {mg : Str → Option Value} {base : Heap} {C : Addr}
abbrev s_vat : Stmt := top 46
theorem sc_law_vat : FnScope ["_law_script", "_law_at", "_law_cell", "_law_great", "_law_seed"] ["_law_script", "_law_at"] (defScope s_vat) := ⟨rfl, rfl, rfl, by decide +kernel, rfl, by decide +kernel, by decide +kernel⟩
def sp_vat (K : PySem.W.Frag) : Sp := fun vs H Q _ => ∃ (a : Addr) (xs : List Int) (i : Nat), vs = [.ref a, .int (i : Int)] ∧ SqL K H a (xs.map V.int) ∧ i ≤ 1000 ∧ ∀ l p q r, H l = none → Q (.ref l) (upd H l (.lst [.int p, .int q, .int r]))
theorem ok_vat (B : Bt mg) (D : Df K mg "_law_vat" s_vat ["_law_script", "_law_at"]) : Ok P w K mg base "_law_vat" 1 ["_law_script", "_law_at"] (sp_vat K) := by
  refine D.ok sc_law_vat (fun vs H Q E h => ?_) (fun f cdv A outer s H vs Q E hr h => ?_)
  · obtain ⟨a, xs, i, rfl, _⟩ := h
    rfl
  · obtain ⟨a, xs, i, rfl, hs, hi, q⟩ := h
    refine ⟨_, pss_cons (ps_set (i := 2) sc_law_vat.nd rfl (.inl rfl) (pe_ifExp (pt_cmpR op_lt (pv 1) (pe_callB (lenK (K := K)) (by rfl) B.len (by decide +kernel) (pa_cons (pv 0) (pa_nil))) (nomark _)) (pe_ix (ixLK (K := K)) (pv 0) (pv 1) (fun _ _ => rfl)) (pe_op op_add (pe_op op_mul (pe_int) (pv 1)) (pe_int))))
      (pss_cons (ps_set (i := 3) sc_law_vat.nd rfl (.inl rfl) (pe_op op_mod (pe_callTy call_int1 (by rfl) B.int (by decide +kernel) (pa_cons (pe_callB call_abs (by rfl) B.abs (by decide +kernel) (pa_cons (pv 2) (pa_nil))) (pa_nil))) (pe_op opP (pe_op opP (pe_int) (pe_int)) (pe_int))))
      (pss_cons (ps_set (i := 4) sc_law_vat.nd rfl (.inl rfl) (pe_op op_mod (pe_callTy call_int1 (by rfl) B.int (by decide +kernel) (pa_cons (pe_op op_add (pe_op op_add (pe_op op_add (pv 3) (pe_op op_mul (pe_int) (pv 1))) (pe_op op_mul (pe_int) (pe_callTy call_int1 (by rfl) B.int (by decide +kernel) (pa_cons (pe_cmpR op_lt (pv 2) (pe_int) (nomark _)) (pa_nil))))) (pe_int)) (pa_nil))) (pe_op op_add (pe_op opP (pe_int) (pe_int)) (pe_int))))
      (pss_one (ps_ret (pe_lst (pa_cons (pe_ifExp (pt_cmpR op_gt (pv 3) (pe_op opP (pe_int) (pe_int)) (nomark _)) (pe_op op_sub (pv 3) (pe_op opP (pe_int) (pe_int))) (pe_int)) (pa_cons (pv 4) (pa_cons (pe_int) (pa_nil))))))))), ?_⟩
    refine Ev.go (te := tIf _ _ _) (P := fun v H1 => ∃ c : Int, v = .int c ∧ H1 = H) (fun Q q => ?_) fun v H1 _ hv => ?_
    · refine ⟨_, rfl, _, rfl, a, _, rfl, .inl hs, _, _, rfl, rfl, _, rfl, ite2 (fun h1 => ?_) (fun h1 => ?_)⟩
      · have h2 : (i : Int) < ((xs.map V.int).length : Int) := of_decide_eq_true h1
        rw [List.length_map] at h2
        have hlt : i < xs.length := by omega
        refine ⟨_, rfl, _, rfl, a, _, _, .int xs[i], rfl, rfl, hs, atI_nat (by rw [List.getElem?_map, List.getElem?_eq_getElem hlt]; rfl), q _ H (Same.refl H) ⟨_, rfl, rfl⟩⟩
      · exact ⟨_, rfl, _, _, rfl, rfl, .inl ⟨by decide, by decide⟩, _, _, rfl, rfl, q _ H (Same.refl H) ⟨_, rfl, rfl⟩⟩
    · obtain ⟨c, rfl, rfl⟩ := hv
      have big : (0 : Int) < (10 ^ (60 : Int).toNat) ^ (8 : Int).toNat := Int.pow_pos (Int.pow_pos (by decide))
      have big2 : (0 : Int) < 10 ^ (18 : Int).toNat + 9 := by decide
      refine ⟨_, rfl, c, rfl, .inl ⟨_, rfl, ?_⟩⟩
      refine ⟨_, _, rfl, rfl, by decide +kernel, _, _, rfl, rfl, by decide +kernel, _, _, rfl, rfl, big, ?_⟩
      generalize (if c < 0 then -c else c) % ((10 : Int) ^ (60 : Int).toNat) ^ (8 : Int).toNat = g
      refine ⟨_, rfl, _, rfl, _, _, rfl, rfl, .inl ⟨by decide, by decide⟩, _, _, rfl, rfl, _, rfl, _, _, rfl, rfl, ?_⟩
      refine .inr ⟨_, rfl, _, _, rfl, rfl, .inl ⟨by decide, by decide⟩, _, _, rfl, rfl, _, _, rfl, rfl, .inl ⟨_, rfl, ?_⟩⟩
      refine ⟨_, _, rfl, rfl, by decide +kernel, _, _, rfl, rfl, _, _, rfl, rfl, big2, ?_⟩
      refine ⟨_, rfl, _, _, rfl, rfl, by decide +kernel, _, _, rfl, rfl, _, rfl, ite2 (fun _ => ?_) (fun _ => ?_)⟩
      · exact ⟨_, rfl, _, _, rfl, rfl, by decide +kernel, _, _, rfl, rfl, _, rfl, by show 3 ≤ sizeLine; decide, fun l hl => q l _ _ _ hl⟩
      · exact ⟨_, rfl, by show 3 ≤ sizeLine; decide, fun l hl => q l _ _ _ hl⟩
abbrev s_draw : Stmt := top 47
theorem sc_law_draw : FnScope ["_law_vat_here", "_law_total", "_law_one", "_law_two", "_law_three", "_law_found"] ["_law_vat_here", "_law_total"] (defScope s_draw) := ⟨rfl, rfl, rfl, by decide +kernel, rfl, by decide +kernel, by decide +kernel⟩
def sp_draw : Sp := fun vs H Q _ => ∃ (l : Addr) (t : Int), vs = [.ref l, .int t] ∧ VatV H l ∧ 0 < t ∧ t < 1073741824 ∧ ∀ (d : Int) H', 0 ≤ d → d < t → KL l H H' → Q (.int d) H'
theorem ok_draw (B : Bt mg) (D : Df K mg "_law_draw" s_draw ["_law_vat_here", "_law_total"]) : Ok P w K mg base "_law_draw" 1 ["_law_vat_here", "_law_total"] sp_draw := by
  refine D.ok sc_law_draw (fun vs H Q E h => ?_) (fun f cdv A outer s H vs Q E hr h => ?_)
  · obtain ⟨l, t, rfl, _⟩ := h
    rfl
  · obtain ⟨l, t, rfl, ⟨a, b, c, hl⟩, t0, t1, q⟩ := h
    refine ⟨_, pss_cons (ps_if (pt_cmpR op_gt (pe_ix (ixLK (K := K)) (pv 0) (pe_int) (fun _ _ => rfl)) (pe_int) (nomark _))
        (pss_cons (ps_set (i := 5) sc_law_draw.nd rfl (.inl rfl) (pe_op op_mod (pe_callTy call_int1 (by rfl) B.int (by decide +kernel) (pa_cons (pe_ix (ixLK (K := K)) (pv 0) (pe_int) (fun _ _ => rfl)) (pa_nil))) (pv 1)))
      (pss_cons (ps_asg (pe_op op_fdiv (pe_ix (ixLK (K := K)) (pv 0) (pe_int) (fun _ _ => rfl)) (pv 1)) (pg_sub (pv 0) (pe_int) set_list))
      (pss_one (ps_ret (pv 5)))))
        (pss_nil))
      (pss_cons (ps_asg (pe_op op_add (pe_ix (ixLK (K := K)) (pv 0) (pe_int) (fun _ _ => rfl)) (pe_int)) (pg_sub (pv 0) (pe_int) set_list))
      (pss_cons (ps_set (i := 2) sc_law_draw.nd rfl (.inl rfl) (pe_op op_mod (pe_callTy call_int1 (by rfl) B.int (by decide +kernel) (pa_cons (pe_op op_add (pe_ix (ixLK (K := K)) (pv 0) (pe_int) (fun _ _ => rfl)) (pe_op op_mul (pe_int) (pe_ix (ixLK (K := K)) (pv 0) (pe_int) (fun _ _ => rfl)))) (pa_nil))) (pe_int)))
      (pss_cons (ps_set (i := 3) sc_law_draw.nd rfl (.inl rfl) (pe_op op_mod (pe_callTy call_int1 (by rfl) B.int (by decide +kernel) (pa_cons (pe_op op_add (pe_op op_add (pe_op op_mul (pv 2) (pv 2)) (pe_op op_fdiv (pe_ix (ixLK (K := K)) (pv 0) (pe_int) (fun _ _ => rfl)) (pe_int))) (pe_op op_mul (pe_int) (pe_ix (ixLK (K := K)) (pv 0) (pe_int) (fun _ _ => rfl)))) (pa_nil))) (pe_int)))
      (pss_cons (ps_set (i := 4) sc_law_draw.nd rfl (.inl rfl) (pe_op op_mod (pe_callTy call_int1 (by rfl) B.int (by decide +kernel) (pa_cons (pe_op op_add (pe_op op_mul (pv 3) (pv 3)) (pv 2)) (pa_nil))) (pe_int)))
      (pss_one (ps_ret (pe_op op_mod (pe_callTy call_int1 (by rfl) B.int (by decide +kernel) (pa_cons (pe_op op_fdiv (pv 4) (pe_int)) (pa_nil))) (pv 1)))))))), ?_⟩
    have sq : ∀ {x y z : Int} {H' : Hp}, H' l = some (.lst [.int x, .int y, .int z]) → SqL K H' l [.int x, .int y, .int z] := fun h => SqL.of h
    have md : ∀ (u m : Int), 0 < m → m < 4294967296 → CMul (u % m) (u % m) := fun u m h0 h1 => by
      have e1 := Int.emod_nonneg u (show m ≠ 0 by omega)
      have e2 := Int.emod_lt_of_pos u h0
      exact .inl ⟨by omega, by omega⟩
    refine ⟨_, rfl, l, _, _, _, rfl, rfl, sq hl, rfl, _, _, rfl, rfl, _, rfl, ite2 (fun _ => ?_) (fun _ => ?_)⟩
    · refine ⟨_, rfl, l, _, _, _, rfl, rfl, sq hl, rfl, .inl ⟨_, rfl, _, rfl, _, _, rfl, rfl, t0, ?_⟩⟩
      refine ⟨_, rfl, l, _, _, _, rfl, rfl, sq hl, rfl, _, rfl, _, _, rfl, rfl, ⟨t0, t1⟩, ?_⟩
      refine ⟨_, rfl, l, _, _, _, rfl, rfl, hl, rfl, ?_⟩
      exact ⟨_, rfl, q _ _ (Int.emod_nonneg _ (by omega)) (Int.emod_lt_of_pos _ t0) (KL.set _ _ _)⟩
    · refine ⟨_, rfl, l, _, _, _, rfl, rfl, sq hl, rfl, _, _, rfl, rfl, ?_⟩
      refine ⟨_, rfl, l, _, _, _, rfl, rfl, hl, rfl, ?_⟩
      have hl2 : upd H l (.lst [.int a, .int b, .int (c + 1)]) l = some (.lst [.int a, .int b, .int (c + 1)]) := upd_same
      have k2 : KL l H (upd H l (.lst [.int a, .int b, .int (c + 1)])) := KL.set _ _ _
      refine ⟨_, rfl, l, _, _, _, rfl, rfl, sq hl2, rfl, _, rfl, l, _, _, _, rfl, rfl, sq hl2, rfl, _, _, rfl, rfl, .inl ⟨by decide, by decide⟩, _, _, rfl, rfl, .inl ⟨_, rfl, _, _, rfl, rfl, by show (0 : Int) < _; decide, ?_⟩⟩
      refine ⟨_, rfl, _, rfl, _, _, rfl, rfl, md _ _ (by decide) (by decide), ?_⟩
      refine ⟨_, rfl, l, _, _, _, rfl, rfl, sq hl2, rfl, _, _, rfl, rfl, ⟨by decide, by decide⟩, _, _, rfl, rfl, ?_⟩
      refine ⟨_, rfl, l, _, _, _, rfl, rfl, sq hl2, rfl, _, _, rfl, rfl, .inl ⟨by decide, by decide⟩, _, _, rfl, rfl, .inl ⟨_, rfl, _, _, rfl, rfl, by show (0 : Int) < _; decide, ?_⟩⟩
      refine ⟨_, rfl, _, rfl, _, _, rfl, rfl, md _ _ (by decide) (by decide), _, rfl, _, _, rfl, rfl, .inl ⟨_, rfl, _, _, rfl, rfl, by show (0 : Int) < _; decide, ?_⟩⟩
      exact ⟨_, rfl, _, _, rfl, rfl, ⟨by decide, by decide⟩, .inl ⟨_, rfl, _, rfl, _, _, rfl, rfl, t0, q _ _ (Int.emod_nonneg _ (by omega)) (Int.emod_lt_of_pos _ t0) k2⟩⟩
abbrev s_choice : Stmt := top 48
theorem sc_law_choice : FnScope ["_law_vat_here", "_law_items"] ["_law_vat_here", "_law_items"] (defScope s_choice) := ⟨rfl, rfl, rfl, by decide +kernel, rfl, by decide +kernel, by decide +kernel⟩
def sp_choice : Sp := fun vs H Q _ => ∃ (l a : Addr) (xs : List V), vs = [.ref l, .ref a] ∧ VatV H l ∧ H a = some (.tup xs) ∧ 0 < xs.length ∧ xs.length ≤ 1000 ∧ ∀ v H', v ∈ xs → KL l H H' → Q v H'
theorem ok_choice (B : Bt mg) (O_law_draw : Ok P w K mg base "_law_draw" 1 ["_law_vat_here", "_law_total"] sp_draw) (D : Df K mg "_law_choice" s_choice ["_law_vat_here", "_law_items"]) : Ok P w K mg base "_law_choice" 2 ["_law_vat_here", "_law_items"] sp_choice := by
  refine D.ok sc_law_choice (fun vs H Q E h => ?_) (fun f cdv A outer s H vs Q E hr h => ?_)
  · obtain ⟨l, a, xs, rfl, _⟩ := h
    rfl
  · obtain ⟨l, a, xs, rfl, hv, ha, h0, h1, q⟩ := h
    refine ⟨_, pss_one (ps_ret (pe_ix (ixTK (K := K)) (pv 1) (O_law_draw.call hr (ha := pa_cons (pv 0) (pa_cons (pe_callB (lenK (K := K)) (by rfl) B.len (by decide +kernel) (pa_cons (pv 1) (pa_nil))) (pa_nil)))) (fun _ _ => rfl))), ?_⟩
    refine ⟨_, rfl, _, rfl, _, rfl, a, xs, rfl, .inr (SqT.of ha), l, _, rfl, hv, by omega, by omega, fun d H' d0 d1 k => ?_⟩
    obtain ⟨j, rfl⟩ := Int.eq_ofNat_of_zero_le d0
    have hj : j < xs.length := by omega
    have he : xs[j]? = some xs[j] := List.getElem?_eq_getElem hj
    exact ⟨a, xs, _, xs[j], rfl, rfl, SqT.of (KL.tups hv k _ _ ha), atI_nat he, q _ H' (List.getElem_mem hj) k⟩
theorem KindV.kl {l : Addr} {H H' : Hp} {v : V} {t : Tab} (va : VatV H l) (k : KL l H H') (h : KindV C H v t) : KindV C H' v t := by
  obtain ⟨a, dx, d, kvs, e1, e2, e3, e4, e5⟩ := h
  obtain ⟨p, q, r, e⟩ := va
  refine ⟨a, dx, d, kvs, e1, k.1 _ _ e2 (fun z => ?_), k.1 _ _ e3 (fun z => ?_), e4.mono (KL.tups ⟨p, q, r, e⟩ k), e5⟩
  · rw [z, e] at e2
    cases e2
  · rw [z, e] at e3
    cases e3
end
end Tm

/-! len(x), str(x) by the class's own methods. -/
namespace Tm
open PySem PySem.Spec PyProof.Rows L2
/-- a class's own special method -/
structure SpM (K : PySem.W.Frag) (C : Addr) (m : Str) (f : Addr) : Prop where
  fnd : PySem.W.findIn K (.ref C) m = some (some (.ref f))
  isf : PySem.W.isFn K (.ref f) = true
structure OkS (P : Program) (w : World) (K : PySem.W.Frag) (mg : Str → Option Value) (base : Heap) (C : Addr) (m : Str) (k : Nat) (ps : List Str) (sp : Sp) : Prop where
  ex : ∃ (f : Addr) (fd : FuncData), SpM K C m f ∧ FnOk P w K mg base CX0 k f fd ps sp ∧ Binds K fd ps []
/-- len, str of an object by its own method: what it tells -/
def rLenO (C : Addr) (sp : Sp) : List V → Hp → VK → Prop := fun xs H Q => ∃ a dx fs, xs = [.ref a] ∧ H a = some (.ins C dx fs) ∧ sp [.ref a] H (fun v H' => ∃ n : Nat, v = .int (n : Int) ∧ n < 1000000 ∧ Q (.int (n : Int)) H') E0
def rStrO (C : Addr) (sp : Sp) : List V → Hp → VK → Prop := fun xs H Q => ∃ a dx fs, xs = [.ref a] ∧ H a = some (.ins C dx fs) ∧ sp [.ref a] H (fun v H' => ∃ z : Str, v = .str z ∧ Q (.str z) H') E0
section
variable {X : Cx} {pins : List (Addr × Obj)} {σ : L2.St} {H : Hp} {s : Shared} {k : Nat} {f a C : Addr} {fd : FuncData} {ps : List Str} {sp : Sp} {Q : VK}
/-- a call one deeper -/
theorem run_in (F : FnOk X.prog X.w X.K X.mg X.base CX0 k f fd ps sp) {A : Around} (hr : Room k A) (e0 : Env0 X.prog X.w X.K X.mg X.base A X.stack s H) (hb : Binds X.K fd ps []) (I : Inv X pins σ H s) (hq : sp [.ref a] H Q E0) :
    wpAny (model X.prog X.w) A (call (.ref f) [.ref a]) (EP X pins σ Q) X.xe s := by
  have hl : ([Value.ref a] ++ ([] : List Value)).length = ps.length := by
    have e := F.len _ _ _ _ hq
    exact e
  refine wpAny_call (codeAny_mono (F.run A X.stack s H ⟨[.ref a], []⟩ [.ref a] [.ref a] Q E0 hr e0 (hb s [.ref a] I.kIn hl) (.cons rfl .nil) hq) fun r s' z => ?_)
  cases r with
  | error e => exact (pass0 (X := X)) pins σ H s e s' I z
  | ok fl =>
    cases fl with
    | ret u => exact I.after z
    | next => exact z.elim
    | brk => exact z.elim
    | cont => exact z.elim
theorem call_lenO (O : OkS X.prog X.w X.K X.mg X.base C "__len__" k ["self"] sp) (hr : Room (k + 1) X.A) : CallR X (.builtin "len") (rLenO C sp) := by
  intro pins s σ H xs us Q I r h
  obtain ⟨a, dx, fs, rfl, ha, hq⟩ := h
  obtain ⟨f, fd, M, F, hb⟩ := O.ex
  rw [Vals.ref1 r]
  obtain ⟨mA, O2, _⟩ := ins_get I.hok ha
  obtain ⟨od, J, _⟩ := O2.look
  obtain ⟨m, hF⟩ := I.fr
  refine PySem.W.len_K hF I.ok.mod.kin J M.fnd M.isf (wpAny_mono (run_in F hr.in1 I.env0.in1 hb I hq) (fun u s' z => ?_) fun _ _ z => z)
  obtain ⟨v, H', I', rv, n, ev, hn, q⟩ := z
  subst ev
  obtain ⟨t, rfl⟩ := rv
  exact ⟨⟨by omega, by omega⟩, ⟨.int (n : Int), H', I'.tok _, ⟨_, rfl⟩, q⟩⟩
theorem call_strO (O : OkS X.prog X.w X.K X.mg X.base C "__str__" k ["self"] sp) (hr : Room (k + 2) X.A) : CallR X (.type "str") (rStrO C sp) := by
  intro pins s σ H xs us Q I r h
  obtain ⟨a, dx, fs, rfl, ha, hq⟩ := h
  obtain ⟨f, fd, M, F, hb⟩ := O.ex
  rw [Vals.ref1 r]
  obtain ⟨mA, O2, _⟩ := ins_get I.hok ha
  obtain ⟨od, J, _⟩ := O2.look
  refine PySem.W.kso_call (by have := hr.un; show X.A.units + 1 + 1 < _; omega) I.kIn J M.fnd M.isf (wpAny_mono (run_in F hr.in1.in1 I.env0.in1.in1 hb I hq) (fun u s' z => ?_) fun _ _ z => z)
  obtain ⟨v, H', I', rv, y, ev, q⟩ := z
  subst ev
  obtain ⟨t, rfl⟩ := rv
  exact ⟨.str y, H', I', ⟨_, rfl⟩, q⟩
end
end Tm

/-! x == y, x != y of two objects of one class that has its own __eq__ and no __ne__. -/
namespace TmN
open PySem PySem.Spec PyProof.Rows PySem.W PySem.Builtin
section
variable {prog : Program} {w : World} {A : Around} {E : Value → Shared → Prop} {s : Shared} {K : Frag} {x y f C : Addr} {ox oy : Obj} {od od' : Option Obj}
theorem slot_bound {M : Model} {name : Str} {id : String} {args : List Value} {Q : Option Value → Shared → Prop} (X : K.In s.heap) (I : InstAt s.heap x ox C od) (hs : findIn K (.ref C) name = some (some (.builtin id)))
    (hb : ∀ self, bindSpecial (.builtin id) self = pure (.builtin id, [self])) (h : wpAny M A (call (.builtin id) (.ref x :: args)) (fun v => Q (some v)) E s) : wpAny M A (callSpecialIfBound? (.ref x) name args) Q E s := by
  simp only [callSpecialIfBound?, bindSpecialIfBound?]
  refine wpAny_holding (wpAny_bind (wpAny_bind (wpAny_bind (I.type.here ((looks_findIn X hs).here ?_)))))
  simp only [hb]
  refine wpAny_bind (wpAny_askSetting (wpAny_ite ?_))
  have last : wpAny M A (call (.builtin id) ([.ref x] ++ args) >>= fun v => pure (some v)) Q E s := wpAny_bind (wpAny_mono h (fun v s' z => wpAny_pure z) fun _ _ z => z)
  split
  · exact wpAny_bind (wpAny_pure (wpAny_pure last))
  · exact wpAny_tryCatch (wpAny_bind (wpAny_pure (wpAny_pure last)))
def BlBack (Q : Value → Shared → Prop) (v : Value) (s' : Shared) : Prop := ∃ b : Bool, v = .bool b ∧ Q (.bool (!b)) s'
theorem obj_ne {Q : Value → Shared → Prop} (hu : A.in1.units < cLine) (X : K.In s.heap) (I : InstAt s.heap x ox C od) (hm : mroIn K C (.type "object") = some true) (he : findIn K (.ref C) "__eq__" = some (some (.ref f))) (hf : isFn K (.ref f) = true)
    (h : wpAny (model prog w) A.in1 (call (.ref f) [.ref x, .ref y]) (BlBack Q) E s) : wpAny (model prog w) A (call (.builtin "object.__ne__") [.ref x, .ref y]) Q E s := by
  refine wpAny_call (codeAny_call_builtin PySem.F.cmp_object.ne.plain PySem.F.cmpEntry_ne (check_slot (i := "object.__ne__") (owner := "object") (n := "__ne__") (by decide +kernel) (by decide +kernel) (I.type.andThen (looks_mroIn X hm)) (PySem.F.cmpArgs_ne _ _) ?_))
  unfold Builtin.«object.__ne__»
  refine wpAny_bind (m := slotArgs "__ne__" 1 _) (wpAny_pure ?_)
  refine wpAny_bind (m := cRoomFor _ _) (wpAny_cRoomFor hu ?_)
  refine wpAny_bind (m := callSpecialIfBound? (.ref x) (Str.ofString "__eq__") [.ref y]) (ifBound_K X I he hf (wpAny_mono h (fun r s' hq => ?_) fun _ _ z => z))
  obtain ⟨b, rfl, q⟩ := hq
  exact wpAny_bind (wpAny_truthy_bool (wpAny_pure q))
theorem ne_own {Q : Value → Shared → Prop} (hu : A.units < cLine) (hu1 : A.in1.units < cLine) (X : K.In s.heap) (I : InstAt s.heap x ox C od) (J : InstAt s.heap y oy C od') (hn : findIn K (.ref C) "__ne__" = some (some (.builtin "object.__ne__")))
    (hm : mroIn K C (.type "object") = some true) (he : findIn K (.ref C) "__eq__" = some (some (.ref f))) (hf : isFn K (.ref f) = true)
    (h : wpAny (model prog w) A.in1 (call (.ref f) [.ref x, .ref y]) (BlBack Q) E s) : wpAny (model prog w) A (richCompare .NotEq (.ref x) (.ref y)) Q E s := by
  unfold richCompare
  simp only [oneThing_ref]
  refine wpAny_holding (wpAny_bind (wpAny_cRoomFor hu ?_))
  refine wpAny_bind (I.type.here (wpAny_bind (J.type.here ?_)))
  rw [show (Value.ref C != Value.ref C) = false from by simp]
  simp only [Bool.false_eq_true, if_false]
  refine wpAny_bind (wpAny_pure ?_)
  simp only [Bool.false_eq_true, if_false]
  refine wpAny_bind (m := tryCompare (.ref x) "__ne__" (.ref y)) ?_
  unfold tryCompare
  refine wpAny_bind (slot_bound X I hn PySem.F.cmp_object.ne.bind (obj_ne hu1 X I hm he hf (wpAny_mono h (fun r s' z => ?_) fun _ _ z => z)))
  obtain ⟨b, rfl, q⟩ := z
  exact ⟨b, rfl, wpAny_pure (wpAny_pure q)⟩
end
end TmN
namespace Tm
open PySem PySem.Spec PyProof.Rows L2
/-- what the == of the class tells, or its contrary -/
def rEqO (C : Addr) (sp : Sp) (neg : Bool) : R2 := fun x y H Q => ∃ a b dx dy fs gs, x = .ref a ∧ y = .ref b ∧ H a = some (.ins C dx fs) ∧ H b = some (.ins C dy gs) ∧ sp [.ref a, .ref b] H (fun v H' => ∃ c : Bool, v = .bl c ∧ Q (.bl (if neg then !c else c)) H') E0
section
variable {X : Cx} {pins : List (Addr × Obj)} {σ : L2.St} {H : Hp} {s : Shared} {k : Nat} {f a b C : Addr} {fd : FuncData} {ps : List Str} {sp : Sp} {Q : VK}
theorem run_in2 (F : FnOk X.prog X.w X.K X.mg X.base CX0 k f fd ps sp) {A : Around} (hr : Room k A) (e0 : Env0 X.prog X.w X.K X.mg X.base A X.stack s H) (hb : Binds X.K fd ps []) (I : Inv X pins σ H s) (hq : sp [.ref a, .ref b] H Q E0) :
    wpAny (model X.prog X.w) A (call (.ref f) [.ref a, .ref b]) (EP X pins σ Q) X.xe s := by
  have hl : ([Value.ref a, .ref b] ++ ([] : List Value)).length = ps.length := F.len _ _ _ _ hq
  refine wpAny_call (codeAny_mono (F.run A X.stack s H ⟨[.ref a, .ref b], []⟩ [.ref a, .ref b] [.ref a, .ref b] Q E0 hr e0 (hb s [.ref a, .ref b] I.kIn hl) (.cons rfl (.cons rfl .nil)) hq) fun r s' z => ?_)
  cases r with
  | error e => exact (pass0 (X := X)) pins σ H s e s' I z
  | ok fl =>
    cases fl with
    | ret u => exact I.after z
    | next => exact z.elim
    | brk => exact z.elim
    | cont => exact z.elim
/-- the class has its own == and no != -/
structure EqM (K : PySem.W.Frag) (C : Addr) : Prop where
  ne : PySem.W.findIn K (.ref C) "__ne__" = some (some (.builtin "object.__ne__"))
  mr : PySem.W.mroIn K C (.type "object") = some true
theorem op_eqO (O : OkS X.prog X.w X.K X.mg X.base C "__eq__" k ps sp) (hr : Room k X.A) : OpR X (compareOp .Eq) (rEqO C sp false) := by
  intro pins s σ H x y v u Q I rx ry h
  obtain ⟨a, b, dx, dy, fs, gs, rfl, rfl, ha, hb2, hq⟩ := h
  obtain ⟨f, fd, M, F, hb⟩ := O.ex
  cases rx
  cases ry
  obtain ⟨mA, O2, _⟩ := ins_get I.hok ha
  obtain ⟨mB, O3, _⟩ := ins_get I.hok hb2
  obtain ⟨od, J, _⟩ := O2.look
  obtain ⟨od', J', _⟩ := O3.look
  obtain ⟨m, hF⟩ := I.fr
  refine PySem.W.cmp_ofEq (PySem.W.cmp_K (op := .Eq) (tb := .ref C) (by have := hr.un; omega) hF I.ok.mod.kin J J'.type (by simp [PySem.W.notFirst]) M.fnd M.isf (wpAny_mono (run_in2 F hr I.env0 hb I hq) (fun r s' z => ?_) fun _ _ z => z))
  obtain ⟨v, H', I', rv, c, ev, q⟩ := z
  subst ev
  have er : r = Value.bool c := rv
  subst er
  exact ⟨.bl c, H', I', rfl, q⟩
theorem op_neO (O : OkS X.prog X.w X.K X.mg X.base C "__eq__" k ps sp) (N : EqM X.K C) (hr : Room (k + 1) X.A) : OpR X (compareOp .NotEq) (rEqO C sp true) := by
  intro pins s σ H x y v u Q I rx ry h
  obtain ⟨a, b, dx, dy, fs, gs, rfl, rfl, ha, hb2, hq⟩ := h
  obtain ⟨f, fd, M, F, hb⟩ := O.ex
  cases rx
  cases ry
  obtain ⟨mA, O2, _⟩ := ins_get I.hok ha
  obtain ⟨mB, O3, _⟩ := ins_get I.hok hb2
  obtain ⟨od, J, _⟩ := O2.look
  obtain ⟨od', J', _⟩ := O3.look
  refine PySem.W.cmp_ofNotEq (TmN.ne_own (by have := hr.un; omega) (by have := hr.un; show X.A.units + 1 < _; omega) I.kIn J J' N.ne N.mr M.fnd M.isf (wpAny_mono (run_in2 F hr.in1 I.env0.in1 hb I hq) (fun r s' z => ?_) fun _ _ z => z))
  obtain ⟨v, H', I', rv, c, ev, q⟩ := z
  subst ev
  have er : r = Value.bool c := rv
  subst er
  exact ⟨c, rfl, ⟨.bl (!c), H', I', rfl, q⟩⟩
end
end Tm

/-! Tables compared. -/
namespace Tm
open PySem PySem.Spec PyProof.Rows L2
/-! ### rows as data -/
def pD (p : Int × Int) : PyData := .tuple [.int p.1, .int p.2]
def rD (r : Row) : PyData := .tuple (r.map pD)
theorem dp_pair {K : PySem.W.Frag} {H : Hp} {v : V} {p : Int × Int} (h : PairV H v p) : Dp K H v (pD p) := by
  obtain ⟨a, rfl, h⟩ := h
  exact .tup (SqT.of h) (.cons (.int _) (.cons (.int _) .nil))
theorem dp_pairs {K : PySem.W.Frag} {H : Hp} : ∀ {vs : List V} {r : Row}, Paired (PairV H) vs r → DpAll K H vs (r.map pD)
  | _, _, .nil => .nil
  | _, _, .cons h t => .cons (dp_pair h) (dp_pairs t)
theorem dp_row {K : PySem.W.Frag} {H : Hp} {v : V} {r : Row} (h : RowV H v r) : Dp K H v (rD r) := by
  obtain ⟨a, vs, rfl, h1, h2⟩ := h
  exact .tup (SqT.of h1) (dp_pairs h2)
theorem can_pairs : ∀ r : Row, PyData.canLayAll0 (r.map pD) = true
  | [] => rfl
  | p :: r => by
    show (PyData.canLay0 (pD p) && PyData.canLayAll0 (r.map pD)) = true
    rw [can_pairs r]
    rfl
theorem depth_pairs : ∀ r : Row, PyData.depthAll (r.map pD) ≤ 1
  | [] => Nat.zero_le _
  | p :: r => by
    show max (PyData.depth (pD p)) (PyData.depthAll (r.map pD)) ≤ 1
    exact Nat.max_le.mpr ⟨Nat.le_refl 1, depth_pairs r⟩
theorem shaped_row (r : Row) : SeqAt.shaped (rD r) = true := by
  have h1 : PyData.canLay0 (rD r) = true := can_pairs r
  have h2 : PyData.depth (rD r) ≤ 64 := by
    show PyData.depthAll (r.map pD) + 1 ≤ 64
    have := depth_pairs r
    omega
  unfold SeqAt.shaped
  rw [h1, decide_eq_true h2]
  rfl
theorem eqv_pD (p q : Int × Int) : PyData.eqv (pD p) (pD q) = decide (p = q) := by
  show (PyData.eqv (.int p.1) (.int q.1) && (PyData.eqv (.int p.2) (.int q.2) && true)) = _
  show ((p.1 == q.1) && ((p.2 == q.2) && true)) = _
  obtain ⟨a, b⟩ := p
  obtain ⟨c, d⟩ := q
  rw [Bool.eq_iff_iff]
  simp
theorem eqv_pairs : ∀ r s : Row, PyData.eqvAll (r.map pD) (s.map pD) = decide (r = s)
  | [], [] => rfl
  | [], _ :: _ => by simp [PyData.eqvAll]
  | _ :: _, [] => by simp [PyData.eqvAll]
  | p :: r, q :: s => by
    show (PyData.eqv (pD p) (pD q) && PyData.eqvAll (r.map pD) (s.map pD)) = _
    rw [eqv_pD, eqv_pairs r s, Bool.eq_iff_iff]
    simp
theorem eqv_row (r s : Row) : PyData.eqv (rD r) (rD s) = decide (r = s) := eqv_pairs r s
theorem row_det {H : Hp} {v : V} {r s : Row} (h : RowV H v r) (k : RowV H v s) : r = s := by
  have e : ∀ {vs : List V} {r s : Row}, Paired (PairV H) vs r → Paired (PairV H) vs s → r = s := by
    intro vs
    induction vs with
    | nil =>
      intro r s h k
      cases h
      cases k
      rfl
    | cons v vs ih =>
      intro r s h k
      cases h with
      | cons h1 h2 =>
        cases k with
        | cons k1 k2 =>
          obtain ⟨a, rfl, e1⟩ := h1
          obtain ⟨b, eb, e2⟩ := k1
          cases eb
          rw [e1] at e2
          simp only [Option.some.injEq, HO.tup.injEq, List.cons.injEq, V.int.injEq, and_true] at e2
          rw [Prod.ext e2.1 e2.2, ih h2 k2]
  obtain ⟨a, vs, rfl, h1, h2⟩ := h
  obtain ⟨b, ws, eb, k1, k2⟩ := k
  cases eb
  rw [h1] at k1
  cases k1
  exact e h2 k2
/-! ### tables compared -/
def sameT (t u : Tab) : Bool := decide (t.length = u.length) && t.all fun e => decide (e ∈ u)
section
variable {X : Cx} {pins : List (Addr × Obj)} {σ : L2.St} {H : Hp} {s : Shared}
theorem row_eqAt (I : Inv X pins σ H s) {A : Around} (hu : A.units + 64 < cLine) {x y : V} {r q : Row} {v u : Value} (hx : RowV H x r) (hy : RowV H y q) (rx : RelV x v) (ry : RelV y u) : SeqAt.EqAt A s v u (decide (r = q)) := by
  obtain ⟨as, r1⟩ := Dp.reads I (rD r) x v (dp_row hx) rx
  obtain ⟨bs, r2⟩ := Dp.reads I (rD q) y u (dp_row hy) ry
  obtain ⟨a, _, ea, _⟩ := id hx
  obtain ⟨b, _, eb, _⟩ := id hy
  subst ea eb
  cases rx
  cases ry
  by_cases g : a = b
  · subst g
    rw [row_det hx hy, decide_eq_true rfl]
    exact SeqAt.EqAt.same _
  · refine SeqAt.EqAt.of_refs g fun prog w E Q hq => ?_
    refine SeqAt.compareEq_shaped r1 r2 (shaped_row r) (shaped_row q) hu ?_
    rw [eqv_row]
    exact hq
theorem tab_hits (I : Inv X pins σ H s) {A : Around} (hu : A.units + 64 < cLine) {kb : List (L2.Key × V)} {vb : List (L2.Key × Value)} {u : Tab} (rb : KV kb vb) (hb : TabV H kb u) (nd : (namesT u).Nodup) :
    ∀ {ka : List (L2.Key × V)} {va : List (L2.Key × Value)} {t : Tab}, KV ka va → TabV H ka t → PySem.W.KeqHits A s vb va (t.all fun e => decide (e ∈ u))
  | _, _, _, .nil, .nil => .nil
  | _, q :: _, e :: t, .cons r1 ra, .cons h1 ht => by
    obtain ⟨k1, v1⟩ := r1
    obtain ⟨h1, h2⟩ := h1
    obtain ⟨key, v⟩ := q
    have ek : key = Sum.inr e.1 := (show key = _ from k1.symm).trans h1
    subst ek
    have ih := tab_hits I hu rb hb nd ra ht
    show PySem.W.KeqHits A s vb ((Sum.inr e.1, v) :: _) (decide (e ∈ u) && t.all fun e => decide (e ∈ u))
    have rr : RelO (valV kb (Sum.inr e.1)) (valueAt vb (Sum.inr e.1)) := rb.val _
    by_cases g : e.1 ∈ namesT u
    · obtain ⟨⟨x, row⟩, hm, ex⟩ := List.mem_map.mp g
      have ex2 : x = e.1 := ex
      subst ex2
      obtain ⟨y, hy, hrow⟩ := tab_look hb nd hm
      rw [hy] at rr
      obtain ⟨z, hz, rz⟩ := rr.some_of
      have ed : decide (e ∈ u) = decide (e.2 = row) := decide_eq_decide.mpr ⟨fun me => row_unique nd (x := e.1) me hm, fun er => by rw [← er] at hm; exact hm⟩
      rw [ed]
      exact .hit hz (row_eqAt I hu h2 hrow v1 rz) ih
    · have hn : valV kb (Sum.inr e.1) = none := by
        have := tab_isSome e.1 hb
        rw [decide_eq_false g] at this
        cases hv : valV kb (Sum.inr e.1) with
        | none => rfl
        | some _ => rw [hv] at this; cases this
      rw [hn] at rr
      have hz : valueAt vb (Sum.inr e.1) = none := by
        cases hv : valueAt vb (Sum.inr e.1) with
        | none => rfl
        | some _ => rw [hv] at rr; exact rr.elim
      have ed : decide (e ∈ u) = false := decide_eq_false fun me => g (List.mem_map.mpr ⟨e, me, rfl⟩)
      rw [ed]
      exact .miss hz
end
section
variable {X : Cx}
def rTabs (neg : Bool) : R2 := fun x y H Q => ∃ a b ka kb t u, x = .ref a ∧ y = .ref b ∧ H a = some (.dK ka) ∧ H b = some (.dK kb) ∧ TabV H ka t ∧ TabV H kb u ∧ (namesT u).Nodup ∧ Q (.bl (if neg then !sameT t u else sameT t u)) H
theorem op_eqTab (hu : X.A.units + 65 < cLine) : OpR X (compareOp .Eq) (rTabs false) := by
  intro pins s σ H x y v w Q I rx ry h
  obtain ⟨a, b, ka, kb, t, u, rfl, rfl, ea, eb, ht, hu', nd, q⟩ := h
  cases rx
  cases ry
  obtain ⟨_, ya, va, ra, da⟩ := (show ObjOk X.prog X.w H s.heap a (.dK ka) from I.hok a _ ea)
  obtain ⟨_, yb, vb, rb, db⟩ := (show ObjOk X.prog X.w H s.heap b (.dK kb) from I.hok b _ eb)
  have hl : va.length = t.length := by rw [← ra.length]; exact Paired.length ht
  have hl2 : vb.length = u.length := by rw [← rb.length]; exact Paired.length hu'
  exact PySem.W.keq_eq (knd := mixKind X.prog X.w) ya yb da db (by omega) (fun _ => tab_hits I (A := X.A.in1) (by show X.A.units + 1 + 64 < _; omega) rb hu' nd ra ht) (fin_bl I q (by
    unfold sameT
    rw [hl, hl2, Bool.eq_iff_iff]
    simp))
theorem op_neTab (hu : X.A.units + 65 < cLine) : OpR X (compareOp .NotEq) (rTabs true) := by
  intro pins s σ H x y v w Q I rx ry h
  obtain ⟨a, b, ka, kb, t, u, rfl, rfl, ea, eb, ht, hu', nd, q⟩ := h
  cases rx
  cases ry
  obtain ⟨_, ya, va, ra, da⟩ := (show ObjOk X.prog X.w H s.heap a (.dK ka) from I.hok a _ ea)
  obtain ⟨_, yb, vb, rb, db⟩ := (show ObjOk X.prog X.w H s.heap b (.dK kb) from I.hok b _ eb)
  have hl : va.length = t.length := by rw [← ra.length]; exact Paired.length ht
  have hl2 : vb.length = u.length := by rw [← rb.length]; exact Paired.length hu'
  exact PySem.W.keq_ne (knd := mixKind X.prog X.w) ya yb da db (by omega) (fun _ => tab_hits I (A := X.A.in1) (by show X.A.units + 1 + 64 < _; omega) rb hu' nd ra ht) (fin_bl I q (by
    unfold sameT
    rw [hl, hl2, Bool.eq_iff_iff]
    simp))
end
end Tm

/-! sep.join(d), d a dict of texts. -/
namespace TmJ
open PySem PySem.Spec PyProof.Rows PySem.Builtin
theorem no_len : typeLookup (.type "dict_keyiterator") "__len__" = pure none := by rw [typeLookup_type, builtinLookup_eq_fast]; kernel_rfl
theorem has_hint : typeLookup (.type "dict_keyiterator") "__length_hint__" = pure (some (.builtin "dict_keyiterator.__length_hint__")) := by rw [typeLookup_type, builtinLookup_eq_fast]; kernel_rfl
section
variable {prog : Program} {w : World} {A : Around} {E : Value → Shared → Prop} {s : Shared} {J : Addr} {fp wr : List Addr} {G : Array GenState → Array GenState → Prop} {n : Nat} {Pi : Nat → Value → Prop} {St : Nat → Shared → Prop}
abbrev newL : Obj := { cls := .type "list", data := .seq ([] : List Value).toArray }
theorem gather_keys {Q : List Value → Shared → Prop} (W : WalksS prog w A.in1 J fp wr G n Pi St) (ty : ∀ i s, St i s → s.TypeIs (.ref J) "dict_keyiterator") (st0 : St 0 s) (below : ∀ b ∈ fp, b < s.heap.objs.size) (own : J ∈ fp) (hn : n ≤ sizeLine)
    (hq : ∀ s2 got, Moved wr G s s2 → ItemsOf Pi got n → Q got.toList s2) : wpAny (model prog w) A (collect (.ref J)) Q E s := by
  have out : s.heap.objs.size ∉ fp := fun m => absurd (below _ m) (Nat.lt_irrefl _)
  have apart : s.heap.objs.size ≠ J := fun e => out (by rw [e]; exact own)
  unfold collect
  refine wpAny_bind (wpAny_runValue (codeAny_builtin F.entry_proto_collect ?_))
  rw [Around.under_plainId F.plain_proto_collect _]
  show wpAny _ A.in1 (newList [] >>= fun L => again (.builtin "list.__iadd__" ⟨[L, .ref J], []⟩)) _ _ s
  refine wpAny_bind (wpAny_newObj_type (wpAny_pure ⟨plainId_quiet F.plain_list_iadd _, codeAny_builtin F.entry_list_iadd ?_⟩))
  rw [Around.under_plainId F.plain_list_iadd _]
  have st1 := W.frame 0 s (s.heap.push newL) s.toks st0 (Nat.le_refl _) fun b _ o e => Heap.get?_push_of_some _ e
  have at1 : (s.heap.push newL).get? s.heap.objs.size = some newL := Heap.get?_push_size _ rfl
  have ns : List.listSameRef (.ref s.heap.objs.size) (.ref J) = false := by simp [List.listSameRef, apart]
  show wpAny _ A.in1 (List.listExtendWith (.ref s.heap.objs.size) (.ref J) (.ref s.heap.objs.size)) _ _ _
  unfold List.listExtendWith
  refine wpAny_bind (wpAny_typeOf (ty 0 _ st1) ?_)
  rw [if_neg (by rw [ns]; decide)]
  refine wpAny_bind (W.self 0 _ _ _ st1 (wpAny_bind (wpAny_holding ?_)))
  unfold List.listLengthHint
  refine wpAny_bind (wpAny_specialOf (ty 0 _ st1) no_len ?_)
  show wpAny _ A.in1 (specialOf (Value.ref J) (Str.ofString "__length_hint__") >>= _) _ _ _
  refine wpAny_bind (wpAny_specialOf (ty 0 _ st1) has_hint ?_)
  generalize hx : ("dict_keyiterator.__length_hint__" : String) = x0
  (fail_if_success (clear hx x0))
  wp_delta
  rw [show splitId x0 = some ("dict_keyiterator", "__length_hint__") from by subst hx; decide +kernel]
  subst hx
  refine wpAny_bind (wpAny_isInstance (b := true) (ty 0 _ st1) (by rw [isSubtype_type]; kernel_rfl) (wpAny_pure ?_))
  rw [if_neg (by decide)]
  refine wpAny_pure ⟨plainId_quiet F.plain_extend_loop _, codeAny_extend_loopS W hn _ out _ n 0 _ _ _ rfl (Nat.zero_le _) st1 at1 (ItemsOf.nil Pi) fun s2 got c mv at2 it => ?_⟩
  show wpAny _ A (load s.heap.objs.size >>= _) _ _ s2
  exact wpAny_bind (wpAny_load at2 (wpAny_pure (hq s2 got (Moved.drop_new (o := newL) (tk := s.toks) mv (Nat.le_refl _)) it)))
end
end TmJ
namespace TmJ
open PySem PySem.Spec PyProof.Rows PySem.Builtin
section
variable {prog : Program} {w : World} {A : Around} {E : Value → Shared → Prop} {s : Shared} {x : Str} {t : Tok} {d : Addr} {kvs : List (L2.Key × Value)} {ep : Nat}
theorem join_dict {Q : Value → Shared → Prop} (hh : A.handled = none) (hd : (d == sysModules) = false) (hm : s.heap.DictAt (L2.mixKind prog w) d kvs ep) (hn : kvs.length ≤ sizeLine) (ys : List Str)
    (hv : ∀ got : List Value, got.length = kvs.length → (∀ (i : Nat) (v : Value), got[i]? = some v → ∃ k x, kvs[i]? = some (k, x) ∧ (L2.mixKind prog w).is k v = true) → StrsAre got ys)
    (hok : (ys.map (·.length)).sum + ys.length * x.length ≤ 16777216) (hq : ∀ (h' : Heap) (t' : Tok) (k : Nat), (∀ b o, s.heap.get? b = some o → h'.get? b = some o) → Q (.str (Txt.join x ys) t') { s with heap := h', toks := k }) :
    wpAny (model prog w) A (call (.builtin "str.join") [.str x t, .ref d]) Q E s := by
  have dty : s.TypeIs (.ref d) "dict" := hm.dictOf.typeIs
  have hlt : d < s.heap.objs.size := by
    obtain ⟨o, es, ho, _⟩ := id hm
    exact Heap.lt_size ho
  have hne : d ≠ s.heap.objs.size := Nat.ne_of_lt hlt
  refine wpAny_call (codeAny_call_builtin F.slot_str_join.plain F.entry_str_join (F.slot_str_join.check _ _ _ _ _ _ _ _ (typeIs_str _ _ _) (F.args_str_join_2 _ _) ?_))
  rw [join_tree_other]
  refine wpAny_bind (wpAny_typeOf dty ?_)
  show wpAny _ A.in1 ((pyIter (.ref d)).tryCatch _ >>= fun it => collect it >>= fun items => joinTail x items) _ _ s
  refine wpAny_bind (wpAny_tryCatch (wpAny_pyIter_dict hd hm ?_))
  have W := (Walks.dictKeys (knd := L2.mixKind prog w) (A := A.in1.in1) hh s.heap.objs.size d hne kvs ep).toS
  refine wpAny_bind (gather_keys W (fun i s st => st.1.typeIs) ⟨⟨_, Heap.get?_push_size _ rfl, rfl, rfl⟩, hm.push _⟩ (fun b hb => ?_) List.mem_cons_self hn fun s2 got mv hg => ?_)
  · have hsz : ∀ o : Obj, (s.heap.push o).objs.size = s.heap.objs.size + 1 := fun o => by simp [Heap.push]
    rw [hsz]
    rcases List.mem_cons.mp hb with z | z
    · rw [z]
      exact Nat.lt_succ_self _
    · rw [List.mem_singleton.mp z]
      exact Nat.lt_succ_of_lt hlt
  · obtain ⟨L, hL, hy⟩ := strsAre_values (hv got.toList (by rw [Array.length_toList]; exact hg.1) fun i v e => hg.2 i v (by rw [← Array.getElem?_toList]; exact e))
    subst hy
    rw [hL]
    have fit := joinOk_of hok
    unfold JoinOk at fit
    rw [Bool.not_eq_true'] at fit
    have g : Gives (joinTail x (strValues L)) (joinMade x L) := by
      have g0 := gives_joinTail x L fit
      cases L with
      | nil => exact g0
      | cons p r => cases r with
        | nil => exact g0
        | cons q r' => exact g0
    have es : s2 = { s with heap := s2.heap, toks := s2.toks } := by
      obtain ⟨h2, g2, d2, t2, o2⟩ := s2
      have e1 : g2 = s.gens := mv.gens
      have e2 : d2 = s.drawn := mv.drawn
      have e3 : o2 = s.os := mv.os
      rw [e1, e2, e3]
    have keep : ∀ b o, s.heap.get? b = some o → s2.heap.get? b = some o := fun b o e => mv.heap b o (fun hb => by
      rw [List.mem_singleton.mp hb] at e
      exact absurd (Heap.lt_size e) (Nat.lt_irrefl _)) (Heap.get?_push_of_some _ e)
    refine g prog w A (wants Q E) s2 (post_join L ⟨joinFit_length fit, fun t' k => ?_⟩)
    rw [es]
    exact hq s2.heap t' k keep
end
end TmJ
namespace Tm
open PySem PySem.Spec PyProof.Rows L2
/-- sep.join(d) -/
theorem mt_joinD {X : Cx} (hc : X.calm = true := by rfl) : MtR X "str.join" (fun x xs H Q => ∃ (a : Str) (d : Addr) (kvs : List (L2.Key × V)) (ys : List Str), x = .str a ∧ xs = [.ref d] ∧ H d = some (.dK kvs) ∧ kvs.map (·.1) = ys.map Sum.inr ∧
    (ys.map (·.length)).sum + ys.length * a.length ≤ 16777216 ∧ Q (.str (Txt.join a ys)) H) := by
  intro pins s σ H x xs v us Q I rx rs h
  obtain ⟨a, d, kvs, ys, rfl, rfl, hd, hk, hz, q⟩ := h
  obtain ⟨t, rfl⟩ := rx
  rw [Vals.ref1 rs]
  obtain ⟨hl, sys, vs, kv, hdo⟩ := I.hok d _ hd
  obtain ⟨ep, hat⟩ := hdo.dictAt
  have lk : kvs.length = vs.length := Paired.length kv
  refine TmJ.join_dict (I.ok.hd hc) sys hat (by rw [← lk]; exact hl) ys (fun got hg hi => ?_) hz fun h' t' k keep => ⟨.str _, H, I.kept keep, ⟨t', rfl⟩, q⟩
  have ev : (kvs.map fun e => kV e.1) = ys.map V.str := by
    have e1 := congrArg (List.map kV) hk
    rw [List.map_map, List.map_map] at e1
    exact e1
  have r := vals_keys kv got hg hi
  rw [ev] at r
  exact strs_of_vals r
end Tm

/-! Kind: size, operations, len, ==, str. -/
namespace Tm
open PySem PySem.Spec PyProof.Rows L2
local macro_rules | `(tactic| walk_at "x") => `(tactic| dsimp only [tNext, tRet, tSeq, tCall, tCB, tC, tCons, tNil, tAsg, tDrop, sFld])
structure DfS (K : PySem.W.Frag) (C : Addr) (m q : Str) (st : Stmt) (ps : List Str) : Prop where
  ex : ∃ (f : Addr) (fd : FuncData), SpM K C m f ∧ Fun K m q st f fd ∧ Binds K fd ps []
section
variable {P : Program} {w : World} {K : PySem.W.Frag} {mg : Str → Option Value} {base : Heap} {C : Addr} {m q x : Str} {st : Stmt} {ps N : List Str} {k : Nat} {sp : Sp}
theorem DfS.ok (D : DfS K C m q st ps) (S : FnScope N ps (defScope st)) (len : ∀ vs H Q E, sp vs H Q E → vs.length = ps.length) (hb : BodyOk P w K mg base q st N k sp) : OkS P w K mg base C m (k + 1) ps sp := by
  obtain ⟨f, fd, h1, h2, h3⟩ := D.ex
  exact ⟨f, fd, h1, h2.ok S len (fun cdv A outer s H vs Q E hr h => hb f cdv A outer s H vs Q E hr h), h3⟩
end
/-- what is true of the class, further -/
structure KcE (K : PySem.W.Frag) (C : Addr) : Prop where
  is_ : PySem.W.kitOne K (.ref C) (.ref C) = some true
  cla : PySem.W.findIn K (.ref C) "__class__" = some (some (.builtin "object.__class__"))
  cg : PySem.W.specialIn K (.builtin "object.__class__") "__get__" = some (some (.builtin "getset_descriptor.__get__"))
  ct : PySem.W.takesIn K (.builtin "object.__class__") = some true
  mr : PySem.W.mroIn K C (.type "object") = some true
section
variable {P : Program} {w : World} {K : PySem.W.Frag} {mg : Str → Option Value} {base : Heap} {C : Addr}
abbrev s_size : Stmt := inClass (top 19) 3
theorem sc_size : FnScope ["self"] ["self"] (defScope s_size) := ⟨rfl, rfl, rfl, by decide +kernel, rfl, by decide +kernel, by decide +kernel⟩
def sp_size (C : Addr) : Sp := fun vs H Q _ => ∃ (v : V) (t : Tab), vs = [v] ∧ KindV C H v t ∧ Q (.int (sizeT t : Int)) H
theorem ok_size (T : Kc K C) (D : DfP K C "size" "Kind.size" s_size) : OkP P w K mg base C "size" 1 (sp_size C) := by
  refine D.ok sc_size (fun vs H Q E h => ?_) (fun f cdv A outer s H vs Q E hr h => ?_)
  · obtain ⟨v, t, rfl, _⟩ := h
    rfl
  · obtain ⟨v, t, rfl, ⟨a, dx, d, kvs, rfl, ha, hd, ht, hok, nd, hst⟩, q⟩ := h
    exact ⟨_, pss_one (ps_ret (pe_fld (pv 0) rfl)), _, rfl, a, C, dx, _, _, rfl, ha, T.cl, T.nS, kf_S _ _, q⟩
abbrev s_ops : Stmt := inClass (top 19) 1
theorem sc_ops : FnScope ["self"] ["self"] (defScope s_ops) := ⟨rfl, rfl, rfl, by decide +kernel, rfl, by decide +kernel, by decide +kernel⟩
def sp_ops (C : Addr) : Sp := fun vs H Q _ => ∃ (v : V) (t : Tab), vs = [v] ∧ KindV C H v t ∧ ∀ p kvs, H p = none → TabV H kvs t → Q (.ref p) (upd H p (.dK kvs))
theorem ok_ops (B : Bt mg) (T : Kc K C) (D : DfP K C "operations" "Kind.operations" s_ops) : OkP P w K mg base C "operations" 1 (sp_ops C) := by
  refine D.ok sc_ops (fun vs H Q E h => ?_) (fun f cdv A outer s H vs Q E hr h => ?_)
  · obtain ⟨v, t, rfl, _⟩ := h
    rfl
  · obtain ⟨v, t, rfl, ⟨a, dx, d, kvs, rfl, ha, hd, ht, hok, nd, hst⟩, q⟩ := h
    refine ⟨_, pss_one (ps_ret (pe_callTy call_dictD (by rfl) B.dict (by decide +kernel) (pa_cons (pe_fld (pv 0) rfl) (pa_nil)))), ?_⟩
    exact ⟨_, rfl, a, C, dx, _, _, rfl, ha, T.cl, T.nT, kf_T _ _, d, kvs, rfl, .inl hd, fun p hp => q p kvs hp ht⟩
abbrev s_klen : Stmt := inClass (top 19) 15
theorem sc_klen : FnScope ["self"] ["self"] (defScope s_klen) := ⟨rfl, rfl, rfl, by decide +kernel, rfl, by decide +kernel, by decide +kernel⟩
def sp_klen (C : Addr) : Sp := fun vs H Q _ => ∃ (v : V) (t : Tab), vs = [v] ∧ KindV C H v t ∧ Q (.int (t.length : Int)) H
theorem ok_klen (B : Bt mg) (T : Kc K C) (D : DfS K C "__len__" "Kind.__len__" s_klen ["self"]) : OkS P w K mg base C "__len__" 1 ["self"] (sp_klen C) := by
  refine D.ok sc_klen (fun vs H Q E h => ?_) (fun f cdv A outer s H vs Q E hr h => ?_)
  · obtain ⟨v, t, rfl, _⟩ := h
    rfl
  · obtain ⟨v, t, rfl, ⟨a, dx, d, kvs, rfl, ha, hd, ht, hok, nd, hst⟩, q⟩ := h
    refine ⟨_, pss_one (ps_ret (pe_callB call_lenD (by rfl) B.len (by decide +kernel) (pa_cons (pe_fld (pv 0) rfl) (pa_nil)))), ?_⟩
    refine ⟨_, rfl, a, C, dx, _, _, rfl, ha, T.cl, T.nT, kf_T _ _, ?_⟩
    have e : (kvs.length : Int) = (t.length : Int) := by rw [Paired.length ht]
    rw [← e] at q
    exact ⟨d, kvs, rfl, hd, q⟩
abbrev s_keq : Stmt := inClass (top 19) 16
theorem sc_keq : FnScope ["self", "other"] ["self", "other"] (defScope s_keq) := ⟨rfl, rfl, rfl, by decide +kernel, rfl, by decide +kernel, by decide +kernel⟩
def sp_keq (C : Addr) : Sp := fun vs H Q _ => ∃ (v u : V) (t s : Tab), vs = [v, u] ∧ KindV C H v t ∧ KindV C H u s ∧ Q (.bl (sameT t s)) H
theorem ok_keq (B : Bt mg) (T : Kc K C) (TE : KcE K C) (gC : mg "Kind" = some (.ref C)) (D : DfS K C "__eq__" "Kind.__eq__" s_keq ["self", "other"]) : OkS P w K mg base C "__eq__" 1 ["self", "other"] (sp_keq C) := by
  refine D.ok sc_keq (fun vs H Q E h => ?_) (fun f cdv A outer s H vs Q E hr h => ?_)
  · obtain ⟨v, u, t, s, rfl, _⟩ := h
    rfl
  · obtain ⟨v, u, t, s', rfl, ⟨a, dx, d, kvs, rfl, ha, hd, ht, hok, nd, hst⟩, ⟨b, dy, e, kvu, rfl, hb, he, hu, hok2, nd2, hst2⟩, q⟩ := h
    have hu65 : (A.deeper (envOfC "Kind.__eq__" (defScope s_keq) s.heap.objs.size f cdv)).units + 65 < cLine := by
      have := hr.un
      omega
    refine ⟨_, pss_one (ps_ret (pe_and (pe_callB (isiK (K := K)) (by rfl) B.isinstance (by decide +kernel) (pa_cons (pv 1) (pa_cons (pe_glob (v := .ref C) (by rfl) gC rfl) (pa_nil)))) (pe_one (pe_cmpR (op_eqTab hu65) (pe_fld (pv 0) rfl) (pe_fld (pv 1) rfl) (nomark _))))), ?_⟩
    refine ⟨_, rfl, _, .ref C, _, _, true, rfl, .own C, .base (.ins hb T.cl TE.cla TE.cg TE.ct TE.mr), TE.is_, _, rfl, ?_⟩
    refine ifT rfl ?_
    exact ⟨_, rfl, a, C, dx, _, _, rfl, ha, T.cl, T.nT, kf_T _ _, _, rfl, b, C, dy, _, _, rfl, hb, T.cl, T.nT, kf_T _ _, d, e, kvs, kvu, t, s', rfl, rfl, hd, he, ht, hu, nd2, q⟩
theorem sum_le8 : ∀ l : List Str, (∀ x ∈ l, x.length ≤ 8) → (l.map (·.length)).sum ≤ 8 * l.length
  | [], _ => Nat.zero_le _
  | x :: l, h => by
    have h1 := h x List.mem_cons_self
    have h2 := sum_le8 l fun y hy => h y (List.mem_cons_of_mem _ hy)
    simp only [List.map_cons, List.sum_cons, List.length_cons]
    omega
theorem dig12 : ∀ n : Nat, n < 13 → (Str.ofString (toString (n : Int))).length ≤ 2 := by decide +kernel
abbrev s_kstr : Stmt := inClass (top 19) 17
theorem sc_kstr : FnScope ["self", "words"] ["self"] (defScope s_kstr) := ⟨rfl, rfl, rfl, by decide +kernel, rfl, by decide +kernel, by decide +kernel⟩
def strT (t : Tab) : Str := ((Str.empty ++ ("kind of " : Str)) ++ (toString (sizeT t : Int) : Str)) ++ (" states: " : Str) ++ Txt.join " " (namesT t)
def sp_kstr (C : Addr) : Sp := fun vs H Q _ => ∃ (v : V) (t : Tab), vs = [v] ∧ KindV C H v t ∧ Q (.str (strT t)) H
theorem ok_kstr (B : Bt mg) (T : Kc K C) (D : DfS K C "__str__" "Kind.__str__" s_kstr ["self"]) : OkS P w K mg base C "__str__" 1 ["self"] (sp_kstr C) := by
  refine D.ok sc_kstr (fun vs H Q E h => ?_) (fun f cdv A outer s H vs Q E hr h => ?_)
  · obtain ⟨v, t, rfl, _⟩ := h
    rfl
  · obtain ⟨v, t, rfl, ⟨a, dx, d, kvs, rfl, ha, hd, ht, hok, nd, hst⟩, q⟩ := h
    refine ⟨_, pss_cons (ps_set (i := 1) sc_kstr.nd rfl (.inl rfl) (pe_bm PySem.F.plainAttrs_str PySem.F.slot_str_join PySem.F.type_str_join mt_joinD (pe_str) (pa_cons (pe_fld (pv 0) rfl) (pa_nil))))
      (pss_one (ps_ret (pe_joined (.cons pe_str (.cons (pe_fmt (pe_fld (pv 0) rfl)) (.cons pe_str (.cons (pe_fmt (pv 1)) .nil))))))), ?_⟩
    have hok' := hok
    unfold okTab at hok'
    simp only [Bool.and_eq_true, decide_eq_true_eq] at hok'
    obtain ⟨⟨⟨⟨k1, k2⟩, k3⟩, k4⟩, k5⟩ := hok'
    have hs : ((namesT t).map (·.length)).sum ≤ 8 * (namesT t).length := sum_le8 _ fun x hx => by
      obtain ⟨e, he, rfl⟩ := List.mem_map.mp hx
      have := List.all_eq_true.mp k5 e he
      simp only [Bool.and_eq_true, okName, decide_eq_true_eq] at this
      exact this.1.1.2
    have hl : (namesT t).length = t.length := List.length_map ..
    have hj : (Txt.join " " (namesT t)).length ≤ 60 := by
      have h1 := StrLaws.join_length_le " " (namesT t)
      have h2 : ((" " : Str)).length = 1 := by decide +kernel
      rw [h2] at h1
      rw [show Txt.join " " (namesT t) = Str.join " " (namesT t) from TL.join_eq _ _]
      exact Nat.le_trans h1 (show ((namesT t).map (·.length)).sum + (namesT t).length * 1 ≤ 60 by omega)
    have hd12 := dig12 (sizeT t) (by omega)
    have l1 : ("kind of " : Str).length = 8 := by decide +kernel
    have l2 : (" states: " : Str).length = 9 := by decide +kernel
    have l0 : (Str.empty).length = 0 := rfl
    refine ⟨rfl, _, rfl, a, C, dx, _, _, rfl, ha, T.cl, T.nT, kf_T _ _, " ", d, kvs, namesT t, rfl, rfl, hd, tabV_keys ht, ?_, ?_⟩
    · have h2 : ((" " : Str)).length = 1 := by decide +kernel
      rw [h2]
      omega
    · refine ⟨"kind of ", rfl, by rw [Str.length_append]; exact sz_le (by omega), _, rfl, a, C, dx, _, _, rfl, ha, T.cl, T.nS, kf_S _ _, .inr ⟨_, rfl, ?_, _, rfl, ?_, " states: ", rfl, ?_, _, rfl, .inl ⟨Txt.join " " (namesT t), rfl, sz_le (Nat.le_trans hj (by decide)), _, rfl, ?_, q⟩⟩⟩
      · have : (sizeT t : Int).natAbs ≤ 12 := by omega
        have h3 : (sizeT t : Int).natAbs.log2 ≤ (sizeT t : Int).natAbs := Nat.log2_le_self _
        omega
      · refine sz_le ?_
        rw [Str.length_append, Str.length_append]
        have h7 : (Str.ofString (toString (sizeT t : Int))).length ≤ 2 := hd12
        show Str.empty.length + ("kind of " : Str).length + (Str.ofString (toString (sizeT t : Int))).length ≤ 100000
        omega
      · refine sz_le ?_
        rw [Str.length_append, Str.length_append, Str.length_append]
        have h7 : (Str.ofString (toString (sizeT t : Int))).length ≤ 2 := hd12
        show Str.empty.length + ("kind of " : Str).length + (Str.ofString (toString (sizeT t : Int))).length + (" states: " : Str).length ≤ 100000
        omega
      · refine sz_le ?_
        rw [Str.length_append, Str.length_append, Str.length_append, Str.length_append]
        have h7 : (Str.ofString (toString (sizeT t : Int))).length ≤ 2 := hd12
        show Str.empty.length + ("kind of " : Str).length + (Str.ofString (toString (sizeT t : Int))).length + (" states: " : Str).length + (Txt.join " " (namesT t)).length ≤ 100000
        omega
end
end Tm

/-! {e for x in xs}, e a whole number. -/
namespace Tm
open PySem PySem.Spec PyProof.Rows L2
def setI (w : World) (D : Addr) (S : Int → Bool) (n : Nat) : HO := SetO w D S n
/-- one number more -/
def moreI (S : Int → Bool) (c : Int) : Int → Bool := fun j => S j || decide (j = c)
def tSci (w : World) (wi : TI) (g : TG) (tt : TT) (te : TE) (vs : List Nat) : TE := fun σ H Q => wi σ H fun J Hi => ∀ D, Hi D = none → ∃ W : Nat → Nat → Hp → Prop, (∃ m, W 0 m (upd Hi D (setI w D (fun _ => false) 0))) ∧
  ∀ i m H, W i m H → (J.stop i H ∧ Q (.ref D) H) ∨ (J.go i H ∧ ∃ Nx : Hp → Prop, (∀ H', Nx H' → ∃ m', m' < m ∧ W (i + 1) m' H') ∧
    ∀ x H', J.yld i H x H' → g x (wipe σ vs) H' fun σ2 H2 => wipe σ2 vs = wipe σ vs ∧ tt σ2 H2 fun b H3 => if b = true then te σ2 H3 fun y H4 => ∃ (c : Int) (S : Int → Bool) (n : Nat), y = .int c ∧ H4 D = some (setI w D S n) ∧ n + 1 < scanBound ∧ Nx (upd H4 D (setI w D (moreI S c) (if S c = true then n else n + 1))) else Nx H3)
section
variable {X : Cx}
theorem add_in {pins : List (Addr × Obj)} {σ : L2.St} {H : Hp} {s : Shared} {E : Value → Shared → Prop} {D : Addr} {S : Int → Bool} {n : Nat} {c : Int} {t : Tok} {Q : Value → Shared → Prop} (I : Inv X pins σ H s) (at_ : H D = some (setI X.w D S n)) (few : n + 1 < scanBound)
    (k : ∀ s2, Inv X pins σ (upd H D (setI X.w D (moreI S c) (if S c = true then n else n + 1))) s2 → Q .none s2) : wpAny (model X.prog X.w) X.A (call (.builtin "set.add") [.ref D, .int c t]) Q E s := by
  refine setR_add (setO_get I at_) few fun g sb new => k _ ?_
  have there : ∃ u, g.get? D = some u := by
    obtain ⟨o, _, _, _, ho, _⟩ := id new
    exact ⟨o, ho⟩
  exact I.write (e := D) (t' := s.toks + 1) (by rw [at_]; exact True.intro) (.inl rfl) (fun b u nb e => (sb.2 b nb).trans e) there (setO_new new)
abbrev bareSet (w : World) : Obj := { cls := .type "set", dict := none, data := .set #[] 0 (.fresh 0 0 (!w.params.followText "set-order")) }
theorem pe_sci {elt tg iter : Expr} {ifs : List Expr} {sco : Scope} {own : List (PySem.Str × Nat)} {pos : Pos} {wi : TI} {g : TG} {tt : TT} {te : TE} (calm : X.calm = true) (nd : X.N.Nodup) (it : PI X tg iter wi) (blk : BlkOk X.N X.env.scope sco own)
    (tgt : ∀ (s : Shared) (H : Hp) (C : Addr) (cl : List (PySem.Str × Addr)) (fp : List Addr), PG (X.blk s H sco (compEnvC sco cl C X.env) fp) tg g) (tst : ∀ (s : Shared) (H : Hp) (C : Addr) (cl : List (PySem.Str × Addr)) (fp : List Addr), PTs (X.blk s H sco (compEnvC sco cl C X.env) fp) ifs tt)
    (val : ∀ (s : Shared) (H : Hp) (C : Addr) (cl : List (PySem.Str × Addr)) (fp : List Addr), PE (X.blk s H sco (compEnvC sco cl C X.env) fp) elt te) (fold : ∀ x, foldedSetIterable iter X.env x = pure x := by intro _; rfl) :
    PE X (.SetComp elt [⟨tg, iter, ifs, 0⟩] sco pos) (tSci X.w wi g tt te (own.map (·.2))) := by
  refine ⟨fun pins s0 σ0 H0 Q0 I0 h0 => ?_⟩
  rw [PpSet.eval_SetComp]
  have caught : ∀ y ∈ sco.names, y.2 = .free → ∃ c, X.env.cells.lookup y.1 = some c := fun y hy e => (blk.free y hy e).elim (fun z => I0.ok.has _ (.inl z)) fun z => I0.ok.has _ (.inr z)
  refine wpAny_comprehension_free rfl fold (closure_ok caught) blk.kind (fun y hy e => by rw [blk.uniq y hy, e]) (thn (it.run pins s0 σ0 H0 _ I0 h0) fun xv sA hA => thn hA fun itv sB hB => ?_)
  obtain ⟨ia, fp, tn, J, HB, rfl, IB, T, stB, frB, run⟩ := hB
  refine PpSet.newSet_ok (newEnv_comp ?_)
  have noD : HB sB.heap.objs.size = none := IB.hok.fresh (Nat.le_refl _)
  obtain ⟨W, ⟨m0, w0⟩, turn⟩ := run _ noD
  generalize hs : ({ sB with heap := sB.heap.push (bareSet X.w) } : Shared) = sC
  have hC : sC.heap = sB.heap.push (bareSet X.w) := by rw [← hs]
  generalize hD : sB.heap.objs.size = D at noD turn w0
  have IC : Inv X pins σ0 (upd HB D (setI X.w D (fun _ => false) 0)) sC := by
    rw [← hs, ← hD]
    exact IB.laid (t' := sB.toks) (fun b o e => Heap.get?_push_of_some _ e) (Nat.le_refl _) (setO_new (setR_fresh X.w))
  have below : ∀ b ∈ fp, b < sB.heap.objs.size := fun b hb => let ⟨o, e, _⟩ := T.obj _ _ stB b hb; Heap.lt_size e
  have frC : ∀ b ∈ fp, FpOk X pins (upd HB D (setI X.w D (fun _ => false) 0)) b ∧ b < sC.heap.objs.size := fun b hb =>
    ⟨⟨(upd_ne (by rw [← hD]; exact Nat.ne_of_lt (below b hb))).trans (frB b hb).1, (frB b hb).2⟩, by rw [hC, Heap.size_push]; exact Nat.lt_succ_of_lt (below b hb)⟩
  have stC : tn 0 sC.heap := T.keep _ _ _ stB fun b _ o e => by rw [hC]; exact Heap.get?_push_of_some _ e
  generalize hH : upd HB D (setI X.w D (fun _ => false) 0) = HC at IC frC w0
  have ID := block_start IC blk nd frC
  generalize hcl : cellsFrom (sC.heap.objs.size + 1) sco.names (cloFrom X.env.cells sco.names []) = cl at ID
  have pT := tgt sC HC sC.heap.objs.size cl fp
  have pI := tst sC HC sC.heap.objs.size cl fp
  have pV := val sC HC sC.heap.objs.size cl fp
  show codeAny (model X.prog X.w) X.A (.compStart (.SetComp elt [⟨tg, iter, ifs, 0⟩] sco pos) 0 (.ref ia) (.ref D) (compEnvC sco cl sC.heap.objs.size X.env)) (compPost (model X.prog X.w) X.A X.xe none (EP X pins σ0 Q0) (.ref D) sC.heap.objs.size)
    { sC with heap := pushCells (sC.heap.push { cls := .type "dict", data := .dict #[] }) sco.names }
  have loc : (compEnvC sco cl sC.heap.objs.size X.env).locals = sC.heap.objs.size := rfl
  generalize hce : compEnvC sco cl sC.heap.objs.size X.env = ce at ID pT pI pV loc ⊢
  generalize hsD : ({ sC with heap := pushCells (sC.heap.push { cls := .type "dict", data := .dict #[] }) sco.names } : Shared) = sD at ID ⊢
  have stD : tn 0 sD.heap := T.keep _ _ _ stC fun b _ o e => by rw [← hsD]; exact pushCells_keeps _ _ _ _ (Heap.get?_push_of_some _ e)
  have still : ∀ {σ' : L2.St} {H' : Hp} {s' : Shared}, Inv (X.blk sC HC sco ce fp) [] σ' H' s' → (∀ b ∈ fp, H' b = none) → ∀ b ∈ fp, FpOk (X.blk sC HC sco ce fp) [] H' b := fun {σ' H' s'} Z no b hb =>
    ⟨no b hb, (Z.ok.exf b hb).1, Z.ok.exfs b hb, .inl hb, fun x c e => (Z.ok.exf b hb).2 x c e, fun p hp => absurd (show p ∈ ([] : List (Addr × Obj)) ++ [] from hp) (by simp)⟩
  have goes : codeAny (model X.prog X.w) X.A (.compLoop (.SetComp elt [⟨tg, iter, ifs, 0⟩] sco pos) 0 (.ref ia) (.ref D) ce) (compPost (model X.prog X.w) X.A X.xe none (EP X pins σ0 Q0) (.ref D) sC.heap.objs.size) sD := by
    refine PpSet.compLoopS_any (fun n s' => ∃ i H', Inv (X.blk sC HC sco ce fp) [] (wipe σ0 (own.map (·.2))) H' s' ∧ tn i s'.heap ∧ (∀ b ∈ fp, H' b = none) ∧ W i n H') ?_ m0 ⟨0, HC, ID, stD, fun b hb => (frC b hb).1.1, w0⟩
    rintro n sE ⟨i, HE, IE, stE, noE, wE⟩
    rcases turn i n HE wE with ⟨stop, last⟩ | ⟨go, Nx, nxt, step⟩
    · refine thnF (T.done (X.blk sC HC sco ce fp) rfl rfl rfl calm i [] sE _ HE (fun _ _ => False) IE (still IE noE) stE stop) fun r sF ⟨hr, IF⟩ => ?_
      subst hr
      have IG : Inv X pins σ0 HE sF := IC.call' (ch := fp) IF.os IF.base IF.hok IF.bare fun b hb => let z := (frC b hb).1; ⟨z.2.2.2.1, z.2.1, z.2.2.2.2.1, z.2.2.2.2.2⟩
      have noC : HE sC.heap.objs.size = none := by
        have z : HE ce.locals = none := IF.free
        rw [loc] at z
        exact z
      obtain ⟨m, hn, _⟩ := IF.loc
      replace hn : sF.heap.Ns ce.locals m := hn
      rw [loc] at hn
      have fr := IC.fpOk (H' := HE) (Nat.le_refl _) noC
      refine ⟨m, hn, fun g2 sb => ?_⟩
      exact ⟨.ref D, HE, IG.turned (t' := sF.toks) (fun b o hb e => (sb.2 b hb).trans e) fr.1 fr.2.1 fr.2.2.2.1 fr.2.2.2.2.1 fr.2.2.2.2.2, rfl, last⟩
    · refine thnF (T.item (X.blk sC HC sco ce fp) rfl rfl rfl calm i [] sE _ HE (fun _ _ => False) IE (still IE noE) stE go) fun r sF ⟨u, hr, hF⟩ => ?_
      subst hr
      refine thnF hF fun _ sG ⟨x, HG, IG, rG, yG, stG, noG⟩ => ?_
      have JG := IG.pinned (still IG noG) (T.obj _ _ stG)
      refine thnF (pT.run _ sG _ HG x u _ JG rG (step x HG yG)) fun _ sI ⟨σI, HI, II, wI, qI⟩ => ?_
      refine thnF (pI.run _ sI σI HI _ II qI) fun b sJ ⟨HJ, IJ, qJ⟩ => ?_
      have next : ∀ {s' : Shared} {H' : Hp}, Inv (X.blk sC HC sco ce fp) ([] ++ pinsAt fp sG.heap) σI H' s' → Nx H' →
          ∃ m, m < n ∧ ∃ i H', Inv (X.blk sC HC sco ce fp) [] (wipe σ0 (own.map (·.2))) H' s' ∧ tn i s'.heap ∧ (∀ b ∈ fp, H' b = none) ∧ W i m H' := fun {s' H'} Z nx => by
        obtain ⟨m, less, wN⟩ := nxt H' nx
        have pin : ∀ b ∈ fp, ∀ o, sG.heap.get? b = some o → s'.heap.get? b = some o ∧ H' b = none := fun b hb o e =>
          ⟨(Z.pin (b, o) (List.mem_append_right _ (List.mem_append_right _ (mem_pinsAt hb e)))).1, (Z.pin (b, o) (List.mem_append_right _ (List.mem_append_right _ (mem_pinsAt hb e)))).2.1⟩
        refine ⟨m, less, i + 1, H', (Z.unpinned (pins := [])).weak (by rw [← wI, wipe_length]) (fun j v e => ?_), T.keep _ _ _ stG fun b hb o e => (pin b hb o e).1, fun b hb => ?_, wN⟩
        · rw [← wI] at e
          exact (wipe_some e).1
        · obtain ⟨o, e, _⟩ := T.obj _ _ stG b hb
          exact (pin b hb o e).2
      cases b with
      | true =>
        simp only [if_true] at qJ ⊢
        refine thnF (pV.run _ sJ σI HJ _ IJ qJ) fun z sK ⟨yv, HK, IK, rK, c, S, k, ey, atD, few, nx⟩ => ?_
        subst ey
        obtain ⟨tk, rfl⟩ := rK
        exact add_in (X := X.blk sC HC sco ce fp) IK atD few fun sL IL => next IL nx
      | false =>
        simp only [Bool.false_eq_true, if_false] at qJ ⊢
        exact next IJ qJ
  exact PpSet.codeAny_compStart_set goes (T.self X.A 0 _ _ _ stD goes)
end
end Tm

/-! Kind.answers. -/
namespace Tm
open PySem PySem.Spec PyProof.Rows L2
local macro_rules | `(tactic| walk_at "x") => `(tactic| dsimp only [tNext, tRet, tSeq, tCall, tCB, tC, tCons, tNil, tAsg, tDrop, sFld])
/-- {pair[1] for pair in a row} and the like -/
theorem sci_row {K : PySem.W.Frag} {w : World} {σ : L2.St} {H : Hp} {Q : VK} {j : Nat} {te tl : TE} {vs : List Nat} {r : Row} {f : Int × Int → Int} (hl : Ev tl σ H fun v H1 => ∃ a xs, v = .ref a ∧ SqT K H1 a xs ∧ Paired (PairV H1) xs r) (hr : r.length ≤ 1000) (hw : ∀ x, wipe ((wipe σ vs).set j (some x)) vs = wipe σ vs)
    (he : ∀ x z H', PairV H' x z → Ev te ((wipe σ vs).set j (some x)) H' fun v _ => v = .int (f z))
    (hq : ∀ p H1 S n, Same H H1 → H1 p = some (SetO w p S n) → (∀ k, S k = true ↔ k ∈ r.map f) → n ≤ r.length → Q (.ref p) H1) : tSci w (iTup K tl) (gName j) tYes te vs σ H Q := by
  refine hl _ fun v H1 e h => ?_
  obtain ⟨a, xs, ea, hs, hp⟩ := h
  have hlen : xs.length = r.length := Paired.length hp
  refine ⟨a, ea, ⟨xs, hs⟩, fun D hD => ?_⟩
  have wk := walk_tup (K := K) (a := a) (xs := xs)
  refine ⟨fun i m H' => m = r.length - i ∧ i ≤ r.length ∧ Same H1 H' ∧ ∃ S n, H' D = some (SetO w D S n) ∧ (∀ k, S k = true ↔ k ∈ (r.take i).map f) ∧ n ≤ i, ⟨r.length, by simp, Nat.zero_le _, same_new hD, fun _ => false, 0, upd_same, by simp, Nat.le_refl _⟩, ?_⟩
  rintro i m H' ⟨rfl, hi, e2, S, n, hS, hm, hn⟩
  have hs' : SqT K H' a xs := same_seqT e2 hs
  by_cases hlt : i < r.length
  · refine .inr ⟨wk.goes i H' (by omega) hs', _, fun H2 p => p, fun x H2 y => ?_⟩
    obtain ⟨eH, hx⟩ := wk.yields i H' x H2 (by omega) hs' y
    rw [eH]
    obtain ⟨z, hz, hpz⟩ := paired_ix2 hp hx
    refine ⟨hw x, ?_⟩
    dsimp only [tYes]
    rw [if_pos rfl]
    refine he x z H' (hpz.mono (tups_of e2)) _ fun y H3 e3 ey => ?_
    refine ⟨f z, S, n, ey, e3 _ _ hS, by show n + 1 < 4096; omega, r.length - (i + 1), by omega, rfl, hlt, same_mut (e2.trans e3) hD, moreI S (f z), _, upd_same, fun k => ?_, ?_⟩
    · rw [take_one hz, List.map_append, List.mem_append, ← hm k]
      unfold moreI
      simp
    · split <;> omega
  · have ei : i = r.length := by omega
    subst ei
    rw [List.take_length] at hm
    exact .inl ⟨by rw [← hlen]; exact wk.stops H' hs', hq D H' S n (e.trans e2) hS hm hn⟩
section
variable {P : Program} {w : World} {K : PySem.W.Frag} {mg : Str → Option Value} {base : Heap} {C : Addr}
abbrev s_answers : Stmt := inClass (top 19) 5
theorem sc_answers : FnScope ["self", "name", "pair"] ["self", "name"] (defScope s_answers) := ⟨rfl, rfl, rfl, by decide +kernel, rfl, by decide +kernel, by decide +kernel⟩
def sp_answers (C : Addr) : Sp := fun vs H Q _ => ∃ (v : V) (t : Tab) (x : Str) (r : Row), vs = [v, .str x] ∧ KindV C H v t ∧ (x, r) ∈ t ∧ ∀ p H' (ns : List Int), Same H H' → H' p = some (.tup (ns.map V.int)) → ns.Pairwise (· < ·) → (∀ k, k ∈ ns ↔ k ∈ r.map (·.2)) → Q (.ref p) H'
theorem ok_answers (B : Bt mg) (T : Kc K C) (OM_need_operation : OkM P w K mg base C "_need_operation" 2 ["self", "name"] (sp_needop C)) (D : DfM K C "answers" "Kind.answers" s_answers ["self", "name"]) : OkM P w K mg base C "answers" 3 ["self", "name"] (sp_answers C) := by
  refine D.ok sc_answers (fun vs H Q E h => ?_) (fun f cdv A outer s H vs Q E hr h => ?_)
  · obtain ⟨v, t, x, r, rfl, _⟩ := h
    rfl
  · obtain ⟨v, t, x, r, rfl, hk, hm, q⟩ := h
    obtain ⟨a, dx, d, kvs, rfl, ha, hd, ht, hok, nd, hst⟩ := id hk
    have hu := hu_of hr
    have hin : x ∈ namesT t := List.mem_map.mpr ⟨_, hm, rfl⟩
    refine ⟨_, pss_cons (ps_expr (OM_need_operation.call hr T.cl (he := pv 0) (ha := pa_cons (pv 1) (pa_nil))))
      (pss_one (ps_ret (pe_callTy (tupleK (K := K)) (by rfl) B.tuple (by decide +kernel) (pa_cons (pe_callB (cr_sortedSet rfl) (by rfl) B.sorted (by decide +kernel) (pa_cons (pe_sci (own := [("pair", 2)]) (g := gName 2) (tt := tYes) rfl sc_answers.nd (pi_tup (pe_dget hu (pe_fld (pv 0) rfl) (pv 1) (fun _ _ => rfl))) (blkOk_by (own := [("pair", 2)]) (N := ["self", "name", "pair"]) (sc := defScope s_answers) (by decide +kernel)) (fun _ _ _ _ _ => pg_name (i := 2) sc_answers.nd rfl (.inl rfl)) (fun _ _ _ _ _ => pts_nil) (fun _ _ _ _ _ => pe_ix (ixTK (K := K)) (pv 2) (pe_int) (fun _ _ => rfl))) pa_nil)) pa_nil)))), ?_⟩
    refine ⟨_, rfl, a, dx, _, rfl, ha, kf_no _ _, _, rfl, _, t, x, rfl, hk, hin, ?_⟩
    obtain ⟨rv, hv, hrow⟩ := tab_look ht nd hm
    have hg := DGet.k (k := Sum.inr x) hd
    rw [hv] at hg
    obtain ⟨b, rs, rfl, hb, hrs⟩ := id hrow
    have hsz : r.length = sizeT t := size_of_ok hok _ hm
    have h12 : sizeT t ≤ 12 := by
      have := hok
      unfold okTab at this
      simp only [Bool.and_eq_true, decide_eq_true_eq] at this
      exact this.1.2
    walk_at "x"
    refine sci_row (K := K) (r := r) (f := fun z => z.2) (fun Q q => ?_) (by omega) (by intro _; rfl) (fun x z H' hz Q q => ?_) fun p H1 S n e hS hm2 hn => ?_
    · exact ⟨_, rfl, a, C, dx, _, _, rfl, ha, T.cl, T.nT, kf_T _ _, _, rfl, d, _, rfl, hg, q _ _ (Same.refl _) ⟨b, rs, rfl, SqT.of hb, hrs⟩⟩
    · obtain ⟨c, rfl, hc⟩ := hz
      exact ⟨_, rfl, c, _, _, .int z.2, rfl, rfl, SqT.of hc, atI_nat (j := 1) rfl, q _ _ (Same.refl _) rfl⟩
    · refine ⟨p, S, n, rfl, hS, by omega, fun ns l hpw hmem hl hnl => ?_⟩
      refine ⟨l, _, rfl, .inl ⟨SqL.of upd_same, fun l2 hl2 => ?_⟩⟩
      exact q l2 _ ns (e.trans ((same_new hnl).trans (same_new hl2))) upd_same hpw fun k => (hmem k).trans (hm2 k)
end
end Tm

/-! Kind.reached. -/
namespace Tm
open PySem PySem.Spec PyProof.Rows L2
local macro_rules | `(tactic| walk_at "x") => `(tactic| dsimp only [tNext, tRet, tSeq, tCall, tCB, tC, tCons, tNil, tAsg, tDrop, sFld])
section
variable {α : Type} {K : PySem.W.Frag} {σ : L2.St} {H : Hp} {Q : VK} {j : Nat} {tt : TT} {te : TE} {vs : List Nat}
/-- over the values of a locked dict -/
theorem lc_runV {td : TE} {d : Addr} {o : Obj} {kvs : List (L2.Key × V)} (hd : Ev td σ H fun v _ => v = .ref d) (hf : H d = some (.frz o (.dK kvs))) (zs : List α) (hlen : zs.length = kvs.length) (b : α → Bool) (R : α → V → Hp → Prop) (hz : zs.length ≤ 100000)
    (hw : ∀ x, wipe ((wipe σ vs).set j (some x)) vs = wipe σ vs) (hR : ∀ z v H H', TupS H H' → R z v H → R z v H')
    (hs : ∀ (k : Nat) z kv H1, zs[k]? = some z → kvs[k]? = some kv → Same H H1 → EvT tt ((wipe σ vs).set j (some kv.2)) H1 (b z) ∧ (b z = true → ∀ H3, Same H1 H3 → Ev te ((wipe σ vs).set j (some kv.2)) H3 (R z)))
    (hq : ∀ p H1 ys, H p = none → Same H H1 → H1 p = some (.lst ys) → Paired (fun v z => R z v H1) ys (zs.filter b) → Q (.ref p) H1) : tLc (iVals td) (gName j) tt te vs σ H Q := by
  refine hd _ fun v H1 e ev => ⟨d, o, kvs, ev, e _ _ hf, ?_⟩
  refine lc_name (Q := Q) walk_values zs b R hlen (by omega) hw hR (fun H2 e2 => e2 _ _ (e _ _ hf)) (fun i H v H' y => by rw [y.1]; exact Same.refl _) (fun i z x H2 H' hz' e2 y => ?_) (fun p H2 ys hp e2 => hq p H2 ys (e.free hp) (e.trans e2))
  obtain ⟨e3, k, hk⟩ := y
  rw [e3]
  exact hs i z (k, x) H2 hz' hk (e.trans e2)
end
/-- the states behind s, by the operations in their order -/
def nextN (t : Tab) (s : Nat) : List Nat := t.map fun e => match e.2[s]? with
  | some p => p.1.toNat
  | none => 0
/-- the loop of reached, by fuel: met, waiting -/
def runR (t : Tab) : Nat → List Nat → List Nat → Option (List Nat)
  | 0, met, [] => some met
  | 0, _, _ :: _ => none
  | n + 1, met, w => match w.getLast? with
    | none => some met
    | some h => if h ∈ met then runR t n met w.dropLast else runR t n (met ++ [h]) (w.dropLast ++ nextN t h)
def natV (l : List Nat) : List V := l.map fun (n : Nat) => V.int (n : Int)
def iN (l : List Nat) : List Int := l.map fun (n : Nat) => (n : Int)
theorem natV_iN (l : List Nat) : natV l = (iN l).map V.int := by simp [natV, iN]
theorem inV_nat (h : Nat) (l : List Nat) : inV (V.int (h : Int)) (natV l) = decide (h ∈ l) := by
  unfold inV natV
  rw [List.any_map, Bool.eq_iff_iff, List.any_eq_true, decide_eq_true_eq]
  constructor
  · rintro ⟨x, hx, e⟩
    have e2 : ((x : Int) == (h : Int)) = true := e
    have e3 : x = h := by
      have := beq_iff_eq.mp e2
      omega
    rw [← e3]
    exact hx
  · intro hm
    exact ⟨h, hm, show ((h : Int) == (h : Int)) = true from beq_self_eq_true _⟩
theorem natV_len (l : List Nat) : (natV l).length = l.length := List.length_map ..
theorem natV_last {l : List Nat} {h : Nat} (e : l.getLast? = some h) : (natV l)[(natV l).length - 1]? = some (V.int (h : Int)) := by
  rw [natV_len]
  unfold natV
  rw [List.getElem?_map, ← List.getLast?_eq_getElem?, e]
  rfl
theorem natV_drop (l : List Nat) : (natV l).dropLast = natV l.dropLast := by simp [natV, List.map_dropLast]
theorem natV_app (l r : List Nat) : natV l ++ natV r = natV (l ++ r) := by simp [natV]
theorem next_ok {t : Tab} (h : okTab t = true) {e : Str × Row} (he : e ∈ t) {s : Nat} (hs : s < sizeT t) : ∃ p, e.2[s]? = some p ∧ 0 ≤ p.1 ∧ p.1 < (sizeT t : Int) := by
  have hl := size_of_ok h e he
  unfold okTab at h
  simp only [Bool.and_eq_true] at h
  have q := List.all_eq_true.mp h.2 e he
  simp only [Bool.and_eq_true, okRow, decide_eq_true_eq] at q
  have hlt : s < e.2.length := by omega
  have k := List.all_eq_true.mp q.2.2 _ (List.getElem_mem hlt)
  unfold okPair at k
  simp only [Bool.and_eq_true, decide_eq_true_eq] at k
  exact ⟨e.2[s], List.getElem?_eq_getElem hlt, k.1.1.1, by omega⟩
theorem flat_nat (l : List Nat) : (natV l).all flatV = true := List.all_eq_true.mpr fun v hv => by
  obtain ⟨n, _, rfl⟩ := List.mem_map.mp hv
  rfl
section
variable {P : Program} {w : World} {K : PySem.W.Frag} {mg : Str → Option Value} {base : Heap} {C : Addr}
abbrev s_reached : Stmt := inClass (top 19) 6
theorem sc_reached : FnScope ["self", "state", "met", "waiting", "here", "row"] ["self", "state"] (defScope s_reached) := ⟨rfl, rfl, rfl, by decide +kernel, rfl, by decide +kernel, by decide +kernel⟩
def sp_reached (C : Addr) : Sp := fun vs H Q _ => ∃ (v : V) (t : Tab) (s : Nat) (out : List Nat), vs = [v, .int (s : Int)] ∧ KindV C H v t ∧ s < sizeT t ∧ runR t 100 [] [s] = some out ∧ out.length < 64 ∧
  ∀ p H' (ns : List Int), Same H H' → H' p = some (.tup (ns.map V.int)) → ns.Perm (iN out) → ns.Pairwise (· ≤ ·) → Q (.ref p) H'
theorem ok_reached (B : Bt mg) (T : Kc K C) (O_need_number : Ok P w K mg base "need_number" 2 ["value", "least", "most"] sp_need) (D : DfM K C "reached" "Kind.reached" s_reached ["self", "state"]) : OkM P w K mg base C "reached" 3 ["self", "state"] (sp_reached C) := by
  refine D.ok sc_reached (fun vs H Q E h => ?_) (fun f cdv A outer s H vs Q E hr h => ?_)
  · obtain ⟨v, t, s, out, rfl, _⟩ := h
    rfl
  · obtain ⟨v, t, s0, out, rfl, hk, hs0, hrun, hout, q⟩ := h
    obtain ⟨a, dx, d, kvs, rfl, ha, hd, ht, hok, nd, hst⟩ := id hk
    refine ⟨_, pss_cons (ps_expr (O_need_number.call hr (ha := pa_cons (pv 1) (pa_cons (pe_int) (pa_cons (pe_op op_sub (pe_fld (pv 0) rfl) (pe_int)) (pa_nil))))))
      (pss_cons (ps_set (i := 2) sc_reached.nd rfl (.inl rfl) (pe_lst (pa_nil)))
      (pss_cons (ps_set (i := 3) sc_reached.nd rfl (.inl rfl) (pe_lst (pa_cons (pv 1) (pa_nil))))
      (pss_cons (ps_while PassesOwn.never (pt_truth (pv 3) (by intro _; rfl))
        (pss_cons (ps_set (i := 4) sc_reached.nd rfl (.inr rfl) (pe_bm0 PySem.F.plainAttrs_list PySem.F.slot_list_pop PySem.F.type_list_pop mt_pop (pv 3)))
      (pss_one (ps_if (pt_cmpR op_notIn_seq (pv 4) (pv 2) rfl)
        (pss_cons (ps_expr (pe_bm PySem.F.plainAttrs_list PySem.F.slot_list_append PySem.F.type_list_append mt_append (pv 2) (pa_cons (pv 4) (pa_nil))))
      (pss_one (ps_expr (pe_bm PySem.F.plainAttrs_list PySem.F.slot_list_extend PySem.F.type_list_extend mt_extend (pv 3) (pa_cons (pe_lock (pe_lc (own := [("row", 5)]) (g := gName 5) (tt := tYes) rfl sc_reached.nd (pi_values (pe_fld (pv 0) rfl)) (blkOk_by (own := [("row", 5)]) (N := ["self", "state", "met", "waiting", "here", "row"]) (sc := defScope s_reached) (by decide +kernel)) (fun _ _ _ _ _ => pg_name (i := 5) sc_reached.nd rfl (.inl rfl)) (fun _ _ _ _ _ => pts_nil) (fun _ _ _ _ _ => pe_ix (ixTK (K := K)) (pe_ix (ixTK (K := K)) (pv 5) (pv 4) (fun _ _ => rfl)) (pe_int) (fun _ _ => rfl)))) (pa_nil))))))
        (pss_nil)))))
      (pss_one (ps_ret (pe_callTy (tupleK (K := K)) (by rfl) B.tuple (by decide +kernel) (pa_cons (pe_callB cr_sorted (by rfl) B.sorted (by decide +kernel) (pa_cons (pv 2) (pa_nil))) (pa_nil)))))))), ?_⟩
    refine ⟨_, rfl, _, rfl, a, C, dx, _, _, rfl, ha, T.cl, T.nS, kf_S _ _, _, _, rfl, rfl, s0, 0, (sizeT t : Int) - 1, rfl, by omega, by omega, ?_⟩
    refine ⟨by show 0 ≤ sizeLine; decide, fun ml hml => ?_⟩
    refine ⟨_, rfl, by show 1 ≤ sizeLine; decide, fun wl hwl => ?_⟩
    have nml : ml ≠ wl := fun z => by
      rw [← z, upd_same] at hwl
      cases hwl
    have e0 : Same H (upd (upd H ml (.lst [])) wl (.lst [V.int (s0 : Int)])) := (same_new hml).trans (same_new hwl)
    have nwl : H wl = none := by
      cases e : H wl with
      | none => rfl
      | some o =>
        rw [(same_new hml) _ _ e] at hwl
        cases hwl
    have h12 : t.length ≤ 6 ∧ sizeT t ≤ 12 := by
      have := hok
      unfold okTab at this
      simp only [Bool.and_eq_true, decide_eq_true_eq] at this
      exact ⟨this.1.1.1.2, this.1.2⟩
    dsimp only [gName, tSeq]
    refine ⟨fun m σ' H' => ∃ (met wt : List Nat) (o4 o5 : Option V), σ' = [some (.ref a), some (.int (s0 : Int)), some (.ref ml), some (.ref wl), o4, o5] ∧ H' ml = some (.lst (natV met)) ∧ H' wl = some (.lst (natV wt)) ∧ Same H H' ∧ runR t m met wt = some out ∧ (∀ x ∈ wt, x < sizeT t) ∧ met.length + m ≤ 200 ∧ wt.length + 6 * m ≤ 700,
      ⟨100, [], [s0], none, none, rfl, by rw [upd_ne nml, upd_same]; rfl, upd_same, e0, hrun, fun x hx => by rw [List.mem_singleton.mp hx]; exact hs0, by decide, by simp⟩, ?_⟩
    rintro m σ' H' ⟨met, wt, o4, o5, rfl, hm1, hw1, e1, hr1, hlt, b1, b2⟩
    refine ⟨_, rfl, !(natV wt).isEmpty, .inl ⟨_, SqL.of hw1, rfl⟩, ?_⟩
    cases wt with
    | nil =>
      have eo : met = out := by
        cases m with
        | zero => exact Option.some.inj hr1
        | succ n => exact Option.some.inj hr1
      subst eo
      refine ifF rfl ?_
      refine ⟨_, rfl, ml, iN met, rfl, by rw [← natV_iN]; exact SqL.of hm1, by rw [iN, List.length_map]; exact hout, fun ns p hpm hpw hp => ?_⟩
      refine ⟨p, _, rfl, .inl ⟨SqL.of upd_same, fun l hl => ?_⟩⟩
      exact q l _ ns (e1.trans ((same_new hp).trans (same_new hl))) upd_same hpm hpw
    | cons w0 wr =>
      refine ifT rfl ?_
      cases m with
      | zero => cases hr1
      | succ n =>
        obtain ⟨h0, hl0⟩ : ∃ h0, (w0 :: wr).getLast? = some h0 := ⟨_, List.getLast?_eq_getLast (by simp)⟩
        have hmem : h0 ∈ w0 :: wr := List.mem_of_getLast? hl0
        have hsz := hlt h0 hmem
        have hr2 : (if h0 ∈ met then runR t n met (w0 :: wr).dropLast else runR t n (met ++ [h0]) ((w0 :: wr).dropLast ++ nextN t h0)) = some out := by
          have hr3 := hr1
          unfold runR at hr3
          rw [hl0] at hr3
          exact hr3
        generalize hW : (w0 :: wr) = W at *
        have hWl : 1 ≤ W.length := by rw [← hW]; simp
        refine ⟨_, fun σ2 H2 p => ⟨n, Nat.lt_succ_self n, p⟩, ?_⟩
        refine ⟨_, rfl, .inl ⟨rfl, _, SqL.of hw1⟩, wl, natV W, _, rfl, rfl, hw1, natV_last hl0, ?_⟩
        rw [natV_drop]
        have hm2 : upd H' wl (.lst (natV W.dropLast)) ml = some (.lst (natV met)) := by rw [upd_ne nml]; exact hm1
        have hw2 : upd H' wl (.lst (natV W.dropLast)) wl = some (.lst (natV W.dropLast)) := upd_same
        have e2 : Same H (upd H' wl (.lst (natV W.dropLast))) := same_mut e1 nwl
        generalize upd H' wl (.lst (natV W.dropLast)) = H2 at hm2 hw2 e2
        have hdl : ∀ x ∈ W.dropLast, x < sizeT t := fun x hx => hlt x (List.dropLast_subset _ hx)
        have hdlen : W.dropLast.length = W.length - 1 := List.length_dropLast ..
        dsimp only [gName]
        refine ⟨_, rfl, _, rfl, ml, _, rfl, .inl (SqL.of hm2), rfl, flat_nat met, _, rfl, ?_⟩
        rw [inV_nat]
        by_cases g : h0 ∈ met
        · rw [if_pos g] at hr2
          refine ifF (by rw [decide_eq_true g]; rfl) ?_
          exact ⟨met, W.dropLast, _, o5, rfl, hm2, hw2, e2, hr2, hdl, by omega, by omega⟩
        · rw [if_neg g] at hr2
          refine ifT (by rw [decide_eq_false g]; rfl) ?_
          refine ⟨_, rfl, .inl ⟨rfl, _, SqL.of hm2⟩, _, rfl, ml, _, _, rfl, rfl, hm2, by rw [natV_len]; exact sz_lt (by omega), ?_⟩
          have hm3 : upd H2 ml (.lst (natV met ++ [V.int (h0 : Int)])) ml = some (.lst (natV (met ++ [h0]))) := by rw [upd_same, ← natV_app]; rfl
          have hw3 : upd H2 ml (.lst (natV met ++ [V.int (h0 : Int)])) wl = some (.lst (natV W.dropLast)) := by rw [upd_ne nml.symm]; exact hw2
          have e3 : Same H (upd H2 ml (.lst (natV met ++ [V.int (h0 : Int)]))) := same_mut e2 hml
          generalize upd H2 ml (.lst (natV met ++ [V.int (h0 : Int)])) = H3 at hm3 hw3 e3
          refine ⟨_, rfl, .inl ⟨rfl, _, SqL.of hw3⟩, ?_⟩
          refine ⟨d, .dK kvs, e3 _ _ hd, trivial, fun od => ?_⟩
          have nda : d ≠ a := fun z => by
            rw [z, ha] at hd
            cases hd
          have ha4 : upd H3 d (.frz od (.dK kvs)) a = some (.ins C dx (kflds d (sizeT t))) := by rw [upd_ne nda.symm]; exact e3 _ _ ha
          have tu : TupS H3 (upd H3 d (.frz od (.dK kvs))) := lock_in (e3 _ _ hd) (fun xs z => by cases z)
          have ndw : wl ≠ d := fun z => by
            rw [z, hd] at nwl
            cases nwl
          have ndm : ml ≠ d := fun z => by
            rw [z, hd] at hml
            cases hml
          have hw4 : upd H3 d (.frz od (.dK kvs)) wl = some (.lst (natV W.dropLast)) := by rw [upd_ne ndw]; exact hw3
          have hm4 : upd H3 d (.frz od (.dK kvs)) ml = some (.lst (natV (met ++ [h0]))) := by rw [upd_ne ndm]; exact hm3
          have hlt4 : kvs.length = t.length := Paired.length ht
          refine lc_runV (o := od) (kvs := kvs) (fun Q q => ⟨_, rfl, a, C, dx, _, _, rfl, ha4, T.cl, T.nT, kf_T _ _, q _ _ (Same.refl _) rfl⟩) upd_same t (by omega) (fun _ => true) (fun e v _ => v = V.int ((match e.2[h0]? with | some p => p.1.toNat | none => 0 : Nat) : Int)) (by omega) (by intro _; rfl) (fun _ _ _ _ _ h => h)
            (fun i e kv H4 hi hkv e4 => ⟨evt_yes, fun _ H5 e5 Q q => ?_⟩) (fun p H4 ys hp e4 hls hP => ?_)
          · obtain ⟨z, hz, hk1, hk2⟩ := paired_ix2 ht hkv
            rw [hi] at hz
            cases hz
            have hm : e ∈ t := List.mem_of_getElem? hi
            obtain ⟨pr, hpr, hp0, hp1⟩ := next_ok hok hm hsz
            obtain ⟨b, rs, eb, hb, hrs⟩ := hk2
            obtain ⟨u, hu, hpu⟩ := paired_ix hrs hpr
            have tu5 : TupS H H5 := ((tups_of e3).trans tu).trans (tups_of (e4.trans e5))
            obtain ⟨pa, rfl, hpa⟩ := hpu
            refine ⟨_, rfl, _, rfl, b, rs, _, .ref pa, eb, rfl, SqT.of (tu5 _ _ hb), atI_nat hu, ?_⟩
            refine ⟨pa, _, _, .int pr.1, rfl, rfl, SqT.of (tu5 _ _ hpa), atI_nat (j := 0) rfl, q _ _ (Same.refl _) ?_⟩
            rw [hpr]
            show V.int pr.1 = V.int ((pr.1.toNat : Nat) : Int)
            rw [Int.toNat_of_nonneg hp0]
          · rw [filter_all] at hP
            have ey : ys = natV (nextN t h0) := by
              have : ∀ {ys : List V} {t : Tab}, Paired (fun v e => v = V.int ((match e.2[h0]? with | some p => p.1.toNat | none => 0 : Nat) : Int)) ys t → ys = natV (nextN t h0) := by
                intro ys t hh
                induction hh with
                | nil => rfl
                | cons r _ ih =>
                  rw [r, ih]
                  rfl
              exact this hP
            rw [ey] at hls
            have np : p ≠ d := fun z => by
              rw [z, upd_same] at hp
              cases hp
            refine ⟨e4 _ _ upd_same, ?_⟩
            have hl5 : upd H4 d (.dK kvs) p = some (.lst (natV (nextN t h0))) := by rw [upd_ne np]; exact hls
            have hw5 : upd H4 d (.dK kvs) wl = some (.lst (natV W.dropLast)) := by rw [upd_ne ndw]; exact e4 _ _ hw4
            have hm5 : upd H4 d (.dK kvs) ml = some (.lst (natV (met ++ [h0]))) := by rw [upd_ne ndm]; exact e4 _ _ hm4
            have e5 : Same H (upd H4 d (.dK kvs)) := e3.trans (lock_out (e3 _ _ hd) e4)
            have hnl : (nextN t h0).length = t.length := List.length_map ..
            refine ⟨wl, p, _, _, rfl, rfl, hw5, hl5, by rw [natV_len, natV_len, hnl]; exact sz_le (by omega), ?_⟩
            rw [natV_app]
            refine ⟨met ++ [h0], W.dropLast ++ nextN t h0, _, o5, rfl, ?_, upd_same, same_mut e5 nwl, hr2, fun x hx => ?_, by rw [List.length_append]; simp; omega, by rw [List.length_append, hnl]; omega⟩
            · rw [upd_ne nml]
              exact hm5
            · rcases List.mem_append.mp hx with z | z
              · exact hdl x z
              · obtain ⟨e, he, ee⟩ := List.mem_map.mp z
                obtain ⟨pr, hpr, hp0, hp1⟩ := next_ok hok he hsz
                rw [hpr] at ee
                have ee2 : pr.1.toNat = x := ee
                omega
end
end Tm

set_option maxHeartbeats 4000000
/-! set(xs), xs a list of whole numbers. -/
namespace Tm
open PySem PySem.Spec PyProof.Rows L2
section
variable {P : Program} {w : World} {B : Around} {G : Value → Shared → Prop} {z : Shared}
/-- what set(..) leaves: all members, the old heap kept -/
abbrev Filled (w : World) (z : Shared) (ns : List Int) (y : Shared) : Prop := ∃ (g : Heap) (n c : Nat), y = { z with heap := g, toks := n } ∧ SetR w g z.heap.objs.size (fun j => decide (j ∈ ns)) c ∧ c ≤ ns.length ∧ ∀ b o, z.heap.get? b = some o → g.get? b = some o
/-- the body of set.__init__, one list given -/
theorem init_list {l : Addr} {us : Array Value} {ns : List Int} (calm : B.handled = none) (lst : z.heap.IsList l us) (num : IntsAre us.toList ns) (few : ns.length + 1 < scanBound) :
    wpAny (model P w) B (Builtin.«set.__init__» ⟨[.ref z.heap.objs.size, .ref l], []⟩) (fun f y => f = .done (.ret .none) ∧ Filled w z ns y) G { z with heap := z.heap.push (bareSet w) } := by
  have cnt : us.size = ns.length := (Array.length_toList (xs := us)).symm.trans (IntsAre.length num)
  have new : (z.heap.push (bareSet w)).get? z.heap.objs.size = some (bareSet w) := Heap.get?_push_size _ rfl
  obtain ⟨⟨oc, od, oda, os⟩, old, e1, k, e2⟩ := lst
  dsimp only at e1 e2
  cases e1
  cases e2
  have at1 : (z.heap.push (bareSet w)).get? l = some { cls := .type "list", dict := od, data := .seq us k, slots := os } := Heap.get?_push_of_some _ old
  have is1 : (z.heap.push (bareSet w)).IsList l us := ⟨_, at1, rfl, k, rfl⟩
  have n1 := PySem.F.sub_list_set
  have n2 := PySem.F.sub_list_frozenset
  have n3 : (Value.type "list" == Value.type "dict") = false := by decide
  unfold Builtin.«set.__init__» noKeywords Builtin.Frozenset.updateFrom
  generalize e : pyIter = PI
  wp_walk
  subst e
  refine wpAny_pyIter_list is1 (wpAny_bind (wpAny_runValue ?_))
  have big : (z.heap.push (bareSet w)).objs.size = z.heap.objs.size + 1 := Heap.size_push ..
  have less := Heap.lt_size old
  have ne1 : l ≠ (z.heap.push (bareSet w)).objs.size := Nat.ne_of_lt (big ▸ Nat.lt_succ_of_lt less)
  have ne2 : z.heap.objs.size ≠ (z.heap.push (bareSet w)).objs.size := Nat.ne_of_lt (big ▸ Nat.lt_succ_self _)
  have out : z.heap.objs.size ∉ [(z.heap.push (bareSet w)).objs.size, l] := fun m => by
    rcases List.mem_cons.mp m with x | x
    · exact ne2 x
    · exact Nat.ne_of_gt less (List.mem_singleton.mp x)
  have val : ∀ (i : Nat) (v : Value), us[i]? = some v → ∃ c t, ns[i]? = some c ∧ v = .int c t := fun i v hv => by
    have lt : i < ns.length := cnt ▸ (Array.getElem?_eq_some_iff.mp hv).1
    obtain ⟨t, ev⟩ := IntsAre.int_at num i v ((Array.getElem?_toList ..).trans hv)
    refine ⟨ns[i], t, List.getElem?_eq_getElem lt, ev.trans ?_⟩
    rw [List.getD_eq_getElem?_getD, List.getElem?_eq_getElem lt]
    rfl
  refine set_update_ints (Walks.list (by simp [calm]) _ l ne1 us).toS z.heap.objs.size out ns cnt few val us.size 0 _ rfl (Nat.zero_le _) ⟨⟨_, Heap.get?_push_size _ rfl, rfl, rfl⟩, is1.push _⟩ ⟨0, Nat.le_refl 0, setR_new_at (Heap.get?_push_of_some _ new)⟩ fun y c mv hc hS => ?_
  obtain ⟨g, gs, dr, tk, os2⟩ := y
  have q1 := mv.gens
  have q2 := mv.drawn
  have q3 := mv.os
  dsimp only at q1 q2 q3
  subst q1 q2 q3
  refine wpAny_pure (wpAny_pure ⟨rfl, g, tk, c, rfl, hS, cnt ▸ hc, fun b o e => mv.heap b o (fun m => ?_) (Heap.get?_push_of_some _ (Heap.get?_push_of_some _ e))⟩)
  have lb := Heap.lt_size e
  rcases List.mem_cons.mp m with x | x
  · exact Nat.ne_of_lt lb x
  · exact Nat.ne_of_lt (big ▸ Nat.lt_succ_of_lt lb) (List.mem_singleton.mp x)
/-- the call -/
theorem set_list {A : Around} {s : Shared} {l : Addr} {us : Array Value} {ns : List Int} {R : Value → Shared → Prop} (calm : A.handled = none) (lst : s.heap.IsList l us) (num : IntsAre us.toList ns) (few : ns.length + 1 < scanBound)
    (end_ : ∀ y, Filled w s ns y → R (.ref s.heap.objs.size) y) : wpAny (model P w) A (call (.type "set") [.ref l]) R G s := by
  have C := PySem.F.called_set
  have ⟨m0, m1, mro⟩ := C.mro
  refine wpAny_call (codeAny_of_tree (?_ : wpAny _ _ (callAny (.type "set") _) _ _ _))
  refine wpAny_pure ⟨Code.quiet_builtin _ (by decide +kernel), codeAny_builtin F.entry_type_call ?_⟩
  rw [Around.under_plain (weight_type_call_type "set" [.ref l] []) rfl]
  have c1 := C.made
  have c2 := C.sub
  have c3 := C.notType
  have c4 := C.canCreate
  have c5 := F.typeCall_set_1 (.ref l)
  repeat (any_goals (first | assumption | wp_step))
  refine codeAny_mono (code_set_led1 (.ref l) (E := G) (Q₁ := fun o s1 => o = .ref s.heap.objs.size ∧ s1 = { s with heap := s.heap.push (bareSet w) }) ⟨rfl, rfl⟩) fun r1 s1 h1 => ?_
  match r1, h1 with
  | .ok (.ret _), h1 =>
    obtain ⟨rfl, rfl⟩ := h1
    have new : (s.heap.push (bareSet w)).get? s.heap.objs.size = some (bareSet w) := Heap.get?_push_size _ rfl
    have typ : Shared.TypeIs { s with heap := s.heap.push (bareSet w) } (.ref s.heap.objs.size) "set" := ⟨_, new, rfl⟩
    have i1 := C.init.lookup
    have i2 := C.init.bind (.ref s.heap.objs.size)
    repeat (any_goals (first | assumption | wp_step))
    refine codeAny_mono (codeAny_call_builtin (R := wants (fun r y => r = .none ∧ Filled w s ns y) G) C.init.plain F.entry_set_init (check_set_init_1 typ ?_)) fun r2 s2 h2 => ?_
    · exact wpAny_mono (init_list (by simp [calm]) lst num few) (fun f y q => by obtain ⟨rfl, q⟩ := q; exact ⟨rfl, q⟩) fun _ _ e => e
    · match r2, h2 with
      | .ok (.ret _), h2 =>
        obtain ⟨rfl, q⟩ := h2
        repeat (any_goals (first | assumption | wp_step))
        exact end_ _ q
      | .error _, e => exact e
  | .error _, e => exact e
end
def rSetL (K : PySem.W.Frag) (w : World) : List V → Hp → VK → Prop := fun xs H Q => ∃ (l : Addr) (ns : List Int), xs = [V.ref l] ∧ SqL K H l (ns.map V.int) ∧ ns.length ≤ 1000 ∧ ∀ p c, H p = none → c ≤ ns.length → Q (.ref p) (upd H p (setI w p (fun j => decide (j ∈ ns)) c))
theorem cr_setL {X : Cx} (calm : X.calm = true) : CallR X (.type "set") (rSetL X.K X.w) := by
  intro pins s σ H xs us Q I r h
  obtain ⟨l, ns, rfl, hl, few, q⟩ := h
  rw [Vals.ref1 r]
  obtain ⟨its, rv, pl, _⟩ := I.list hl
  refine set_list (I.ok.hd calm) pl.isList (ns := ns) (ints_of_vals rv) (by show _ < 4096; omega) fun y ⟨g, n, c, ey, new, hc, keep⟩ => ?_
  subst ey
  exact ⟨.ref s.heap.objs.size, _, I.laid (t' := n) keep (Nat.le_refl _) (setO_new new), rfl, q _ c (I.hok.fresh (Nat.le_refl _)) hc⟩
end Tm

/-! min(d), d a dict with texts for keys; _law_size. -/
namespace Tm
open PySem PySem.Spec PyProof.Rows L2
local macro_rules | `(tactic| walk_at "x") => `(tactic| dsimp only [tNext, tRet, tSeq, tCall, tCB, tC, tCons, tNil, tAsg, tDrop, sFld])
theorem best_le (bt : Nat → Nat → Bool) : ∀ k, argBest bt k ≤ k
  | 0 => Nat.le_refl _
  | k + 1 => by
    have := best_le bt k
    unfold argBest
    split <;> omega
theorem cmp_texts {P : Program} {w : World} {A : Around} {D : Nat → Value → Prop} (x : Nat → Str) (hx : ∀ i v, D i v → ∃ t, v = .str (x i) t) : CmpOf P w A .Lt D fun i j => decide ((x i).cps.toList < (x j).cps.toList) := by
  intro i j u v s Q G hu hv q
  obtain ⟨t1, rfl⟩ := hx i u hu
  obtain ⟨t2, rfl⟩ := hx j v hv
  exact richCompare_gives (op := .Lt) (typeIs_str s _ t1) (typeIs_str s _ t2) F.slot_str_lt F.entry_str_lt (F.args_str_lt_2 _ _) (gives_str_lt _ _ t1 t2) (fun e => nomatch e) q
def rMinT : List V → Hp → VK → Prop := fun vs H Q => ∃ (a : Addr) (kvs : List (L2.Key × V)) (ks : List Str), vs = [V.ref a] ∧ H a = some (.dK kvs) ∧ kvs.map (·.1) = ks.map Sum.inr ∧ ks ≠ [] ∧ ∀ x ∈ ks, Q (.str x) H
theorem cr_minT {X : Cx} (calm : X.calm = true) : CallR X (.builtin "min") rMinT := by
  intro pins s σ H vs us Q I r h
  obtain ⟨a, kvs, ks, rfl, ha, hk, ne, q⟩ := h
  rw [Vals.ref1 r]
  obtain ⟨_, sys, es, rel, dof⟩ := dk_of I.hok ha
  obtain ⟨ep, dat⟩ := dof.dictAt
  have less : a < s.heap.objs.size := by
    obtain ⟨_, _, e, _⟩ := id dat
    exact Heap.lt_size e
  have keys : es.map (·.1) = ks.map Sum.inr := (KV.keys rel).symm.trans hk
  have cnt : es.length = ks.length := by simpa using congrArg List.length keys
  have pos : 0 < es.length := cnt ▸ List.length_pos_iff.mpr ne
  have texts : ∀ (i : Nat) (v : Value), (∃ k x, es[i]? = some (k, x) ∧ (mixKind X.prog X.w).is k v = true) → ∃ t, v = Value.str (ks.getD i Str.empty) t := by
    rintro i v ⟨k, x, hx, is⟩
    have e1 := congrArg (·[i]?) keys
    simp only [List.getElem?_map, hx] at e1
    cases hi : ks[i]? with
    | none => rw [hi] at e1; cases e1
    | some y =>
      rw [hi] at e1
      cases e1
      obtain ⟨t, ev⟩ := Value.isStrOf_shape (show Value.isStrOf y v = true from is)
      exact ⟨t, by rw [ev, List.getD_eq_getElem?_getD, hi]; rfl⟩
  refine call_min_walk (wpAny_pyIter_dict (knd := mixKind X.prog X.w) sys dat ⟨_, _, _, _, _, _, _, rfl, Walks.dictKeys (knd := mixKind X.prog X.w) (A := X.A.in1) (I.ok.hd calm) _ a (Nat.ne_of_lt less) es ep, ⟨⟨_, Heap.get?_push_size _ rfl, rfl, rfl⟩, dat.keep fun b u e => Heap.get?_push_of_some _ e⟩, fun b hb => ?_, pos, cmp_texts (fun i => ks.getD i Str.empty) texts, fun v g n hv keep => ?_⟩)
  · have big : ∀ o, (s.heap.push o).objs.size = s.heap.objs.size + 1 := fun o => Heap.size_push ..
    refine Nat.lt_of_lt_of_eq ?_ (big _).symm
    rcases List.mem_cons.mp hb with e | e
    · exact e ▸ Nat.lt_succ_self _
    · exact List.mem_singleton.mp e ▸ Nat.lt_succ_of_lt less
  · obtain ⟨t, rfl⟩ := texts _ v hv
    refine ⟨.str _, H, I.kept (t' := n) fun b u e => keep b u (fun m => Nat.ne_of_lt (Heap.lt_size e) (List.mem_singleton.mp m)) (Heap.get?_push_of_some _ e), ⟨t, rfl⟩, q _ ?_⟩
    have in_ : argBest (fun i j => decide ((ks.getD i Str.empty).cps.toList < (ks.getD j Str.empty).cps.toList)) (es.length - 1) < ks.length := by
      have := best_le (fun i j => decide ((ks.getD i Str.empty).cps.toList < (ks.getD j Str.empty).cps.toList)) (es.length - 1)
      omega
    rw [List.getD_eq_getElem?_getD, List.getElem?_eq_getElem in_]
    exact List.getElem_mem in_
section
variable {P : Program} {w : World} {K : PySem.W.Frag} {mg : Str → Option Value} {base : Heap} {C : Addr}
/-- a dict that says a table -/
def DictV (H : Hp) (v : V) (t : Tab) : Prop := ∃ d kvs, v = .ref d ∧ H d = some (.dK kvs) ∧ TabV H kvs t ∧ (namesT t).Nodup ∧ okTab t = true
theorem tab_pos {t : Tab} (h : okTab t = true) : t ≠ [] := fun e => by
  rw [e] at h
  cases h
abbrev s_lsize : Stmt := top 43
theorem sc_law_size : FnScope ["_law_table"] ["_law_table"] (defScope s_lsize) := ⟨rfl, rfl, rfl, by decide +kernel, rfl, by decide +kernel, by decide +kernel⟩
def sp_lsize : Sp := fun vs H Q _ => ∃ (v : V) (t : Tab), vs = [v] ∧ DictV H v t ∧ Q (.int (sizeT t : Int)) H
theorem ok_lsize (B : Bt mg) (D : Df K mg "_law_size" s_lsize ["_law_table"]) : Ok P w K mg base "_law_size" 2 ["_law_table"] sp_lsize := by
  refine D.ok sc_law_size (fun vs H Q E h => ?_) (fun f cdv A outer s H vs Q E hr h => ?_)
  · obtain ⟨v, t, rfl, _⟩ := h
    rfl
  · obtain ⟨v, t, rfl, ⟨d, kvs, rfl, hd, ht, nd, ok⟩, q⟩ := h
    have hu := hu_of hr
    refine ⟨_, pss_one (ps_ret (pe_callB (lenK (K := K)) (by rfl) B.len (by decide +kernel) (pa_cons (pe_dget hu (pv 0) (pe_callB (cr_minT rfl) (by rfl) B.min (by decide +kernel) (pa_cons (pv 0) (pa_nil))) (fun _ _ => rfl)) (pa_nil)))), ?_⟩
    refine ⟨_, rfl, _, rfl, d, kvs, namesT t, rfl, hd, tabV_keys ht, fun e => tab_pos ok (List.map_eq_nil_iff.mp e), fun x hx => ?_⟩
    obtain ⟨⟨x', r⟩, hm, e⟩ := List.mem_map.mp hx
    have e' : x' = x := e
    subst e'
    obtain ⟨rv, hv, hrow⟩ := tab_look ht nd hm
    have hg := DGet.k (k := Sum.inr x') hd
    rw [hv] at hg
    obtain ⟨b, rs, rfl, hb, hrs⟩ := id hrow
    refine ⟨d, _, rfl, hg, ?_⟩
    have e1 : rs.length = sizeT t := (Paired.length hrs).trans (size_of_ok ok _ hm)
    rw [← e1] at q
    exact ⟨b, rs, rfl, .inr (SqT.of hb), q⟩
end
end Tm

/-! Sorted lists are one; the law's walk through the states. -/
namespace Tm
open PySem PySem.Spec PyProof.Rows L2
local macro_rules | `(tactic| walk_at "x") => `(tactic| dsimp only [tNext, tRet, tSeq, tCall, tCB, tC, tCons, tNil, tAsg, tDrop, sFld])
theorem ltc_no {a b : List Nat} : ltCps a b = false ↔ b ≤ a := by
  rw [ltCps_eq, decide_eq_false_iff_not, List.not_lt]
theorem rising_le : ∀ {l : List Str} {p : Str}, risingS p l = true → ∀ x ∈ l, p.cps.toList ≤ x.cps.toList
  | [], _, _, _, hx => nomatch hx
  | y :: r, p, h, x, hx => by
    have h2 : (!ltCps y.cps.toList p.cps.toList && risingS y r) = true := h
    simp only [Bool.and_eq_true, Bool.not_eq_true'] at h2
    have e := ltc_no.mp h2.1
    rcases List.mem_cons.mp hx with z | z
    · exact z ▸ e
    · exact List.le_trans e (rising_le h2.2 x z)
theorem sortedS_tail {x : Str} {l : List Str} (h : sortedS (x :: l) = true) : sortedS l = true := by
  cases l with
  | nil => rfl
  | cons y r =>
    have h2 : (!ltCps y.cps.toList x.cps.toList && risingS y r) = true := h
    simp only [Bool.and_eq_true] at h2
    exact h2.2
theorem sorted_one : ∀ {l m : List Str}, l.Perm m → sortedS l = true → sortedS m = true → l = m
  | [], m, p, _, _ => (List.nil_perm.mp p).symm ▸ rfl
  | x :: r, [], p, _, _ => absurd p.length_eq (by simp)
  | x :: r, y :: s, p, h1, h2 => by
    have e : x = y := by
      rcases List.mem_cons.mp (p.mem_iff.mp List.mem_cons_self) with z | z
      · exact z
      · rcases List.mem_cons.mp (p.mem_iff.mpr List.mem_cons_self) with u | u
        · exact u.symm
        · have a := rising_le (l := s) (p := y) h2 x z
          have b := rising_le (l := r) (p := x) h1 y u
          have c := List.le_antisymm b a
          cases x
          cases y
          congr 1
          exact Array.toList_inj.mp c
    subst e
    rw [sorted_one ((List.perm_cons x).mp p) (sortedS_tail h1) (sortedS_tail h2)]
/-- strictly rising lists of the same members -/
theorem rise_one : ∀ {l m : List Int}, l.Pairwise (· < ·) → m.Pairwise (· < ·) → (∀ k, k ∈ l ↔ k ∈ m) → l = m
  | [], [], _, _, _ => rfl
  | [], y :: s, _, _, h => nomatch (h y).mpr List.mem_cons_self
  | x :: r, [], _, _, h => nomatch (h x).mp List.mem_cons_self
  | x :: r, y :: s, h1, h2, h => by
    obtain ⟨a1, a2⟩ := List.pairwise_cons.mp h1
    obtain ⟨b1, b2⟩ := List.pairwise_cons.mp h2
    have e : x = y := by
      rcases List.mem_cons.mp ((h x).mp List.mem_cons_self) with z | z
      · exact z
      · rcases List.mem_cons.mp ((h y).mpr List.mem_cons_self) with u | u
        · exact u.symm
        · have := b1 x z
          have := a1 y u
          omega
    subst e
    rw [rise_one a2 b2 fun k => ⟨fun hk => ?_, fun hk => ?_⟩]
    · rcases List.mem_cons.mp ((h k).mp (List.mem_cons_of_mem _ hk)) with z | z
      · have := a1 k hk
        omega
      · exact z
    · rcases List.mem_cons.mp ((h k).mpr (List.mem_cons_of_mem _ hk)) with z | z
      · have := b1 k hk
        omega
      · exact z
def toN (r : Row) (h : Nat) : Nat := match r[h]? with
  | some p => p.1.toNat
  | none => 0
/-- found and what lies behind it by one operation, below n, rising -/
def stepN (n : Nat) (r : Row) (met : List Nat) : List Nat := (List.range n).filter fun k => decide (k ∈ met ++ met.map (toN r))
def roundN (t : Tab) (met : List Nat) : List Nat := t.foldl (fun m e => stepN (sizeT t) e.2 m) met
def walkN (t : Tab) (s : Nat) : Nat → List Nat
  | 0 => [s]
  | i + 1 => roundN t (walkN t s i)
theorem step_rise (n : Nat) (r : Row) (met : List Nat) : (iN (stepN n r met)).Pairwise (· < ·) := by
  unfold iN stepN
  rw [List.pairwise_map]
  exact List.Pairwise.imp (fun h => by omega) (List.Pairwise.filter _ List.pairwise_lt_range)
theorem step_few (n : Nat) (r : Row) (met : List Nat) : (stepN n r met).length ≤ n ∧ ∀ k ∈ stepN n r met, k < n := by
  refine ⟨?_, fun k hk => List.mem_range.mp (List.mem_filter.mp hk).1⟩
  have := List.length_filter_le (fun k => decide (k ∈ met ++ met.map (toN r))) (List.range n)
  rw [List.length_range] at this
  exact this
/-- what sorted(set(..)) gives is that -/
theorem step_is {n : Nat} {r : Row} {met : List Nat} {ns : List Int} (up : ns.Pairwise (· < ·)) (h : ∀ k, k ∈ ns ↔ k ∈ iN (met ++ met.map (toN r))) (hm : ∀ x ∈ met ++ met.map (toN r), x < n) : ns = iN (stepN n r met) := by
  refine rise_one up (step_rise n r met) fun k => ?_
  rw [h k]
  unfold iN stepN
  simp only [List.mem_map, List.mem_filter, List.mem_range, decide_eq_true_eq]
  exact ⟨fun ⟨x, hx, e⟩ => ⟨x, ⟨hm x hx, hx⟩, e⟩, fun ⟨x, hx, e⟩ => ⟨x, hx.2, e⟩⟩
theorem natV_map (l : List Nat) (f : Nat → Nat) : (l.map f).map (fun n : Nat => V.int (n : Int)) = natV (l.map f) := rfl
def partN (t : Tab) (m : List Nat) (k : Nat) : List Nat := (t.take k).foldl (fun m e => stepN (sizeT t) e.2 m) m
theorem part_next {t : Tab} {m : List Nat} {k : Nat} {e : Str × Row} (h : t[k]? = some e) : partN t m (k + 1) = stepN (sizeT t) e.2 (partN t m k) := by
  unfold partN
  rw [take_one h, List.foldl_append]
  rfl
theorem part_all (t : Tab) (m : List Nat) : partN t m t.length = roundN t m := by
  unfold partN roundN
  rw [List.take_length]
theorem DictV.keep {H H' : Hp} {v : V} {t : Tab} (h : DictV H v t) (e : Same H H') : DictV H' v t := by
  obtain ⟨d, kvs, e1, e2, e3, e4⟩ := h
  exact ⟨d, kvs, e1, e _ _ e2, e3.mono (tups_of e), e4⟩
section
variable {P : Program} {w : World} {K : PySem.W.Frag} {mg : Str → Option Value} {base : Heap} {C : Addr}
abbrev s_states : Stmt := top 44
theorem sc_law_states_from : FnScope ["_law_table", "_law_state", "_law_found", "_law_turn", "_law_name", "_law_here"] ["_law_table", "_law_state"] (defScope s_states) := ⟨rfl, rfl, rfl, by decide +kernel, rfl, by decide +kernel, by decide +kernel⟩
def sp_states : Sp := fun vs H Q _ => ∃ (v : V) (t : Tab) (s : Nat), vs = [v, .int (s : Int)] ∧ DictV H v t ∧ sortedS (namesT t) = true ∧ s < sizeT t ∧ ∀ p H', Same H H' → H' p = some (.tup (natV (walkN t s (sizeT t)))) → Q (.ref p) H'
theorem ok_states (B : Bt mg) (Bs : mg "set" = none) (O_law_size : Ok P w K mg base "_law_size" 2 ["_law_table"] sp_lsize) (D : Df K mg "_law_states_from" s_states ["_law_table", "_law_state"]) : Ok P w K mg base "_law_states_from" 3 ["_law_table", "_law_state"] sp_states := by
  refine D.ok sc_law_states_from (fun vs H Q E h => ?_) (fun f cdv A outer s H vs Q E hr h => ?_)
  · obtain ⟨v, t, s, rfl, _⟩ := h
    rfl
  · obtain ⟨v, t, s0, rfl, ⟨d, kvs, rfl, hd, ht, nd, ok⟩, st, hs0, q⟩ := h
    have hu := hu_of hr
    refine ⟨_, pss_cons (ps_set (i := 2) sc_law_states_from.nd rfl (.inl rfl) (pe_lst (pa_cons (pv 1) (pa_nil))))
      (pss_cons (ps_for PassesOwn.never rfl (pi_range1 (by rfl) B.range (pa_cons (O_law_size.call hr (ha := pa_cons (pv 0) (pa_nil))) (pa_nil))) (pg_name (i := 3) sc_law_states_from.nd rfl (.inl rfl))
        (pss_one (ps_for PassesOwn.never rfl (pi_list (pe_callB (call_sortedD rfl) (by rfl) B.sorted (by decide +kernel) (pa_cons (pv 0) (pa_nil)))) (pg_name (i := 4) sc_law_states_from.nd rfl (.inr rfl))
        (pss_one (ps_set (i := 2) sc_law_states_from.nd rfl (.inl rfl) (pe_callB (cr_sortedSet rfl) (by rfl) B.sorted (by decide +kernel) (pa_cons (pe_callTy (cr_setL rfl) (by rfl) Bs (by decide +kernel) (pa_cons (pe_op op_cat (pv 2) (pe_lc (own := [("_law_here", 5)]) (g := gName 5) (tt := tYes) rfl sc_law_states_from.nd (pi_list (pv 2)) (blkOk_by (own := [("_law_here", 5)]) (N := ["_law_table", "_law_state", "_law_found", "_law_turn", "_law_name", "_law_here"]) (sc := defScope s_states) (by decide +kernel)) (fun _ _ _ _ _ => pg_name (i := 5) sc_law_states_from.nd rfl (.inl rfl)) (fun _ _ _ _ _ => pts_nil) (fun _ _ _ _ _ => pe_ix (ixTK (K := K)) (pe_ix (ixTK (K := K)) (pe_dget hu (pv 0) (pv 4) (fun _ _ => rfl)) (pv 5) (fun _ _ => rfl)) (pe_int) (fun _ _ => rfl)))) (pa_nil))) (pa_nil))))))))
      (pss_one (ps_ret (pe_callTy (tupleK (K := K)) (by rfl) B.tuple (by decide +kernel) (pa_cons (pv 2) (pa_nil)))))), ?_⟩
    have h12 : t.length ≤ 6 ∧ sizeT t ≤ 12 := by
      have := ok
      unfold okTab at this
      simp only [Bool.and_eq_true, decide_eq_true_eq] at this
      exact ⟨this.1.1.1.2, this.1.2⟩
    refine ⟨_, rfl, by show 1 ≤ sizeLine; decide, fun p0 hp0 => ?_⟩
    walk_at "x"
    have e0 : Same H (upd H p0 (.lst [V.int (s0 : Int)])) := same_new hp0
    have hp1 : upd H p0 (.lst [V.int (s0 : Int)]) p0 = some (.lst (natV (walkN t s0 0))) := upd_same
    generalize upd H p0 (.lst [V.int (s0 : Int)]) = H0 at e0 hp1
    dsimp only [gName, tSeq]
    refine ⟨_, rfl, .ref d, t, rfl, ⟨d, kvs, rfl, e0 _ _ hd, ht.mono (tups_of e0), nd, ok⟩, (sizeT t : Int), rfl, by omega, by omega, ?_⟩
    refine for_range (n := sizeT t) (fun i σ' H' => ∃ (pf : Addr) (o3 o4 o5 : Option V), σ' = [some (.ref d), some (.int (s0 : Int)), some (.ref pf), o3, o4, o5] ∧ H' pf = some (.lst (natV (walkN t s0 i))) ∧ Same H H' ∧ (∀ x ∈ walkN t s0 i, x < sizeT t) ∧ (walkN t s0 i).length ≤ 12)
      ⟨p0, none, none, none, rfl, hp1, e0, fun x hx => by rw [List.mem_singleton.mp hx]; exact hs0, by show 1 ≤ 12; decide⟩ ?_ ?_
    · rintro i σ' H' hi ⟨pf, o3, o4, o5, rfl, hf, e1, lt1, few1⟩
      dsimp only [gName]
      refine ⟨_, rfl, d, kvs, namesT t, rfl, .inl (e1 _ _ hd), tabV_keys ht, by rw [namesT, List.length_map]; omega, fun ys pl pm hys hpl => ?_⟩
      have ey := sorted_one pm hys st
      subst ey
      have e2 : Same H (upd H' pl (.lst ((namesT t).map V.str))) := e1.trans (same_new hpl)
      have hf2 := same_new (o := .lst ((namesT t).map V.str)) hpl _ _ hf
      have hl2 : upd H' pl (.lst ((namesT t).map V.str)) pl = some (.lst ((namesT t).map V.str)) := upd_same
      generalize upd H' pl (.lst ((namesT t).map V.str)) = H1 at e2 hf2 hl2
      refine ⟨pl, rfl, ⟨_, SqL.of hl2⟩, ?_⟩
      have ln : ((namesT t).map V.str).length = t.length := by rw [List.length_map, namesT, List.length_map]
      refine for_list (K := K) (xs := (namesT t).map V.str) (fun k σ' H' => ∃ (pf : Addr) (o3 o4 o5 : Option V), σ' = [some (.ref d), some (.int (s0 : Int)), some (.ref pf), o3, o4, o5] ∧ H' pf = some (.lst (natV (partN t (walkN t s0 i) k))) ∧ Same H1 H' ∧ (∀ x ∈ partN t (walkN t s0 i) k, x < sizeT t) ∧ (partN t (walkN t s0 i) k).length ≤ 12)
        ⟨pf, _, o4, o5, rfl, hf2, Same.refl _, lt1, few1⟩ (fun k σ' H' _ ⟨_, _, _, _, _, _, e3, _⟩ => SqL.of (e3 _ _ hl2)) ?_ ?_
      · rintro k x σ' H2 hx ⟨pf2, o3, o4, o5, rfl, hf3, e3, lt3, few3⟩
        obtain ⟨e, he, rfl⟩ : ∃ e, t[k]? = some e ∧ V.str e.1 = x := by
          rw [namesT, List.map_map, List.getElem?_map] at hx
          obtain ⟨e, he, ee⟩ := Option.map_eq_some_iff.mp hx
          exact ⟨e, he, ee⟩
        have hm : e ∈ t := List.mem_of_getElem? he
        have sH : Same H H2 := e2.trans e3
        rw [part_next he]
        generalize partN t (walkN t s0 i) k = m at hf3 lt3 few3
        dsimp only [gName]
        walk_at "x"
        refine ⟨_, rfl, ?_⟩
        refine lc_runL (K := K) (xs := natV m) (ev_is rfl ⟨pf2, rfl, SqL.of hf3⟩) m (natV_len m) (fun _ => true) (fun z v _ => v = V.int ((toN e.2 z : Nat) : Int)) (by omega) (by intro _; rfl) (fun _ _ _ _ _ h => h)
          (fun j z x H4 hz hx e4 => ⟨evt_yes, fun _ H5 e5 Q q => ?_⟩) (fun p H4 ys hp e4 hls hP => ?_)
        · have hzx : x = V.int (z : Int) := by
            rw [natV, List.getElem?_map, hz] at hx
            exact (Option.some.inj hx).symm
          subst hzx
          have s5 : Same H H5 := sH.trans (e4.trans e5)
          obtain ⟨rv, hv, hrow⟩ := tab_look (ht.mono (tups_of s5)) nd hm
          have hg := DGet.k (k := Sum.inr e.1) (s5 _ _ hd)
          rw [hv] at hg
          obtain ⟨pr, hpr, hp0', hp1'⟩ := next_ok ok hm (lt3 z (List.mem_of_getElem? hz))
          obtain ⟨b, rs, rfl, hb, hrs⟩ := id hrow
          obtain ⟨u, hu2, hpu⟩ := paired_ix hrs hpr
          obtain ⟨pa, rfl, hpa⟩ := hpu
          refine ⟨_, rfl, _, rfl, d, _, rfl, hg, _, rfl, b, rs, _, .ref pa, rfl, rfl, SqT.of hb, atI_nat hu2, ?_⟩
          refine ⟨pa, _, _, .int pr.1, rfl, rfl, SqT.of hpa, atI_nat (j := 0) rfl, q _ _ (Same.refl _) ?_⟩
          unfold toN
          rw [hpr]
          show V.int pr.1 = V.int ((pr.1.toNat : Nat) : Int)
          rw [Int.toNat_of_nonneg hp0']
        · rw [filter_all] at hP
          have ey : ys = natV (m.map (toN e.2)) := by
            have : ∀ {ys : List V} {m : List Nat}, Paired (fun v z => v = V.int ((toN e.2 z : Nat) : Int)) ys m → ys = natV (m.map (toN e.2)) := by
              intro ys m hh
              induction hh with
              | nil => rfl
              | cons r _ ih =>
                rw [r, ih]
                rfl
            exact this hP
          rw [ey] at hls
          have lm : (m.map (toN e.2)).length = m.length := List.length_map ..
          refine ⟨pf2, p, natV m, _, rfl, rfl, e4 _ _ hf3, hls, by rw [natV_len, natV_len, lm]; exact sz_le (by omega), fun p2 hp2 => ?_⟩
          have all_lt : ∀ x ∈ m ++ m.map (toN e.2), x < sizeT t := fun x hx => by
            rcases List.mem_append.mp hx with z | z
            · exact lt3 x z
            · obtain ⟨h0, hh0, ee⟩ := List.mem_map.mp z
              obtain ⟨pr, hpr, hp0', hp1'⟩ := next_ok ok hm (lt3 h0 hh0)
              unfold toN at ee
              rw [hpr] at ee
              have ee2 : pr.1.toNat = x := ee
              omega
          have s6 := e4.trans (same_new (o := .lst (natV m ++ natV (m.map (toN e.2)))) hp2)
          have hl6 : upd H4 p2 (.lst (natV m ++ natV (m.map (toN e.2)))) p2 = some (.lst ((iN (m ++ m.map (toN e.2))).map V.int)) := by rw [upd_same, natV_app, natV_iN]
          generalize upd H4 p2 (.lst (natV m ++ natV (m.map (toN e.2)))) = H6 at s6 hl6
          have lc : (iN (m ++ m.map (toN e.2))).length ≤ 24 := by
            rw [iN, List.length_map, List.length_append, lm]
            omega
          refine ⟨p2, iN (m ++ m.map (toN e.2)), rfl, SqL.of hl6, by omega, fun p3 c hp3 hc => ?_⟩
          refine ⟨p3, _, c, rfl, upd_same, by omega, fun ns p4 up mem len hp4 => ?_⟩
          have en := step_is (n := sizeT t) up (fun k => (mem k).trans decide_eq_true_iff) all_lt
          have few := step_few (sizeT t) e.2 m
          refine ⟨p4, _, _, o5, rfl, ?_, e3.trans (s6.trans ((same_new hp3).trans (same_new hp4))), few.2, by omega⟩
          rw [upd_same, en, natV_iN]
      · rintro σ' H2 ⟨pf2, o3, o4, o5, rfl, hf3, e3, lt3, few3⟩
        rw [ln, part_all] at hf3 lt3 few3
        exact ⟨pf2, _, _, _, rfl, hf3, e2.trans e3, lt3, few3⟩
    · rintro σ' H' ⟨pf, o3, o4, o5, rfl, hf, e1, _⟩
      refine ⟨_, rfl, pf, _, rfl, .inl ⟨SqL.of hf, fun l hl => ?_⟩⟩
      exact q l _ (e1.trans (same_new hl)) upd_same
end
end Tm

/-! A tuple times 1; cell_kind(1) too. -/
namespace Tm
open PySem PySem.Spec PyProof.Rows L2
local macro_rules | `(tactic| walk_at "x") => `(tactic| dsimp only [tNext, tRet, tSeq, tCall, tCB, tC, tCons, tNil, tAsg, tDrop, sFld])
theorem tup_once (a : Addr) (us : Array Value) (k : Nat) (dd : Option Addr) (sl : Array (Option Value)) (t : Tok) (c : (us.isEmpty || (1 : Int) == 1) = true) :
    Meets (Builtin.«tuple.__mul__» ⟨[.ref a, .int 1 t], []⟩) fun _ R s => s.heap.get? a = some { cls := .type "tuple", dict := dd, data := .seq us k, slots := sl } ∧ R (.ok (.ret (.ref a))) s :=
  .of_wp fun P w A R s h => by
    obtain ⟨hp, gs, dr, tk, os⟩ := s
    obtain ⟨at_, q⟩ := h
    have e1 := AutoSeq1.idx_int
    wp_walk using AutoSeq1.wpAny_loadPart' at_
    exact ⟨_, rfl, q⟩
/-- tuple * k, k from 1 on; times 1 is the tuple itself -/
def rRep1 (K : PySem.W.Frag) : R2 := fun x y H Q => ∃ l k xs, x = .ref l ∧ y = .int k ∧ SqT K H l xs ∧ xs ≠ [] ∧ 1 ≤ k ∧ k ≤ 1000 ∧ xs.length ≤ 1000 ∧ (k = 1 → Q (.ref l) H) ∧ (2 ≤ k → ∀ p, H p = none → Q (.ref p) (upd H p (.tup (List.replicate k.toNat xs).flatten)))
theorem op_rep1 {X : Cx} : OpR X (binaryOp .Mult) (rRep1 X.K) := by
  intro pins s σ H x y v u Q I rx ry h
  obtain ⟨l, k, xs, rfl, rfl, sq, ne, lo, hi, few, one, more⟩ := h
  by_cases g : 2 ≤ k
  · exact op_repT pins s σ H (.ref l) (.int k) v u Q I rx ry ⟨l, k, xs, rfl, rfl, sq, ne, g, hi, few, more g⟩
  · have e : k = 1 := by omega
    subst e
    cases rx
    obtain ⟨t, rfl⟩ := ry
    obtain ⟨its, r, ⟨⟨oc, dd, od, sl⟩, at_, c, n, d⟩, _⟩ := I.tuple sq
    dsimp only at c d
    cases c
    cases d
    refine wpAny_binaryOp_repeat_ref (T := "tuple") (U := "int") (by decide) ⟨_, at_, rfl⟩ (fun z => typeIs_int z 1 t) noFill_tuple_mul F.fills_int_mul F.slot_int_rmul repeat_tuple F.slot_int_index.lookup
      (call_meets F.slot_int_rmul (typeIs_int s 1 t) F.entry_int_rmul (F.args_int_rmul_2 _ _) (int_rmul_tuple 1 t l its.toArray n dd sl) ⟨at_, rfl, ⟨_, at_, rfl⟩, call_meets F.slot_tuple_mul ⟨_, at_, rfl⟩ F.entry_tuple_mul (F.args_tuple_mul_2 _ _) (tup_once l its.toArray n dd sl t (Bool.or_true _)) ⟨at_, ?_⟩⟩)
    exact ⟨.ref l, H, I, rfl, one rfl⟩
theorem rep1K {X : Cx} {K : PySem.W.Frag} (hK : X.K = K := by rfl) : OpR X (binaryOp .Mult) (rRep1 K) := by subst hK; exact op_rep1
section
variable {K : PySem.W.Frag} {σ : L2.St} {H : Hp} {ta tb tn : TE}
/-- ((x, y),) * n -/
theorem ev_rep {x y : Int} {n : Nat} (ha : Ev ta σ H fun v _ => v = .int x) (hb : ∀ H1, Same H H1 → Ev tb σ H1 fun v _ => v = .int y) (hn : ∀ H1, Same H H1 → Ev tn σ H1 fun v _ => v = .int (n : Int)) (lo : 1 ≤ n) (hi : n ≤ 1000) :
    Ev (tOp (rRep1 K) (tTup (tCons (tTup (tCons ta (tCons tb tNil))) tNil)) tn) σ H fun v H1 => RowV H1 v (List.replicate n (x, y)) := fun Q q =>
  have k : tTup (tCons ta (tCons tb tNil)) σ H (fun v H1 => [v].length ≤ sizeLine ∧ ∀ p2, H1 p2 = none → tn σ (upd H1 p2 (.tup [v])) fun u H2 => rRep1 K (.ref p2) u H2 Q) := ev_pair ha hb _ fun v H1 e1 hv => by
    obtain ⟨p, ev, hp⟩ := hv
    subst ev
    refine ⟨by show 1 ≤ sizeLine; decide, fun p2 hp2 => hn _ (e1.trans (same_new hp2)) _ fun u H2 e2 eu => ?_⟩
    subst eu
    have s2 : Same H1 H2 := (same_new hp2).trans e2
    have h2 : H2 p2 = some (.tup [.ref p]) := e2 _ _ upd_same
    refine ⟨p2, (n : Int), [.ref p], rfl, rfl, SqT.of h2, by simp, by omega, by omega, by simp, fun e => ?_, fun _ p3 hp3 => ?_⟩
    · have en : n = 1 := by omega
      subst en
      exact q _ _ (e1.trans s2) ⟨p2, _, rfl, h2, .cons ⟨p, rfl, s2 _ _ hp⟩ .nil⟩
    · have er : (List.replicate (n : Int).toNat [V.ref p]).flatten = List.replicate n (V.ref p) := by simp
      rw [er]
      have s3 := s2.trans (same_new (o := .tup (List.replicate n (V.ref p))) hp3)
      exact q _ _ (e1.trans s3) ⟨p3, _, rfl, upd_same, paired_rep ⟨p, rfl, s3 _ _ hp⟩ n⟩
  k
end
theorem merge_all {κ : Type} [DecidableEq κ] : ∀ (kvs acc : List (κ × V)), ((acc ++ kvs).map (·.1)).Nodup → kvs.foldl (fun acc kv => putK acc kv.1 kv.2) acc = acc ++ kvs
  | [], acc, _ => (List.append_nil acc).symm
  | kv :: r, acc, h => by
    have e : putK acc kv.1 kv.2 = acc ++ [kv] := by
      unfold putK
      have no : (acc.any fun a => decide (a.1 = kv.1)) = false := by
        rw [List.any_eq_false]
        intro a ha
        rw [decide_eq_true_eq]
        rw [List.map_append, List.map_cons, List.nodup_append] at h
        exact h.2.2 _ (List.mem_map.mpr ⟨a, ha, rfl⟩) _ List.mem_cons_self
      rw [no]
      rfl
    rw [List.foldl_cons, e, merge_all r _ (by rw [List.append_assoc]; exact h), List.append_assoc]
    rfl
theorem mergeK_all {kvs : List (L2.Key × V)} (h : (kvs.map (·.1)).Nodup) : mergeK [] kvs = kvs := merge_all kvs [] h
theorem keys_nodup {H : Hp} {kvs : List (L2.Key × V)} {t : Tab} (h : TabV H kvs t) (nd : (namesT t).Nodup) : (kvs.map (·.1)).Nodup := by
  rw [tabV_keys h, List.nodup_iff_pairwise_ne, List.pairwise_map]
  exact (List.nodup_iff_pairwise_ne.mp nd).imp fun g z => g (Sum.inr.inj z)
theorem letT_range (word : Str) (n : Nat) (g : Nat → Row) : letT word ((List.range n).map g) = (List.range n).map fun i => (letr word i, g i) := by
  unfold letT
  refine List.ext_getElem? fun i => ?_
  rw [List.getElem?_map, List.getElem?_zipIdx, List.getElem?_map, List.getElem?_map]
  by_cases h : i < n
  · rw [List.getElem?_range h]
    simp
  · rw [List.getElem?_eq_none (by rw [List.length_range]; omega)]
    rfl
/-- a tuple (name, row) -/
def EntV (H : Hp) (v : V) (e : Str × Row) : Prop := ∃ p b, v = .ref p ∧ H p = some (.tup [.str e.1, b]) ∧ RowV H b e.2
theorem EntV.mono {H H' : Hp} {v : V} {e : Str × Row} (h : EntV H v e) (k : TupS H H') : EntV H' v e := by
  obtain ⟨p, b, e1, e2, e3⟩ := h
  exact ⟨p, b, e1, k _ _ e2, e3.mono k⟩
theorem ents_tab {K : PySem.W.Frag} {H : Hp} : ∀ {ys : List V} {t : Tab}, Paired (EntV H) ys t → ∃ (ps : List Addr) (kvs : List (L2.Key × V)), ys = ps.map V.ref ∧ Paired (fun p kv => SqT K H p [kV kv.1, kv.2]) ps kvs ∧ TabV H kvs t
  | _, _, .nil => ⟨[], [], rfl, .nil, .nil⟩
  | _, _, .cons r t => by
    obtain ⟨p, b, rfl, h1, h2⟩ := r
    obtain ⟨ps, kvs, rfl, h3, h4⟩ := ents_tab (K := K) t
    exact ⟨p :: ps, (Sum.inr _, b) :: kvs, rfl, .cons (SqT.of h1) h3, .cons ⟨rfl, h2⟩ h4⟩
theorem cell_ok1 : ∀ n, n < 7 → 1 ≤ n → okTab (cellT n) = true ∧ (namesT (cellT n)).Nodup := by decide +kernel
section
variable {P : Program} {w : World} {K : PySem.W.Frag} {mg : Str → Option Value} {base : Heap} {C : Addr}
theorem ok_cell1 (B : Bt mg) (O_need_number : NeedNum P w K mg base) (O_lettered : Lett P w K mg base C) (D : Df K mg "cell_kind" s_cell ["many"]) : Ok P w K mg base "cell_kind" 8 ["many"] (sp_made C 1 6 cellT) := by
  refine D.ok sc_cell_kind (fun vs H Q E h => ?_) (fun f cdv A outer s H vs Q E hr h => ?_)
  · obtain ⟨n, rfl, _⟩ := h
    rfl
  · obtain ⟨n, rfl, h2, h6, q⟩ := h
    have hT := cell_ok1 n (by omega) h2
    refine ⟨_, pss_cons (ps_expr (O_need_number.call hr (ha := pa_cons (pv 0) (pa_cons (pe_int) (pa_cons (pe_int) (pa_nil))))))
      (pss_one (ps_ret (O_lettered.call hr (ha := pa_cons (pe_str) (pa_cons (pe_lc (own := [("value", 1)]) (g := gName 1) (tt := tYes) rfl sc_cell_kind.nd (pi_range1 (by rfl) B.range (pa_cons (pv 0) (pa_nil))) (blkOk_by (own := [("value", 1)]) (N := ["many", "value"]) (sc := defScope s_cell) (by decide +kernel)) (fun _ _ _ _ _ => pg_name (i := 1) sc_cell_kind.nd rfl (.inl rfl)) (fun _ _ _ _ _ => pts_nil) (fun _ _ _ _ _ => pe_op (rep1K (K := K)) (pe_tup (pa_cons (pe_tup (pa_cons (pv 1) (pa_cons (pe_int) (pa_nil)))) (pa_nil))) (pv 0))) (pa_nil)))))), ?_⟩
    refine ⟨_, rfl, n, 1, 6, rfl, by omega, by omega, ?_⟩
    walk_at "x"
    refine lcR_go (n := n) (fun Q q => ⟨_, rfl, q _ _ (Same.refl _) rfl⟩) (by omega) (fun i v H => RowV H v (List.replicate n ((i : Int), (0 : Int)))) (by intro _; rfl) (fun z v H H' e h => h.mono e) (fun i H1 hi e => ?_) fun p H1 ys e hl hP => ?_
    · exact ev_rep (ev_is rfl rfl) (fun _ _ => ev_c rfl) (fun _ _ => ev_is rfl rfl) h2 (by omega)
    · exact ⟨"put", p, ys, _, rfl, hl, paired_mapR _ hP, by decide, hT.1, hT.2, fun v H' t' e' hk pm => q v H' t' (e.trans e') hk pm⟩
/-! ### the law's tables -/
def sp_tab (lo hi : Nat) (T : Nat → Tab) : Sp := fun vs H Q _ => ∃ n : Nat, vs = [.int (n : Int)] ∧ lo ≤ n ∧ n ≤ hi ∧ ∀ v H', Same H H' → DictV H' v (T n) → Q v H'
abbrev s_ltcell : Stmt := top 35
theorem sc_law_cell_table : FnScope ["_law_count", "_law_spot"] ["_law_count"] (defScope s_ltcell) := ⟨rfl, rfl, rfl, by decide +kernel, rfl, by decide +kernel, by decide +kernel⟩
theorem ok_ltcell (B : Bt mg) (D : Df K mg "_law_cell_table" s_ltcell ["_law_count"]) : Ok P w K mg base "_law_cell_table" 1 ["_law_count"] (sp_tab 1 6 cellT) := by
  refine D.ok sc_law_cell_table (fun vs H Q E h => ?_) (fun f cdv A outer s H vs Q E hr h => ?_)
  · obtain ⟨n, rfl, _⟩ := h
    rfl
  · obtain ⟨n, rfl, lo, hi, q⟩ := h
    have hT := cell_ok1 n (by omega) lo
    refine ⟨_, pss_one (ps_ret (pe_callTy (call_dictP rfl) (by rfl) B.dict (by decide +kernel) (pa_cons (pe_lc (own := [("_law_spot", 1)]) (g := gName 1) (tt := tYes) rfl sc_law_cell_table.nd (pi_range1 (by rfl) B.range (pa_cons (pv 0) (pa_nil))) (blkOk_by (own := [("_law_spot", 1)]) (N := ["_law_count", "_law_spot"]) (sc := defScope s_ltcell) (by decide +kernel)) (fun _ _ _ _ _ => pg_name (i := 1) sc_law_cell_table.nd rfl (.inl rfl)) (fun _ _ _ _ _ => pts_nil) (fun _ _ _ _ _ => pe_tup (pa_cons (pe_op op_add_str (pe_str) (pe_ix ix_str (pe_str) (pv 1) (fun _ _ => rfl))) (pa_cons (pe_op (rep1K (K := K)) (pe_tup (pa_cons (pe_tup (pa_cons (pv 1) (pa_cons (pe_int) (pa_nil)))) (pa_nil))) (pv 0)) (pa_nil))))) (pa_nil)))), ?_⟩
    walk_at "x"
    refine lcR_go (n := n) (fun Q q => ⟨_, rfl, q _ _ (Same.refl _) rfl⟩) (by omega) (fun i v H => EntV H v (letr "put" i, List.replicate n ((i : Int), (0 : Int)))) (by intro _; rfl) (fun z v H H' e h => h.mono e) (fun i H1 hi' e Q q => ?_) fun p H1 ys e hl hP => ?_
    · refine ⟨_, rfl, _, (i : Int), 97 + i, rfl, rfl, sz_le (by decide), atI_nat (letters_at i (by omega)), _, _, rfl, rfl, sz_le (by show 3 + 1 ≤ 100000; decide), ?_⟩
      refine ev_rep (K := K) (x := (i : Int)) (y := 0) (n := n) (ev_is rfl rfl) (fun _ _ => ev_c rfl) (fun _ _ => ev_is rfl rfl) lo (by omega) _ fun v H2 e2 hv => ?_
      refine ⟨by show 2 ≤ sizeLine; decide, fun p hp => q _ _ (e2.trans (same_new hp)) ⟨p, v, rfl, upd_same, hv.mono (tups_of (same_new hp))⟩⟩
    · have hP2 := paired_mapR (F := EntV H1) (fun i => (letr "put" i, List.replicate n ((i : Int), (0 : Int)))) hP
      rw [← letT_range "put" n fun i => List.replicate n ((i : Int), (0 : Int))] at hP2
      obtain ⟨ps, kvs, rfl, h3, h4⟩ := ents_tab (K := K) hP2
      have h4' : TabV H1 kvs (cellT n) := h4
      refine ⟨p, ps, kvs, rfl, SqL.of hl, h3, fun p2 hp2 => ?_⟩
      rw [mergeK_all (keys_nodup h4' hT.2)]
      exact q _ _ (e.trans (same_new hp2)) ⟨p2, kvs, rfl, upd_same, h4'.mono (tups_of (same_new hp2)), hT.2, hT.1⟩
end
end Tm

/-! The law's tables: adders, highest, slots. -/
namespace Tm
open PySem PySem.Spec PyProof.Rows L2
local macro_rules | `(tactic| walk_at "x") => `(tactic| dsimp only [tNext, tRet, tSeq, tCall, tCB, tC, tCons, tNil, tAsg, tDrop, sFld])
/-- one more entry of a table that is being made -/
theorem tab_put {H : Hp} {pd : Addr} {kvs : List (L2.Key × V)} {T : Tab} {i : Nat} {x : Str} {r : Row} {v : V} (hd : H pd = some (.dK kvs)) (ht : TabV H kvs (T.take i)) (hi : T[i]? = some (x, r)) (hr : RowV H v r) (nd : (namesT T).Nodup) (few : i ≤ 1000) :
    ∃ kvs', DPut H pd (.str x) v (upd H pd (.dK kvs')) ∧ TabV (upd H pd (.dK kvs')) kvs' (T.take (i + 1)) := by
  have no : valV kvs (Sum.inr x) = none := by
    have e := tab_isSome x ht
    have ni : x ∉ namesT (T.take i) := fun m => by
      have nd2 := nd
      have lt := (List.getElem?_eq_some_iff.mp hi).1
      have sp : T = T.take i ++ (x, r) :: T.drop (i + 1) := by
        rw [← (List.getElem?_eq_some_iff.mp hi).2, List.getElem_cons_drop, List.take_append_drop]
      rw [sp] at nd2
      unfold namesT at nd2 m
      rw [List.map_append, List.map_cons, List.nodup_append] at nd2
      exact nd2.2.2 x m x List.mem_cons_self rfl
    rw [decide_eq_false ni] at e
    cases z : valV kvs (Sum.inr x) with
    | none => rfl
    | some y => rw [z] at e; cases e
  have tu : TupS H (upd H pd (.dK (kvs ++ [(Sum.inr x, v)]))) := tups_upd hd (fun xs z => by cases z)
  refine ⟨kvs ++ [(Sum.inr x, v)], ?_, ?_⟩
  · have q := DPut.k (k := (Sum.inr x : L2.Key)) (v := v) hd (by
      rw [Paired.length ht, List.length_take]
      exact sz_lt (by omega))
    rw [putK_new v no] at q
    exact q
  · rw [take_one hi]
    exact paired_app (ht.mono tu) ⟨rfl, hr.mono tu⟩
section
variable {P : Program} {w : World} {K : PySem.W.Frag} {mg : Str → Option Value} {base : Heap} {C : Addr}
abbrev s_ltadder : Stmt := top 37
theorem sc_law_adder_table : FnScope ["_law_count", "_law_state"] ["_law_count"] (defScope s_ltadder) := ⟨rfl, rfl, rfl, by decide +kernel, rfl, by decide +kernel, by decide +kernel⟩
theorem ok_ltadder (B : Bt mg) (D : Df K mg "_law_adder_table" s_ltadder ["_law_count"]) : Ok P w K mg base "_law_adder_table" 1 ["_law_count"] (sp_tab 2 12 adderT) := by
  refine D.ok sc_law_adder_table (fun vs H Q E h => ?_) (fun f cdv A outer s H vs Q E hr h => ?_)
  · obtain ⟨n, rfl, _⟩ := h
    rfl
  · obtain ⟨n, rfl, lo, hi, q⟩ := h
    have hT := adder_ok n (by omega) lo
    refine ⟨_, pss_one (ps_ret (pe_disp (pps_cons (pe_str) (pe_callTy (tupleK (K := K)) (by rfl) B.tuple (by decide +kernel) (pa_cons (pe_lc (own := [("_law_state", 1)]) (g := gName 1) (tt := tYes) rfl sc_law_adder_table.nd (pi_range1 (by rfl) B.range (pa_cons (pv 0) (pa_nil))) (blkOk_by (own := [("_law_state", 1)]) (N := ["_law_count", "_law_state"]) (sc := defScope s_ltadder) (by decide +kernel)) (fun _ _ _ _ _ => pg_name (i := 1) sc_law_adder_table.nd rfl (.inl rfl)) (fun _ _ _ _ _ => pts_nil) (fun _ _ _ _ _ => pe_tup (pa_cons (pe_op op_mod (pe_op op_add (pv 1) (pe_int)) (pv 0)) (pa_cons (pv 1) (pa_nil))))) (pa_nil))) (pps_nil)) (by rfl) (by rfl) (fun z => by cases z) (by decide))), ?_⟩
    intro d hd
    dsimp only [tPairs, tC, tCB, tCons, tNil]
    refine lcR_go (n := n) (fun Q q => ⟨_, rfl, q _ _ (Same.refl _) rfl⟩) (by omega) (fun i v H => PairV H v (((i : Int) + 1) % (n : Int), (i : Int))) (by intro _; rfl) (fun z v H H' e h => h.mono e) (fun i H1 hi e => ?_) fun p H1 ys e hl hP => ?_
    · exact ev_pair (fun Q q => ⟨_, rfl, _, _, rfl, rfl, _, rfl, _, _, rfl, rfl, by omega, q _ _ (Same.refl _) rfl⟩) fun _ _ => ev_is rfl rfl
    · refine ⟨p, ys, rfl, .inl ⟨SqL.of hl, fun l hl2 => ?_⟩⟩
      have e2 : Same (upd H d (.dK [])) (upd H1 l (.tup ys)) := e.trans (same_new hl2)
      have row : RowV (upd H1 l (.tup ys)) (.ref l) ((List.range n).map fun s : Nat => (((s : Int) + 1) % (n : Int), (s : Int))) :=
        ⟨l, ys, rfl, upd_same, paired_mapR _ (Paired.mapP hP fun _ _ r => r.mono (tups_of (same_new hl2)))⟩
      generalize upd H1 l (.tup ys) = H2 at e2 row
      have hd1 : H2 d = some (.dK []) := e2 _ _ upd_same
      have eH : Same H (upd H2 d (.dK [(Sum.inr "add", .ref l)])) := same_mut ((same_new hd).trans e2) hd
      refine ⟨hd1, [(Sum.inr "add", .ref l)], rfl, by show 1 ≤ 15; decide, ?_⟩
      rw [merge1]
      exact q _ _ eH ⟨d, _, rfl, upd_same, .cons ⟨rfl, row.mono (tups_upd hd1 (fun xs z => by cases z))⟩ .nil, hT.2, hT.1⟩
abbrev s_lthigh : Stmt := top 39
theorem sc_law_highest_table : FnScope ["_law_count", "_law_found", "_law_spot", "_law_state"] ["_law_count"] (defScope s_lthigh) := ⟨rfl, rfl, rfl, by decide +kernel, rfl, by decide +kernel, by decide +kernel⟩
def highR (n : Nat) (l : Nat) : Row := (List.range n).map fun (s : Nat) => ((if (l : Int) > (s : Int) then (l : Int) else (s : Int)), (0 : Int))
theorem highT_is (n : Nat) : highT n = (List.range n).map fun i => (letr "raise" i, highR n i) := letT_range "raise" n (highR n)
theorem map_at {α : Type} {n i : Nat} {f : Nat → α} (h : i < n) : ((List.range n).map f)[i]? = some (f i) := by
  rw [List.getElem?_map, List.getElem?_range h]
  rfl
theorem ok_lthigh (B : Bt mg) (D : Df K mg "_law_highest_table" s_lthigh ["_law_count"]) : Ok P w K mg base "_law_highest_table" 2 ["_law_count"] (sp_tab 2 6 highT) := by
  refine D.ok sc_law_highest_table (fun vs H Q E h => ?_) (fun f cdv A outer s H vs Q E hr h => ?_)
  · obtain ⟨n, rfl, _⟩ := h
    rfl
  · obtain ⟨n, rfl, lo, hi, q⟩ := h
    have hT := high_ok n (by omega) lo
    have hu := hu_of hr
    refine ⟨_, pss_cons (ps_set (i := 1) sc_law_highest_table.nd rfl (.inl rfl) (pe_dnewK))
      (pss_cons (ps_for PassesOwn.never rfl (pi_range1 (by rfl) B.range (pa_cons (pv 0) (pa_nil))) (pg_name (i := 2) sc_law_highest_table.nd rfl (.inr rfl))
        (pss_one (ps_asg (pe_callTy (tupleK (K := K)) (by rfl) B.tuple (by decide +kernel) (pa_cons (pe_lc (own := [("_law_state", 3)]) (g := gName 3) (tt := tYes) rfl sc_law_highest_table.nd (pi_range1 (by rfl) B.range (pa_cons (pv 0) (pa_nil))) (blkOk_by (own := [("_law_state", 3)]) (N := ["_law_count", "_law_found", "_law_spot", "_law_state"]) (sc := defScope s_lthigh) (by decide +kernel)) (fun _ _ _ _ _ => pg_name (i := 3) sc_law_highest_table.nd rfl (.inl rfl)) (fun _ _ _ _ _ => pts_nil) (fun _ _ _ _ _ => pe_tup (pa_cons (pe_callB (call_max2 rfl) (by rfl) B.max (by decide +kernel) (pa_cons (pv 2) (pa_cons (pv 3) (pa_nil)))) (pa_cons (pe_int) (pa_nil))))) (pa_nil))) (pg_sub (pv 1) (pe_op op_add_str (pe_str) (pe_ix ix_str (pe_str) (pv 2) (fun _ _ => rfl))) (set_dict hu)))))
      (pss_one (ps_ret (pv 1)))), ?_⟩
    intro pd hpd
    dsimp only [gName, tSeq]
    refine ⟨_, rfl, (n : Int), rfl, by omega, by omega, ?_⟩
    refine for_range (n := n) (fun i σ' H' => ∃ (o2 o3 : Option V) (kvs : List (L2.Key × V)), σ' = [some (.int (n : Int)), some (.ref pd), o2, o3] ∧ H' pd = some (.dK kvs) ∧ TabV H' kvs ((highT n).take i) ∧ Same H H')
      ⟨none, none, [], rfl, upd_same, .nil, same_new hpd⟩ ?_ ?_
    · rintro i σ' H' hi ⟨o2, o3, kvs, rfl, hd, ht, e1⟩
      dsimp only [gName]
      walk_at "x"
      have at_ : (highT n)[i]? = some (letr "raise" i, highR n i) := by rw [highT_is]; exact map_at hi
      rw [Int.zero_add]
      refine lcR_go (n := n) (fun Q q => ⟨_, rfl, q _ _ (Same.refl _) rfl⟩) (by omega) (fun s v H => PairV H v ((if (i : Int) > (s : Int) then (i : Int) else (s : Int)), (0 : Int))) (by intro _; rfl) (fun z v H H' e h => h.mono e) (fun s H2 hs e2 => ?_) fun p H1 ys e2 hl hP => ?_
      · refine ev_pair (fun Q q => ⟨_, rfl, _, rfl, _, _, rfl, q _ _ (Same.refl _) ?_⟩) fun _ _ => ev_c rfl
        congr 1
        split <;> split <;> omega
      · refine ⟨p, ys, rfl, .inl ⟨SqL.of hl, fun l hl2 => ?_⟩⟩
        have e3 : Same H' (upd H1 l (.tup ys)) := e2.trans (same_new hl2)
        have row : RowV (upd H1 l (.tup ys)) (.ref l) (highR n i) := ⟨l, ys, rfl, upd_same, paired_mapR _ (Paired.mapP hP fun _ _ r => r.mono (tups_of (same_new hl2)))⟩
        generalize upd H1 l (.tup ys) = H3 at e3 row
        obtain ⟨kvs', g1, g2⟩ := tab_put (e3 _ _ hd) (ht.mono (tups_of e3)) at_ row hT.2 (by omega)
        refine ⟨_, rfl, _, rfl, _, (i : Int), 97 + i, rfl, rfl, sz_le (by decide), atI_nat (letters_at i (by omega)), _, _, rfl, rfl, sz_le (by show 5 + 1 ≤ 100000; decide), ?_⟩
        exact ⟨pd, _, rfl, g1, _, o3, kvs', rfl, upd_same, g2, same_mut (e1.trans e3) hpd⟩
    · rintro σ' H' ⟨o2, o3, kvs, rfl, hd, ht, e1⟩
      have ln : (highT n).length = n := by rw [highT_is, List.length_map, List.length_range]
      rw [List.take_of_length_le (by omega)] at ht
      exact ⟨_, rfl, q _ _ e1 ⟨pd, kvs, rfl, hd, ht, hT.2, hT.1⟩⟩
abbrev s_ltslot : Stmt := top 36
theorem sc_law_slot_table : FnScope ["_law_count", "_law_found", "_law_spot", "_law_row", "_law_state"] ["_law_count"] (defScope s_ltslot) := ⟨rfl, rfl, rfl, by decide +kernel, rfl, by decide +kernel, by decide +kernel⟩
def slotR (n : Nat) (i : Nat) : Row := (1 + (i : Int), 1 + (i : Int)) :: keptR n
theorem slotT_is (n : Nat) : slotT n = (List.range n).map fun i => (letr "set" i, slotR n i) := by
  unfold slotT keptR
  rw [List.map_map]
  exact letT_range "set" n (slotR n)
theorem ok_ltslot (B : Bt mg) (D : Df K mg "_law_slot_table" s_ltslot ["_law_count"]) : Ok P w K mg base "_law_slot_table" 2 ["_law_count"] (sp_tab 1 6 slotT) := by
  refine D.ok sc_law_slot_table (fun vs H Q E h => ?_) (fun f cdv A outer s H vs Q E hr h => ?_)
  · obtain ⟨n, rfl, _⟩ := h
    rfl
  · obtain ⟨n, rfl, lo, hi, q⟩ := h
    have hT := slot_ok n (by omega) lo
    have hu := hu_of hr
    refine ⟨_, pss_cons (ps_set (i := 1) sc_law_slot_table.nd rfl (.inl rfl) (pe_dnewK))
      (pss_cons (ps_for PassesOwn.never rfl (pi_range1 (by rfl) B.range (pa_cons (pv 0) (pa_nil))) (pg_name (i := 2) sc_law_slot_table.nd rfl (.inl rfl))
        (pss_cons (ps_set (i := 3) sc_law_slot_table.nd rfl (.inl rfl) (pe_op op_cat (pe_lst (pa_cons (pe_tup (pa_cons (pe_op op_add (pv 2) (pe_int)) (pa_cons (pe_op op_add (pv 2) (pe_int)) (pa_nil)))) (pa_nil))) (pe_lc (own := [("_law_state", 4)]) (g := gName 4) (tt := tYes) rfl sc_law_slot_table.nd (pi_range2 (by rfl) B.range (pa_cons (pe_int) (pa_cons (pe_op op_add (pv 0) (pe_int)) (pa_nil)))) (blkOk_by (own := [("_law_state", 4)]) (N := ["_law_count", "_law_found", "_law_spot", "_law_row", "_law_state"]) (sc := defScope s_ltslot) (by decide +kernel)) (fun _ _ _ _ _ => pg_name (i := 4) sc_law_slot_table.nd rfl (.inl rfl)) (fun _ _ _ _ _ => pts_nil) (fun _ _ _ _ _ => pe_tup (pa_cons (pv 4) (pa_cons (pv 4) (pa_nil)))))))
      (pss_one (ps_asg (pe_callTy (tupleK (K := K)) (by rfl) B.tuple (by decide +kernel) (pa_cons (pv 3) (pa_nil))) (pg_sub (pv 1) (pe_op op_add_str (pe_str) (pe_ix ix_str (pe_str) (pv 2) (fun _ _ => rfl))) (set_dict hu))))))
      (pss_one (ps_ret (pv 1)))), ?_⟩
    intro pd hpd
    dsimp only [gName, tSeq]
    refine ⟨_, rfl, (n : Int), rfl, by omega, by omega, ?_⟩
    refine for_range (n := n) (fun i σ' H' => ∃ (o2 o3 o4 : Option V) (kvs : List (L2.Key × V)), σ' = [some (.int (n : Int)), some (.ref pd), o2, o3, o4] ∧ H' pd = some (.dK kvs) ∧ TabV H' kvs ((slotT n).take i) ∧ Same H H')
      ⟨none, none, none, [], rfl, upd_same, .nil, same_new hpd⟩ ?_ ?_
    · rintro i σ' H' hi ⟨o2, o3, o4, kvs, rfl, hd, ht, e1⟩
      dsimp only [gName, tSeq]
      walk_at "x"
      have at_ : (slotT n)[i]? = some (letr "set" i, slotR n i) := by rw [slotT_is]; exact map_at hi
      rw [Int.zero_add]
      refine ⟨_, rfl, _, _, rfl, rfl, _, rfl, _, _, rfl, rfl, by show 2 ≤ sizeLine; decide, fun p1 hp1 => ⟨by show 1 ≤ sizeLine; decide, fun p2 hp2 => ?_⟩⟩
      have e2 : Same H' (upd (upd H' p1 (.tup [.int ((i : Int) + 1), .int ((i : Int) + 1)])) p2 (.lst [.ref p1])) := (same_new hp1).trans (same_new hp2)
      have h2 : upd (upd H' p1 (.tup [.int ((i : Int) + 1), .int ((i : Int) + 1)])) p2 (.lst [.ref p1]) p2 = some (.lst [.ref p1]) := upd_same
      have h1 := same_new (o := .lst [.ref p1]) hp2 _ _ (upd_same (H := H') (a := p1) (o := .tup [.int ((i : Int) + 1), .int ((i : Int) + 1)]))
      generalize upd (upd H' p1 (.tup [.int ((i : Int) + 1), .int ((i : Int) + 1)])) p2 (.lst [.ref p1]) = H2 at e2 h2 h1
      refine lcR2_go (n := n) (lo := 1) (m := (n : Int) + 1) (fun Q q => ⟨_, rfl, _, _, rfl, rfl, q _ _ (Same.refl _) rfl⟩) (by omega) (by omega) (by omega) (fun s v H => PairV H v (1 + (s : Int), 1 + (s : Int))) (by intro _; rfl) (fun z v H H' e h => h.mono e) (fun s H3 hs e3 => ev_pair (ev_is rfl rfl) fun _ _ => ev_is rfl rfl) fun p H3 ys e3 hl hP => ?_
      have lys : ys.length = n := by rw [Paired.length hP, List.length_range]
      refine ⟨p2, p, _, ys, rfl, rfl, e3 _ _ h2, hl, by show 1 + ys.length ≤ sizeLine; exact sz_le (by omega), fun p3 hp3 => ?_⟩
      refine ⟨_, rfl, p3, _, rfl, .inl ⟨SqL.of upd_same, fun l hl2 => ?_⟩⟩
      have e4 : Same H3 (upd (upd H3 p3 (.lst ([V.ref p1] ++ ys))) l (.tup ([V.ref p1] ++ ys))) := (same_new hp3).trans (same_new hl2)
      have row : RowV (upd (upd H3 p3 (.lst ([V.ref p1] ++ ys))) l (.tup ([V.ref p1] ++ ys))) (.ref l) (slotR n i) :=
        ⟨l, _, rfl, upd_same, .cons ⟨p1, rfl, by rw [Int.add_comm 1]; exact e4 _ _ (e3 _ _ h1)⟩ (paired_mapR _ (Paired.mapP hP fun _ _ r => r.mono (tups_of e4)))⟩
      have e5 : Same H' (upd (upd H3 p3 (.lst ([V.ref p1] ++ ys))) l (.tup ([V.ref p1] ++ ys))) := e2.trans (e3.trans e4)
      generalize upd (upd H3 p3 (.lst ([V.ref p1] ++ ys))) l (.tup ([V.ref p1] ++ ys)) = H5 at e5 row
      obtain ⟨kvs', g1, g2⟩ := tab_put (e5 _ _ hd) (ht.mono (tups_of e5)) at_ row hT.2 (by omega)
      refine ⟨_, rfl, _, rfl, _, (i : Int), 97 + i, rfl, rfl, sz_le (by decide), atI_nat (letters_at i (by omega)), _, _, rfl, rfl, sz_le (by show 3 + 1 ≤ 100000; decide), ?_⟩
      exact ⟨pd, _, rfl, g1, _, _, o4, kvs', rfl, upd_same, g2, same_mut (e1.trans e5) hpd⟩
    · rintro σ' H' ⟨o2, o3, o4, kvs, rfl, hd, ht, e1⟩
      have ln : (slotT n).length = n := by rw [slotT_is, List.length_map, List.length_range]
      rw [List.take_of_length_le (by omega)] at ht
      exact ⟨_, rfl, q _ _ e1 ⟨pd, kvs, rfl, hd, ht, hT.2, hT.1⟩⟩
end
end Tm

/-! The law's tables: swaps, fading, queues. -/
namespace Tm
open PySem PySem.Spec PyProof.Rows L2
local macro_rules | `(tactic| walk_at "x") => `(tactic| dsimp only [tNext, tRet, tSeq, tCall, tCB, tC, tCons, tNil, tAsg, tDrop, sFld])
theorem piL {X : Cx} {K : PySem.W.Frag} {tg l : Expr} {tl : TE} (hl : PE X l tl) (hK : X.K = K := by rfl) : PI X tg l (iList K tl) := by subst hK; exact pi_list hl
theorem rng_paired {α : Type} {F : V → Nat → Prop} : ∀ {n : Nat}, (∀ i, i < n → F (V.int (i : Int)) i) → Paired F ((List.range n).map fun (i : Nat) => V.int (i : Int)) (List.range n) := by
  intro n h
  have : ∀ l : List Nat, (∀ i ∈ l, i < n) → Paired F (l.map fun (i : Nat) => V.int (i : Int)) l := by
    intro l
    induction l with
    | nil => exact fun _ => .nil
    | cons x r ih => exact fun hl => .cons (h x (hl x List.mem_cons_self)) (ih fun i hi => hl i (List.mem_cons_of_mem _ hi))
  exact this _ fun i hi => List.mem_range.mp hi
section
variable {P : Program} {w : World} {K : PySem.W.Frag} {mg : Str → Option Value} {base : Heap} {C : Addr}
abbrev s_ltswap : Stmt := top 38
theorem sc_law_swap_table : FnScope ["_law_count", "_law_row", "_law_spot", "_law_state"] ["_law_count"] (defScope s_ltswap) := ⟨rfl, rfl, rfl, by decide +kernel, rfl, by decide +kernel, by decide +kernel⟩
def swapR (n : Nat) (i : Nat) : Row := (List.range n).map fun (s : Nat) => ((i : Int), (s : Int))
theorem swapT_is (n : Nat) : swapT n = (List.range n).map fun i => (letr "swap" i, swapR n i) := letT_range "swap" n (swapR n)
theorem rg_is (n : Nat) : rgV 0 (n : Int) = (List.range n).map fun (i : Nat) => V.int (i : Int) := by
  unfold rgV
  rw [Int.sub_zero, Int.toNat_natCast]
  exact List.map_congr_left fun i _ => by rw [Int.zero_add]
theorem ok_ltswap (B : Bt mg) (D : Df K mg "_law_swap_table" s_ltswap ["_law_count"]) : Ok P w K mg base "_law_swap_table" 2 ["_law_count"] (sp_tab 2 6 swapT) := by
  refine D.ok sc_law_swap_table (fun vs H Q E h => ?_) (fun f cdv A outer s H vs Q E hr h => ?_)
  · obtain ⟨n, rfl, _⟩ := h
    rfl
  · obtain ⟨n, rfl, lo, hi, q⟩ := h
    have hT := swap_ok n (by omega) lo
    refine ⟨_, pss_cons (ps_set (i := 1) sc_law_swap_table.nd rfl (.inr rfl) (pe_listRg rfl (by rfl) B.list (prg_1 (by rfl) B.range (pv 0))))
      (pss_one (ps_ret (pe_callTy (call_dictP rfl) (by rfl) B.dict (by decide +kernel) (pa_cons (pe_lc (own := [("_law_spot", 2)]) (g := gName 2) (tt := tYes) rfl sc_law_swap_table.nd (pi_list (pv 1)) (blkOk_by (own := [("_law_spot", 2)]) (N := ["_law_count", "_law_row", "_law_spot", "_law_state"]) (sc := defScope s_ltswap) (by decide +kernel)) (fun _ _ _ _ _ => pg_name (i := 2) sc_law_swap_table.nd rfl (.inr rfl)) (fun _ _ _ _ _ => pts_nil) (fun _ _ _ _ _ => pe_tup (pa_cons (pe_op op_add_str (pe_str) (pe_ix ix_str (pe_str) (pv 2) (fun _ _ => rfl))) (pa_cons (pe_callTy (tupleK (K := K)) (by rfl) B.tuple (by decide +kernel) (pa_cons (pe_lc (own := [("_law_state", 3)]) (g := gName 3) (tt := tYes) rfl sc_law_swap_table.nd (piL (K := K) (pv 1)) (blkOk_by (own := [("_law_state", 3)]) (N := ["_law_count", "_law_row", "_law_spot", "_law_state"]) (by rfl)) (fun _ _ _ _ _ => pg_name (i := 3) sc_law_swap_table.nd rfl (.inl rfl)) (fun _ _ _ _ _ => pts_nil) (fun _ _ _ _ _ => pe_tup (pa_cons (pv 2) (pa_cons (pv 3) (pa_nil))))) (pa_nil))) (pa_nil))))) (pa_nil))))), ?_⟩
    refine ⟨_, rfl, (n : Int), rfl, RgOk.of_le (by omega) (by omega) (by omega) (by omega), fun pr hpr => ?_⟩
    rw [rg_is]
    dsimp only [gName, tSeq]
    walk_at "x"
    have e0 : Same H (upd H pr (.lst ((List.range n).map fun (i : Nat) => V.int (i : Int)))) := same_new hpr
    have hl0 : upd H pr (.lst ((List.range n).map fun (i : Nat) => V.int (i : Int))) pr = some (.lst ((List.range n).map fun (i : Nat) => V.int (i : Int))) := upd_same
    generalize upd H pr (.lst ((List.range n).map fun (i : Nat) => V.int (i : Int))) = H0 at e0 hl0
    have int_at : ∀ {z : Nat} {x : V} {j : Nat}, (List.range n)[j]? = some z → ((List.range n).map fun (i : Nat) => V.int (i : Int))[j]? = some x → z < n ∧ x = V.int (z : Int) := fun hz hx => by
      rw [List.getElem?_map, hz] at hx
      obtain ⟨e, lt⟩ := range_at hz
      exact ⟨by omega, (Option.some.inj hx).symm⟩
    refine lc_runL (K := K) (xs := (List.range n).map fun (i : Nat) => V.int (i : Int)) (ev_is rfl ⟨pr, rfl, SqL.of hl0⟩) (List.range n) (List.length_map ..) (fun _ => true) (fun i v H => EntV H v (letr "swap" i, swapR n i)) (by rw [List.length_range]; omega) (by intro _; rfl) (fun z v H H' e h => h.mono e)
      (fun j z x H1 hz hx e => ⟨evt_yes, fun _ H3 e3 Q q => ?_⟩) (fun p H1 ys hp e hl hP => ?_)
    · obtain ⟨lt, rfl⟩ := int_at hz hx
      refine ⟨_, rfl, _, (z : Int), 97 + z, rfl, rfl, sz_le (by decide), atI_nat (letters_at z (by omega)), _, _, rfl, rfl, sz_le (by show 4 + 1 ≤ 100000; decide), ?_⟩
      walk_at "x"
      refine lc_runL (K := K) (xs := (List.range n).map fun (i : Nat) => V.int (i : Int)) (ev_is rfl ⟨pr, rfl, SqL.of (e3 _ _ (e _ _ hl0))⟩) (List.range n) (List.length_map ..) (fun _ => true) (fun s v H => PairV H v ((z : Int), (s : Int))) (by rw [List.length_range]; omega) (by intro _; rfl) (fun z v H H' e h => h.mono e)
        (fun j s x H4 hz hx e4 => ⟨evt_yes, fun _ H5 e5 => ?_⟩) (fun p H4 ys hp e4 hl hP => ?_)
      · obtain ⟨_, rfl⟩ := int_at hz hx
        exact ev_pair (ev_is rfl rfl) fun _ _ => ev_is rfl rfl
      · rw [filter_all] at hP
        refine ⟨p, ys, rfl, .inl ⟨SqL.of hl, fun l hl2 => ⟨by show 2 ≤ sizeLine; decide, fun pp hpp => ?_⟩⟩⟩
        have row : RowV (upd H4 l (.tup ys)) (.ref l) (swapR n z) := ⟨l, ys, rfl, upd_same, paired_mapR _ (Paired.mapP hP fun _ _ r => r.mono (tups_of (same_new hl2)))⟩
        exact q _ _ (e4.trans ((same_new hl2).trans (same_new hpp))) ⟨pp, _, rfl, upd_same, row.mono (tups_of (same_new hpp))⟩
    · rw [filter_all] at hP
      have hP2 := paired_mapR (F := EntV H1) (fun i => (letr "swap" i, swapR n i)) hP
      rw [← swapT_is] at hP2
      obtain ⟨ps, kvs, rfl, h3, h4⟩ := ents_tab (K := K) hP2
      refine ⟨p, ps, kvs, rfl, SqL.of hl, h3, fun p2 hp2 => ?_⟩
      rw [mergeK_all (keys_nodup h4 hT.2)]
      exact q _ _ (e0.trans (e.trans (same_new hp2))) ⟨p2, kvs, rfl, upd_same, h4.mono (tups_of (same_new hp2)), hT.2, hT.1⟩
end
end Tm

/-! The law's tables: fading. -/
namespace Tm
open PySem PySem.Spec PyProof.Rows L2
local macro_rules | `(tactic| walk_at "x") => `(tactic| dsimp only [tNext, tRet, tSeq, tCall, tCB, tC, tCons, tNil, tAsg, tDrop, sFld])
section
variable {P : Program} {w : World} {K : PySem.W.Frag} {mg : Str → Option Value} {base : Heap} {C : Addr}
abbrev s_ltfade : Stmt := top 40
theorem sc_law_fading_table : FnScope ["_law_count", "_law_found", "_law_last", "_law_name", "_law_first", "_law_row", "_law_state"] ["_law_count"] (defScope s_ltfade) := ⟨rfl, rfl, rfl, by decide +kernel, rfl, by decide +kernel, by decide +kernel⟩
theorem later_at {n k : Nat} (h : k < 2 * n + 1) : (laterR n)[k]? = some (fadeS (1 + (k : Int)) n, (0 : Int)) := by
  unfold laterR
  exact map_at (f := fun (i : Nat) => (fadeS (1 + (i : Int)) n, (0 : Int))) h
theorem later_all {n : Nat} (h : 1 ≤ n) : laterR n = (laterR n).take (2 * n) ++ [(2 * (n : Int) + 1, (0 : Int))] := by
  have e := take_one (later_at (n := n) (k := 2 * n) (by omega))
  have l : (laterR n).length = 2 * n + 1 := by
    unfold laterR
    rw [List.length_map, List.length_range]
  rw [List.take_of_length_le (by omega)] at e
  have f : fadeS (1 + ((2 * n : Nat) : Int)) n = 2 * (n : Int) + 1 := by
    unfold fadeS
    rw [if_neg (by omega)]
    split <;> omega
  rw [f] at e
  exact e
theorem ok_ltfade (B : Bt mg) (D : Df K mg "_law_fading_table" s_ltfade ["_law_count"]) : Ok P w K mg base "_law_fading_table" 2 ["_law_count"] (sp_tab 1 5 fadeT) := by
  refine D.ok sc_law_fading_table (fun vs H Q E h => ?_) (fun f cdv A outer s H vs Q E hr h => ?_)
  · obtain ⟨n, rfl, _⟩ := h
    rfl
  · obtain ⟨n, rfl, lo, hi, q⟩ := h
    have hT := fade_ok n (by omega) lo
    have hu := hu_of hr
    refine ⟨_, pss_cons (ps_par (i := 1) (j := 2) (by rfl) sc_law_fading_table.nd rfl rfl (by decide) rfl rfl (pa_cons (pe_dnewK) (pa_cons (pe_op op_add (pe_op op_mul (pe_int) (pv 0)) (pe_int)) (pa_nil))) (by rfl))
      (pss_cons (ps_for PassesOwn.never rfl (pi_tup (pe_tup (pa_cons (pe_tup (pa_cons (pe_str) (pa_cons (pe_int) (pa_nil)))) (pa_cons (pe_tup (pa_cons (pe_str) (pa_cons (pe_op op_add (pv 0) (pe_int)) (pa_nil)))) (pa_nil))))) (pg_tup (by rfl) (pgs_cons (pg_name (i := 3) sc_law_fading_table.nd rfl (.inl rfl)) (pgs_cons (pg_name (i := 4) sc_law_fading_table.nd rfl (.inl rfl)) (pgs_nil))))
        (pss_cons (ps_set (i := 5) sc_law_fading_table.nd rfl (.inl rfl) (pe_lst (pa_cons (pe_tup (pa_cons (pv 4) (pa_cons (pe_int) (pa_nil)))) (pa_nil))))
      (pss_cons (ps_for PassesOwn.never rfl (pi_range2 (by rfl) B.range (pa_cons (pe_int) (pa_cons (pv 2) (pa_nil)))) (pg_name (i := 6) sc_law_fading_table.nd rfl (.inl rfl))
        (pss_one (ps_expr (pe_bm PySem.F.plainAttrs_list PySem.F.slot_list_append PySem.F.type_list_append mt_append (pv 5) (pa_cons (pe_tup (pa_cons (pe_ifExp (PW.pt (pw_or (pt_cmpR op_eq (pv 6) (pv 0) (nomark _)) (pw_or1 (pt_cmpR op_eq (pv 6) (pe_op op_sub (pv 2) (pe_int)) (nomark _))))) (pv 2) (pe_op op_add (pv 6) (pe_int))) (pa_cons (pe_int) (pa_nil)))) (pa_nil))))))
      (pss_one (ps_asg (pe_callTy (tupleK (K := K)) (by rfl) B.tuple (by decide +kernel) (pa_cons (pe_op op_cat (pv 5) (pe_lst (pa_cons (pe_tup (pa_cons (pv 2) (pa_cons (pe_int) (pa_nil)))) (pa_nil)))) (pa_nil))) (pg_sub (pv 1) (pv 3) (set_dict hu)))))))
      (pss_one (ps_ret (pv 1)))), ?_⟩
    intro pd hpd
    refine ⟨_, rfl, _, _, rfl, rfl, .inl ⟨by decide, by decide⟩, _, _, rfl, rfl, _, _, rfl, ?_⟩
    dsimp only [tSeq]
    refine ⟨by show 2 ≤ sizeLine; decide, fun t1 ht1 => ⟨_, rfl, _, _, rfl, rfl, by show 2 ≤ sizeLine; decide, fun t2 ht2 => ⟨by show 2 ≤ sizeLine; decide, fun tt htt => ⟨tt, rfl, ⟨_, SqT.of upd_same⟩, ?_⟩⟩⟩⟩
    have e1 := (same_new (o := .tup [.str "seta", .int 1]) ht1).trans ((same_new (o := .tup [.str "setb", .int ((n : Int) + 1)]) ht2).trans (same_new (o := .tup [.ref t1, .ref t2]) htt))
    have f1 := ((same_new (o := .tup [.str "setb", .int ((n : Int) + 1)]) ht2).trans (same_new (o := .tup [.ref t1, .ref t2]) htt)) _ _ (upd_same (a := t1) (o := .tup [.str "seta", .int 1]))
    have f2 := (same_new (o := .tup [.ref t1, .ref t2]) htt) _ _ (upd_same (a := t2) (o := .tup [.str "setb", .int ((n : Int) + 1)]))
    have f3 := upd_same (H := upd (upd (upd H pd (.dK [])) t1 (.tup [.str "seta", .int 1])) t2 (.tup [.str "setb", .int ((n : Int) + 1)])) (a := tt) (o := .tup [.ref t1, .ref t2])
    generalize upd (upd (upd (upd H pd (.dK [])) t1 (.tup [.str "seta", .int 1])) t2 (.tup [.str "setb", .int ((n : Int) + 1)])) tt (.tup [.ref t1, .ref t2]) = H1 at e1 f1 f2 f3
    have h1d : H1 pd = some (.dK []) := e1 _ _ upd_same
    have eH : Same H H1 := (same_new hpd).trans e1
    have ent : ∀ (i : Nat) (x : V), ([V.ref t1, V.ref t2] : List V)[i]? = some x → ∃ (t : Addr) (nm : Str) (fst : Int), x = .ref t ∧ H1 t = some (.tup [.str nm, .int fst]) ∧ (fadeT n)[i]? = some (nm, (fst, 0) :: laterR n) := by
      intro i x hx
      match i, hx with
      | 0, hx =>
        cases hx
        refine ⟨t1, "seta", 1, rfl, f1, ?_⟩
        have e : letr "set" 0 = ("seta" : Str) := by decide +kernel
        rw [← e]
        rfl
      | 1, hx =>
        cases hx
        refine ⟨t2, "setb", (n : Int) + 1, rfl, f2, ?_⟩
        have e : letr "set" 1 = ("setb" : Str) := by decide +kernel
        rw [← e]
        rfl
      | i + 2, hx => cases hx
    refine for_tup (K := K) (xs := [.ref t1, .ref t2]) (fun i σ' H' => ∃ (o3 o4 o5 o6 : Option V) (kvs : List (L2.Key × V)), σ' = [some (.int (n : Int)), some (.ref pd), some (.int (2 * (n : Int) + 1)), o3, o4, o5, o6] ∧ H' pd = some (.dK kvs) ∧ TabV H' kvs ((fadeT n).take i) ∧ TupS H1 H' ∧ Same H H')
      ⟨none, none, none, none, [], rfl, h1d, .nil, TupS.refl _, eH⟩ (fun i σ' H' _ ⟨_, _, _, _, _, _, _, _, tu, _⟩ => SqT.of (tu _ _ f3)) ?_ ?_
    · rintro i x σ' H' hx ⟨o3, o4, o5, o6, kvs, rfl, hd, ht, tu, eH'⟩
      obtain ⟨t, nm, fst, rfl, f4, at_⟩ := ent i x hx
      refine ⟨t, _, rfl, SqT.of (tu _ _ f4), rfl, _, _, rfl, ?_⟩
      dsimp only [gName]
      refine ⟨_, _, rfl, ?_⟩
      dsimp only [gName]
      refine ⟨rfl, ?_⟩
      dsimp only [tSeq]
      refine ⟨_, rfl, by show 2 ≤ sizeLine; decide, fun p1 hp1 => ⟨by show 1 ≤ sizeLine; decide, fun pr hpr => ?_⟩⟩
      have nr : H' pr = none := (same_new hp1).free hpr
      have g0 : Same H' (upd (upd H' p1 (.tup [.int fst, .int 0])) pr (.lst [.ref p1])) := (same_new hp1).trans (same_new hpr)
      have g1 := (same_new (o := .lst [.ref p1]) hpr) _ _ (upd_same (H := H') (a := p1) (o := .tup [.int fst, .int 0]))
      have g2 := upd_same (H := upd H' p1 (.tup [.int fst, .int 0])) (a := pr) (o := .lst [.ref p1])
      generalize upd (upd H' p1 (.tup [.int fst, .int 0])) pr (.lst [.ref p1]) = H2 at g0 g1 g2
      dsimp only [gName]
      refine ⟨_, rfl, 1, 2 * (n : Int) + 1, rfl, ⟨by omega, by omega, by omega, by omega⟩, ?_⟩
      have en : (2 * (n : Int) + 1 - 1).toNat = 2 * n := by omega
      rw [en]
      have ll : (laterR n).length = 2 * n + 1 := by
        unfold laterR
        rw [List.length_map, List.length_range]
      refine for_range (n := 2 * n) (lo := 1) (fun k σ' Hk => ∃ (o6 : Option V) (ys : List V), σ' = [some (.int (n : Int)), some (.ref pd), some (.int (2 * (n : Int) + 1)), some (.str nm), some (.int fst), some (.ref pr), o6] ∧ Hk pr = some (.lst ys) ∧ Paired (PairV Hk) ys ((fst, 0) :: (laterR n).take k) ∧ Same H' Hk)
        ⟨o6, _, rfl, g2, .cons ⟨p1, rfl, g1⟩ .nil, g0⟩ ?_ ?_
      · rintro k σ' Hk hk ⟨o6, ys, rfl, hy, hP, sk⟩
        have ly : ys.length ≤ 12 := by
          have := Paired.length hP
          rw [List.length_cons, List.length_take] at this
          omega
        dsimp only [gName]
        refine ⟨_, rfl, .inl ⟨rfl, _, SqL.of hy⟩, ?_⟩
        walk_at "x"
        have goal : ∀ (R : VK), (∀ v H3, Same Hk H3 → PairV H3 v (fadeS (1 + (k : Int)) n, 0) → R v H3) → tTup (tCons (tIf (tOr (tTest (tOp rEq (tVar 6) (tVar 0))) (tTest (tOp rEq (tVar 6) (tOp (rI0 fun i j => V.int (i - j)) (tVar 2) (tC (V.int 1)))))) (tVar 2) (tOp (rI0 fun i j => V.int (i + j)) (tVar 6) (tC (V.int 1)))) (tCons (tC (V.int 0)) tNil))
            ([some (V.int (n : Int)), some (V.ref pd), some (V.int (2 * (n : Int) + 1)), some (V.str nm), some (V.int fst), some (V.ref pr), o6].set 6 (some (V.int (1 + (k : Int))))) Hk R := fun R r => by
          refine ev_pair (x := fadeS (1 + (k : Int)) n) (y := 0) (fun Q q => ?_) (fun _ _ => ev_c rfl) R r
          refine ⟨_, rfl, _, rfl, rfl, _, rfl, ?_⟩
          by_cases c : (1 + (k : Int)) = n
          · refine ifT (by simp [c]) ?_
            refine ifT rfl ?_
            refine ⟨_, rfl, q _ _ (Same.refl _) ?_⟩
            unfold fadeS
            rw [if_pos c]
          · refine ifF (by simp [c]) ?_
            refine ⟨_, rfl, _, rfl, _, _, rfl, rfl, rfl, _, rfl, ?_⟩
            have e : fadeS (1 + (k : Int)) n = if 2 * (n : Int) + 1 < 1 + (k : Int) + 1 then 2 * (n : Int) + 1 else 1 + (k : Int) + 1 := by
              unfold fadeS
              rw [if_neg c]
            by_cases d : (1 + (k : Int)) = 2 * (n : Int) + 1 - 1
            · refine ifT (by simp [d]) ?_
              refine ⟨_, rfl, q _ _ (Same.refl _) ?_⟩
              rw [e]
              congr 1
              split <;> omega
            · have d2 : ¬ (1 + (k : Int)) = 2 * (n : Int) := by omega
              refine ifF (by simp [d2]) ?_
              refine ⟨_, rfl, _, _, rfl, rfl, q _ _ (Same.refl _) ?_⟩
              rw [e, if_neg (by omega)]
        refine goal _ fun v H3 e3 hv => ?_
        refine ⟨pr, ys, v, rfl, rfl, e3 _ _ hy, sz_lt (by omega), ?_⟩
        refine ⟨_, ys ++ [v], rfl, upd_same, ?_, same_mut (sk.trans e3) nr⟩
        have tq : TupS Hk (upd H3 pr (.lst (ys ++ [v]))) := (tups_of e3).trans (tups_upd (e3 _ _ hy) (fun xs z => by cases z))
        have tq3 : TupS H3 (upd H3 pr (.lst (ys ++ [v]))) := tups_upd (e3 _ _ hy) (fun xs z => by cases z)
        rw [take_one (later_at (n := n) (k := k) (by omega)), ← List.cons_append]
        exact paired_app (Paired.mapP hP fun _ _ r => r.mono tq) (hv.mono tq3)
      · rintro σ' Hk ⟨o6, ys, rfl, hy, hP, sk⟩
        have ly : ys.length ≤ 12 := by
          have := Paired.length hP
          rw [List.length_cons, List.length_take] at this
          omega
        walk_at "x"
        refine ⟨_, rfl, _, rfl, by show 2 ≤ sizeLine; decide, fun p2 hp2 => ⟨by show 1 ≤ sizeLine; decide, fun p3 hp3 => ?_⟩⟩
        have s3 : Same Hk (upd (upd Hk p2 (.tup [.int (2 * (n : Int) + 1), .int 0])) p3 (.lst [.ref p2])) := (same_new hp2).trans (same_new hp3)
        have g5 := (same_new (o := .lst [.ref p2]) hp3) _ _ (upd_same (H := Hk) (a := p2) (o := .tup [.int (2 * (n : Int) + 1), .int 0]))
        have g6 := upd_same (H := upd Hk p2 (.tup [.int (2 * (n : Int) + 1), .int 0])) (a := p3) (o := .lst [.ref p2])
        generalize upd (upd Hk p2 (.tup [.int (2 * (n : Int) + 1), .int 0])) p3 (.lst [.ref p2]) = H5 at s3 g5 g6
        refine ⟨pr, p3, ys, _, rfl, rfl, s3 _ _ hy, g6, by show ys.length + 1 ≤ sizeLine; exact sz_le (by omega), fun p4 hp4 => ⟨p4, _, rfl, .inl ⟨SqL.of upd_same, fun l hl => ?_⟩⟩⟩
        have s6 : Same H5 (upd (upd H5 p4 (.lst (ys ++ [.ref p2]))) l (.tup (ys ++ [.ref p2]))) := (same_new hp4).trans (same_new hl)
        have row : RowV (upd (upd H5 p4 (.lst (ys ++ [.ref p2]))) l (.tup (ys ++ [.ref p2]))) (.ref l) ((fst, 0) :: laterR n) := by
          refine ⟨l, _, rfl, upd_same, ?_⟩
          have ea := later_all lo
          rw [ea, ← List.cons_append]
          exact paired_app (Paired.mapP hP fun _ _ r => r.mono (tups_of (s3.trans s6))) ⟨p2, rfl, s6 _ _ g5⟩
        have s7 : Same H' (upd (upd H5 p4 (.lst (ys ++ [.ref p2]))) l (.tup (ys ++ [.ref p2]))) := sk.trans (s3.trans s6)
        generalize upd (upd H5 p4 (.lst (ys ++ [.ref p2]))) l (.tup (ys ++ [.ref p2])) = H7 at s7 row
        obtain ⟨kvs', d1, d2⟩ := tab_put (s7 _ _ hd) (ht.mono (tups_of s7)) at_ row hT.2 (by
          have := (List.getElem?_eq_some_iff.mp hx).1
          have l2 : ([V.ref t1, V.ref t2] : List V).length = 2 := rfl
          omega)
        refine ⟨_, rfl, _, rfl, pd, _, rfl, d1, ?_⟩
        exact ⟨_, _, _, o6, kvs', rfl, upd_same, d2, (tu.trans (tups_of s7)).trans (tups_upd (s7 _ _ hd) (fun xs z => by cases z)), same_mut (eH'.trans s7) hpd⟩
    · rintro σ' H' ⟨o3, o4, o5, o6, kvs, rfl, hd, ht, tu, eH'⟩
      exact ⟨_, rfl, q _ _ eH' ⟨pd, kvs, rfl, hd, ht, hT.2, hT.1⟩⟩
end
end Tm

/-! The law's tables: queues. -/
namespace Tm
open PySem PySem.Spec PyProof.Rows L2
local macro_rules | `(tactic| walk_at "x") => `(tactic| dsimp only [tNext, tRet, tSeq, tCall, tCB, tC, tCons, tNil, tAsg, tDrop, sFld])
theorem q_words : ∀ n : Nat, n < 3 → 1 ≤ n → (["", "a", "b"] : List Str) ++ (List.replicate ((n : Int) - 1).toNat (["aa", "ab", "ba", "bb"] : List Str)).flatten = qwords n := by decide +kernel
theorem q_head : ∀ n : Nat, n < 3 → 1 ≤ n → ∀ w ∈ qwords n, (cutS w none (some 1) = "" ∧ idxS (qwords n) (cutS w none (some 1)) = 0) ∨ (cutS w none (some 1) = "a" ∧ idxS (qwords n) (cutS w none (some 1)) = 1) ∨ (cutS w none (some 1) = "b" ∧ idxS (qwords n) (cutS w none (some 1)) = 2) := by decide +kernel
abbrev headD : List (L2.Key × V) := [(Sum.inr ("" : Str), .int 0), (Sum.inr ("a" : Str), .int 1), (Sum.inr ("b" : Str), .int 2)]
theorem headD_is : mergeK [] headD = headD := mergeK_all (by decide +kernel)
theorem head_at {n : Nat} {w : Str} (h1 : n < 3) (h2 : 1 ≤ n) (hw : w ∈ qwords n) : valV headD (Sum.inr (cutS w none (some 1))) = some (V.int (idxS (qwords n) (cutS w none (some 1)) : Nat)) := by
  have a0 : ¬ ((Sum.inr ("" : Str) : L2.Key) = Sum.inr ("a" : Str)) := by decide +kernel
  have a1 : ¬ ((Sum.inr ("" : Str) : L2.Key) = Sum.inr ("b" : Str)) := by decide +kernel
  have a2 : ¬ ((Sum.inr ("a" : Str) : L2.Key) = Sum.inr ("b" : Str)) := by decide +kernel
  rcases q_head n h1 h2 w hw with ⟨e1, e2⟩ | ⟨e1, e2⟩ | ⟨e1, e2⟩
  · rw [e2, e1]
    exact valV_pos rfl
  · rw [e2, e1]
    exact (valV_neg a0).trans (valV_pos rfl)
  · rw [e2, e1]
    exact (valV_neg a1).trans ((valV_neg a2).trans (valV_pos rfl))
theorem flatten_map {α β : Type} (f : α → β) (l : List α) : ∀ k, (List.replicate k (l.map f)).flatten = ((List.replicate k l).flatten).map f
  | 0 => rfl
  | k + 1 => by rw [List.replicate_succ, List.flatten_cons, List.replicate_succ, List.flatten_cons, List.map_append, flatten_map f l k]
section
variable {P : Program} {w : World} {K : PySem.W.Frag} {mg : Str → Option Value} {base : Heap} {C : Addr}
abbrev s_ltqueue : Stmt := top 41
theorem sc_law_queue_table : FnScope ["_law_count", "_law_words", "_law_found", "_law_letter", "_law_row", "_law_word", "_law_state"] ["_law_count"] (defScope s_ltqueue) := ⟨rfl, rfl, rfl, by decide +kernel, rfl, by decide +kernel, by decide +kernel⟩
theorem ok_ltqueue (B : Bt mg) (D : Df K mg "_law_queue_table" s_ltqueue ["_law_count"]) : Ok P w K mg base "_law_queue_table" 2 ["_law_count"] (sp_tab 1 2 queueT) := by
  refine D.ok sc_law_queue_table (fun vs H Q E h => ?_) (fun f cdv A outer s H vs Q E hr h => ?_)
  · obtain ⟨n, rfl, _⟩ := h
    rfl
  · obtain ⟨n, rfl, lo, hi, q⟩ := h
    have hT := queue_ok n (by omega) lo
    have hcut := q_cut n (by omega) lo
    have hql := q_len n (by omega)
    have hqw := q_words n (by omega) lo
    have hu := hu_of hr
    refine ⟨_, pss_cons (ps_set (i := 1) sc_law_queue_table.nd rfl (.inr rfl) (pe_op op_cat (pe_lst (pa_cons (pe_str) (pa_cons (pe_str) (pa_cons (pe_str) (pa_nil))))) (pe_op op_rep (pe_lst (pa_cons (pe_str) (pa_cons (pe_str) (pa_cons (pe_str) (pa_cons (pe_str) (pa_nil)))))) (pe_op op_sub (pv 0) (pe_int)))))
      (pss_cons (ps_set (i := 2) sc_law_queue_table.nd rfl (.inl rfl) (pe_dnewK))
      (pss_cons (ps_for PassesOwn.never rfl (pi_str (pe_str)) (pg_name (i := 3) sc_law_queue_table.nd rfl (.inr rfl))
        (pss_cons (ps_setLc (i := 4) (own := [("_law_word", 5)]) (g := gName 5) (tt := tYes) rfl sc_law_queue_table.nd rfl rfl (sw_true rfl rfl rfl (by decide +kernel)) (pi_list (pv 1)) (blkOk_by (own := [("_law_word", 5)]) (N := ["_law_count", "_law_words", "_law_found", "_law_letter", "_law_row", "_law_word", "_law_state"]) (sc := defScope s_ltqueue) (by decide +kernel)) (fun _ _ _ _ _ => pg_name (i := 5) sc_law_queue_table.nd rfl (.inl rfl)) (fun _ _ _ _ _ => pts_nil) (fun _ _ _ _ _ => pe_ifExp (pt_cmpR op_lt (pe_callB call_len_str (by rfl) B.len (by decide +kernel) (pa_cons (pv 5) (pa_nil))) (pv 0) (nomark _)) (pe_bmK (K := K) PySem.F.plainAttrs_list PySem.F.slot_list_index PySem.F.type_list_index (indexFK (K := K)) (pv 1) (pa_cons (pe_op op_add_str (pv 5) (pv 3)) (pa_nil))) (pe_bmK (K := K) PySem.F.plainAttrs_list PySem.F.slot_list_index PySem.F.type_list_index (indexFK (K := K)) (pv 1) (pa_cons (pv 5) (pa_nil)))))
      (pss_one (ps_asg (pe_callTy (tupleK (K := K)) (by rfl) B.tuple (by decide +kernel) (pa_cons (pe_lc (own := [("_law_state", 6)]) (g := gName 6) (tt := tYes) rfl sc_law_queue_table.nd (pi_list (pv 4)) (blkOk_by (own := [("_law_state", 6)]) (N := ["_law_count", "_law_words", "_law_found", "_law_letter", "_law_row", "_law_word", "_law_state"]) (sc := defScope s_ltqueue) (by decide +kernel)) (fun _ _ _ _ _ => pg_name (i := 6) sc_law_queue_table.nd rfl (.inl rfl)) (fun _ _ _ _ _ => pts_nil) (fun _ _ _ _ _ => pe_tup (pa_cons (pv 6) (pa_cons (pe_int) (pa_nil))))) (pa_nil))) (pg_sub (pv 2) (pe_op op_add_str (pe_str) (pv 3)) (set_dict hu))))))
      (pss_cons (ps_setLc (i := 4) (own := [("_law_word", 5)]) (g := gName 5) (tt := tYes) rfl sc_law_queue_table.nd rfl rfl (sw_true rfl rfl rfl (by decide +kernel)) (pi_list (pv 1)) (blkOk_by (own := [("_law_word", 5)]) (N := ["_law_count", "_law_words", "_law_found", "_law_letter", "_law_row", "_law_word", "_law_state"]) (sc := defScope s_ltqueue) (by decide +kernel)) (fun _ _ _ _ _ => pg_name (i := 5) sc_law_queue_table.nd rfl (.inl rfl)) (fun _ _ _ _ _ => pts_nil) (fun _ _ _ _ _ => pe_tup (pa_cons (pe_bmK (K := K) PySem.F.plainAttrs_list PySem.F.slot_list_index PySem.F.type_list_index (indexFK (K := K)) (pv 1) (pa_cons (pe_slice sl_str (pv 5) (po_some (pe_int)) (po_none)) (pa_nil))) (pa_cons (pe_dget hu (pe_disp (pps_cons (pe_str) (pe_int) (pps_cons (pe_str) (pe_int) (pps_cons (pe_str) (pe_int) (pps_nil)))) (by rfl) (by rfl) (fun z => by cases z) (by decide)) (pe_slice sl_str (pv 5) (po_none) (po_some (pe_int))) (fun _ _ => rfl)) (pa_nil)))))
      (pss_cons (ps_asg (pe_callTy (tupleK (K := K)) (by rfl) B.tuple (by decide +kernel) (pa_cons (pv 4) (pa_nil))) (pg_sub (pv 2) (pe_str) (set_dict hu)))
      (pss_one (ps_ret (pv 2))))))), ?_⟩
    dsimp only [tSeq]
    have hz : ([V.str "", V.str "a", V.str "b"] : List V) ++ (List.replicate ((n : Int) - 1).toNat ([V.str "aa", V.str "ab", V.str "ba", V.str "bb"] : List V)).flatten = (qwords n).map V.str := by
      rw [← hqw, List.map_append, ← flatten_map]
      rfl
    have hzl : 3 + (List.replicate ((n : Int) - 1).toNat ([V.str "aa", V.str "ab", V.str "ba", V.str "bb"] : List V)).flatten.length = (qwords n).length := by
      have e := congrArg List.length hz
      rw [List.length_append, List.length_map] at e
      exact e
    refine ⟨by show 3 ≤ sizeLine; decide, fun a1 h1 => ⟨by show 4 ≤ sizeLine; decide, fun a2 h2 => ⟨_, rfl, _, _, rfl, rfl, a2, (n : Int) - 1, _, rfl, rfl, upd_same, by omega, by omega, ?_, fun a3 h3 => ⟨a1, a3, _, _, rfl, rfl, (same_new h3) _ _ ((same_new h2) _ _ upd_same), upd_same, ?_, fun pw hpw => ?_⟩⟩⟩⟩
    · refine sz_le ?_
      show 4 * ((n : Int) - 1).toNat ≤ 100000
      omega
    · refine sz_le ?_
      show 3 + _ ≤ 100000
      omega
    rw [hz]
    have e0 := (same_new h1).trans ((same_new h2).trans ((same_new h3).trans (same_new (o := .lst ((qwords n).map V.str)) hpw)))
    generalize hHw : upd _ pw (HO.lst ((qwords n).map V.str)) = Hw at e0
    have hw0 : Hw pw = some (.lst ((qwords n).map V.str)) := by rw [← hHw, upd_same]
    clear hHw
    dsimp only [gName, tSeq]
    intro pd hpd
    have e1 : Same H (upd Hw pd (.dK [])) := e0.trans (same_new hpd)
    have nH : H pd = none := e0.free hpd
    have hw1 : upd Hw pd (.dK []) pw = some (.lst ((qwords n).map V.str)) := (same_new hpd) _ _ hw0
    have hd1 : upd Hw pd (.dK []) pd = some (.dK []) := upd_same
    have npw : pw ≠ pd := fun z => by
      rw [z, hpd] at hw0
      cases hw0
    generalize upd Hw pd (.dK []) = H1 at e1 hw1 hd1
    dsimp only [gName, tSeq]
    refine ⟨"ab", rfl, ?_⟩
    refine for_it (walk_str (z := "ab")) (fun i σ' H' => ∃ (o3 o4 o5 o6 : Option V) (kvs : List (L2.Key × V)), σ' = [some (.int (n : Int)), some (.ref pw), some (.ref pd), o3, o4, o5, o6] ∧ H' pd = some (.dK kvs) ∧ TabV H' kvs ((queueT n).take i) ∧ H' pw = some (.lst ((qwords n).map V.str)) ∧ Same H H')
      ⟨none, none, none, none, [], rfl, hd1, .nil, hw1, e1⟩ (fun _ _ _ _ _ => trivial) ?_ ?_
    · rintro i x σ' H2 H' hi ⟨o3, o4, o5, o6, kvs, rfl, hd, ht, hw', eH⟩ ⟨eH2, c, hc, rfl⟩
      subst eH2
      obtain ⟨at_, lm, l1⟩ : (queueT n)[i]? = some (("join" : Str) ++ (⟨#[c]⟩ : Str), joinR n ⟨#[c]⟩) ∧ (⟨#[c]⟩ : Str) ∈ (["a", "b"] : List Str) ∧ i ≤ 1 := by
        match i, hc with
        | 0, hc =>
          have e : c = 97 := (Option.some.inj (show some 97 = some c from hc)).symm
          subst e
          exact ⟨by
            have e : ("join" : Str) ++ (⟨#[97]⟩ : Str) = "joina" := by decide +kernel
            rw [e]
            rfl, by decide +kernel, by omega⟩
        | 1, hc =>
          have e : c = 98 := (Option.some.inj (show some 98 = some c from hc)).symm
          subst e
          exact ⟨by
            have e : ("join" : Str) ++ (⟨#[98]⟩ : Str) = "joinb" := by decide +kernel
            rw [e]
            rfl, by decide +kernel, by omega⟩
        | i + 2, hc =>
          have e2 : ("ab" : Str).cps.size = 2 := by decide +kernel
          omega
      generalize hl : (⟨#[c]⟩ : Str) = l at at_ lm
      have ll : l.length = 1 := by rw [← hl]; rfl
      have hlong := q_long n (by omega) lo l lm
      have hsh : ∀ w ∈ qwords n, w.length ≤ 2 := fun w hw => q_short w (List.mem_filter.mp hw).1
      dsimp only [gName, tSeq, tAsg]
      refine lc_runL (K := K) (xs := (qwords n).map V.str) (ev_is rfl ⟨pw, rfl, SqL.of hw'⟩) (qwords n) (List.length_map ..) (fun _ => true) (fun w v _ => v = V.int (idxS (qwords n) (longS n l w) : Nat)) (by omega) (by intro _; rfl) (fun _ _ _ _ _ h => h)
        (fun j w v H3 hj hx e3 => ⟨evt_yes, fun _ H4 e4 Q q => ?_⟩) (fun p H3 ys hp e3 hls hP => ?_)
      · rw [List.getElem?_map, hj] at hx
        have ex : V.str w = v := Option.some.inj hx
        subst ex
        have hwm := List.mem_of_getElem? hj
        have hw2 := hsh w hwm
        have hpw4 := (e3.trans e4) _ _ hw'
        refine ⟨_, rfl, w, rfl, sz_le (by omega), _, rfl, _, _, rfl, rfl, _, rfl, ?_⟩
        have hlw := hlong w hwm
        by_cases g : w.length < n
        · refine ifT (decide_eq_true (by omega)) ?_
          rw [longS, if_pos g] at q hlw
          exact ev_index (ws := qwords n) rfl hpw4 hlw (fun Q q => ⟨_, rfl, _, rfl, _, _, rfl, rfl, sz_le (by omega), q _ _ (Same.refl _) rfl⟩) Q q
        · refine ifF (decide_eq_false (by omega)) ?_
          rw [longS, if_neg g] at q hlw
          exact ev_index (ws := qwords n) rfl hpw4 hlw (ev_is rfl rfl) Q q
      · rw [filter_all] at hP
        have ey : ys = ((qwords n).map fun w => (idxS (qwords n) (longS n l w) : Nat)).map fun k : Nat => V.int (k : Int) := by
          have : ∀ {ys : List V} {ws : List Str}, Paired (fun v w => v = V.int (idxS (qwords n) (longS n l w) : Nat)) ys ws → ys = (ws.map fun w => (idxS (qwords n) (longS n l w) : Nat)).map fun k : Nat => V.int (k : Int) := by
            intro ys ws hh
            induction hh with
            | nil => rfl
            | cons r _ ih =>
              rw [r, ih]
              rfl
          exact this hP
        rw [ey] at hls
        walk_at "x"
        refine lc_runL (K := K) (xs := ((qwords n).map fun w => (idxS (qwords n) (longS n l w) : Nat)).map fun k : Nat => V.int (k : Int)) (ev_is rfl ⟨p, rfl, SqL.of hls⟩) (qwords n) (by simp) (fun _ => true) (fun w v H => PairV H v ((idxS (qwords n) (longS n l w) : Nat), (0 : Int))) (by omega) (by intro _; rfl) (fun _ _ _ _ e h => h.mono e)
          (fun j w v H4 hj hx e4 => ⟨evt_yes, fun _ H5 e5 => ?_⟩) (fun p2 H4 ys2 hp2 e4 hl2 hP2 => ?_)
        · rw [List.getElem?_map, List.getElem?_map, hj] at hx
          have ex : V.int (idxS (qwords n) (longS n l w) : Nat) = v := Option.some.inj hx
          subst ex
          exact ev_pair (ev_is rfl rfl) fun _ _ => ev_c rfl
        · rw [filter_all] at hP2
          refine ⟨p2, ys2, rfl, .inl ⟨SqL.of hl2, fun l3 hl3 => ?_⟩⟩
          have s5 : Same H' (upd H4 l3 (.tup ys2)) := e3.trans (e4.trans (same_new hl3))
          have row : RowV (upd H4 l3 (.tup ys2)) (.ref l3) (joinR n l) := ⟨l3, ys2, rfl, upd_same, paired_mapR _ (Paired.mapP hP2 fun _ _ r => r.mono (tups_of (same_new hl3)))⟩
          generalize upd H4 l3 (.tup ys2) = H5 at s5 row
          obtain ⟨kvs', g1, g2⟩ := tab_put (s5 _ _ hd) (ht.mono (tups_of s5)) at_ row hT.2 (by omega)
          refine ⟨_, rfl, _, rfl, _, _, rfl, rfl, sz_le (by
            have e : ("join" : Str).length = 4 := by decide +kernel
            omega), pd, _, rfl, g1, ?_⟩
          refine ⟨_, _, o5, o6, kvs', rfl, upd_same, g2, ?_, same_mut (eH.trans s5) nH⟩
          rw [upd_ne npw]
          exact s5 _ _ hw'
    · rintro σ' H' ⟨o3, o4, o5, o6, kvs, rfl, hd, ht, hw', eH⟩
      dsimp only [tSeq, tAsg]
      refine lc_runL (K := K) (xs := (qwords n).map V.str) (ev_is rfl ⟨pw, rfl, SqL.of hw'⟩) (qwords n) (List.length_map ..) (fun _ => true) (fun w v H => PairV H v (((idxS (qwords n) (cutS w (some 1) none) : Nat) : Int), ((idxS (qwords n) (cutS w none (some 1)) : Nat) : Int))) (by omega) (by intro _; rfl) (fun _ _ _ _ e h => h.mono e)
        (fun j w v H3 hj hx e3 => ⟨evt_yes, fun _ H4 e4 => ?_⟩) (fun p H3 ys hp e3 hls hP => ?_)
      · rw [List.getElem?_map, hj] at hx
        have ex : V.str w = v := Option.some.inj hx
        subst ex
        have hwm := List.mem_of_getElem? hj
        obtain ⟨c1, c2, c3⟩ := hcut w hwm
        refine ev_pair ?_ fun H5 e5 Q q => ?_
        · exact ev_index (ws := qwords n) rfl ((e3.trans e4) _ _ hw') c1 (fun Q q => ⟨_, rfl, _, rfl, w, rfl, sz_le (by omega), q _ _ (Same.refl _) rfl⟩)
        · intro d hd'
          refine ⟨upd_same, headD, rfl, by show 3 ≤ 15; decide, ?_⟩
          rw [headD_is]
          have hg := DGet.k (k := (Sum.inr (cutS w none (some 1)) : L2.Key)) (upd_same (H := upd H5 d (.dK [])) (a := d) (o := .dK headD))
          rw [head_at (by omega) lo hwm] at hg
          exact ⟨_, rfl, _, rfl, w, rfl, sz_le (by omega), d, _, rfl, hg, q _ _ (same_mut (same_new hd') hd') rfl⟩
      · rw [filter_all] at hP
        dsimp only [gName]
        walk_at "x"
        refine ⟨_, rfl, p, ys, rfl, .inl ⟨SqL.of hls, fun l3 hl3 => ?_⟩⟩
        have s5 : Same H' (upd H3 l3 (.tup ys)) := e3.trans (same_new hl3)
        have row : RowV (upd H3 l3 (.tup ys)) (.ref l3) (leaveR n) := ⟨l3, ys, rfl, upd_same, paired_mapR _ (Paired.mapP hP fun _ _ r => r.mono (tups_of (same_new hl3)))⟩
        generalize upd H3 l3 (.tup ys) = H5 at s5 row
        have ht2 : TabV H' kvs ((queueT n).take 2) := ht
        obtain ⟨kvs', g1, g2⟩ := tab_put (x := "leave") (s5 _ _ hd) (ht2.mono (tups_of s5)) rfl row hT.2 (by omega)
        refine ⟨_, rfl, pd, _, rfl, g1, _, rfl, ?_⟩
        exact q _ _ (same_mut (eH.trans s5) nH) ⟨pd, kvs', rfl, upd_same, g2, hT.2, hT.1⟩
end
end Tm

/-! Done and gone. -/
namespace Tm
open PySem PySem.Spec PyProof.Rows L2
local macro_rules | `(tactic| walk_at "x") => `(tactic| dsimp only [tNext, tRet, tSeq, tCall, tCB, tC, tCons, tNil, tAsg, tDrop, sFld])
/-- one operation more: the state, what was told -/
def stepG (t : Tab) (st : Nat × List Int) (x : Str) : Nat × List Int := match t.find? fun e => decide (e.1 = x) with
  | some e => match e.2[st.1]? with
    | some p => (p.1.toNat, st.2 ++ [p.2])
    | none => st
  | none => st
def goneN (t : Tab) (s : Nat) (ns : List Str) : Nat × List Int := ns.foldl (stepG t) (s, [])
theorem gone_next {t : Tab} {s i : Nat} {ns : List Str} {x : Str} (h : ns[i]? = some x) : goneN t s (ns.take (i + 1)) = stepG t (goneN t s (ns.take i)) x := by
  unfold goneN
  rw [take_one h, List.foldl_append]
  rfl
theorem step_at {t : Tab} (ok : okTab t = true) {x : Str} (hx : x ∈ namesT t) {s : Nat} (hs : s < sizeT t) (told : List Int) :
    ∃ (r : Row) (p : Int × Int), (x, r) ∈ t ∧ r[s]? = some p ∧ stepG t (s, told) x = (p.1.toNat, told ++ [p.2]) ∧ 0 ≤ p.1 ∧ p.1.toNat < sizeT t := by
  obtain ⟨e0, h0, ee⟩ := List.mem_map.mp hx
  cases hf : t.find? fun e => decide (e.1 = x) with
  | none => exact absurd (decide_eq_true ee) (by simpa using List.find?_eq_none.mp hf e0 h0)
  | some e =>
    have hm := List.mem_of_find?_eq_some hf
    have e1 : e.1 = x := of_decide_eq_true (List.find?_some (p := fun e : Str × Row => decide (e.1 = x)) hf)
    obtain ⟨p, hp, p0, p1⟩ := next_ok ok hm hs
    refine ⟨e.2, p, by rw [← e1]; exact hm, hp, ?_, p0, by omega⟩
    unfold stepG
    rw [hf]
    dsimp only
    rw [hp]
section
variable {P : Program} {w : World} {K : PySem.W.Frag} {mg : Str → Option Value} {base : Heap} {C : Addr}
/-- [state, told] -/
def EndV (H : Hp) (v : V) (g : Nat × List Int) : Prop := ∃ p l, v = .ref p ∧ H p = some (.lst [.int (g.1 : Int), .ref l]) ∧ H l = some (.lst (g.2.map V.int))
abbrev s_done : Stmt := top 49
theorem sc_law_done : FnScope ["_law_kind", "_law_state", "_law_names", "_law_told", "_law_name", "_law_answer"] ["_law_kind", "_law_state", "_law_names"] (defScope s_done) := ⟨rfl, rfl, rfl, by decide +kernel, rfl, by decide +kernel, by decide +kernel⟩
def sp_done (C : Addr) : Sp := fun vs H Q _ => ∃ (v : V) (t : Tab) (s : Nat) (a : Addr) (ns : List Str), vs = [v, .int (s : Int), .ref a] ∧ KindV C H v t ∧ s < sizeT t ∧ H a = some (.lst (ns.map V.str)) ∧ (∀ x ∈ ns, x ∈ namesT t) ∧ ns.length ≤ 1000 ∧ ∀ u H', Same H H' → EndV H' u (goneN t s ns) → Q u H'
theorem KindV.keep {H H' : Hp} {v : V} {t : Tab} (h : KindV C H v t) (e : Same H H') : KindV C H' v t := by
  obtain ⟨a, dx, d, kvs, e1, e2, e3, e4, e5⟩ := h
  exact ⟨a, dx, d, kvs, e1, e _ _ e2, e _ _ e3, e4.mono (tups_of e), e5⟩
theorem ok_done (T : Kc K C) (OM_after : OkM P w K mg base C "after" 3 ["self", "state", "name"] (sp_after C)) (D : Df K mg "_law_done" s_done ["_law_kind", "_law_state", "_law_names"]) : Ok P w K mg base "_law_done" 4 ["_law_kind", "_law_state", "_law_names"] (sp_done C) := by
  refine D.ok sc_law_done (fun vs H Q E h => ?_) (fun f cdv A outer s H vs Q E hr h => ?_)
  · obtain ⟨v, t, s, a, ns, rfl, _⟩ := h
    rfl
  · obtain ⟨v, t, s0, a, ns, rfl, hk, hs0, ha, hns, few, q⟩ := h
    have ok : okTab t = true := by
      obtain ⟨_, _, _, _, _, _, _, _, ok, _⟩ := hk
      exact ok
    obtain ⟨ak, dxk, dk, kvk, rfl, hak, _⟩ := id hk
    refine ⟨_, pss_cons (ps_set (i := 3) sc_law_done.nd rfl (.inl rfl) (pe_lst (pa_nil)))
      (pss_cons (ps_for PassesOwn.never rfl (pi_list (pv 2)) (pg_name (i := 4) sc_law_done.nd rfl (.inl rfl))
        (pss_cons (ps_asg (OM_after.call hr T.cl (he := pv 0) (ha := pa_cons (pv 1) (pa_cons (pv 4) (pa_nil)))) (pg_tup (by rfl) (pgs_cons (pg_name (i := 1) sc_law_done.nd rfl (.inl rfl)) (pgs_cons (pg_name (i := 5) sc_law_done.nd rfl (.inl rfl)) (pgs_nil)))))
      (pss_one (ps_expr (pe_bm PySem.F.plainAttrs_list PySem.F.slot_list_append PySem.F.type_list_append mt_append (pv 3) (pa_cons (pv 5) (pa_nil)))))))
      (pss_one (ps_ret (pe_lst (pa_cons (pv 1) (pa_cons (pv 3) (pa_nil))))))), ?_⟩
    refine ⟨by show 0 ≤ sizeLine; decide, fun pt hpt => ?_⟩
    have e0 : Same H (upd H pt (.lst [])) := same_new hpt
    have h0 : upd H pt (.lst []) pt = some (.lst []) := upd_same
    generalize upd H pt (.lst []) = H0 at e0 h0
    dsimp only [gName, tSeq]
    refine ⟨_, rfl, a, rfl, ⟨_, SqL.of (e0 _ _ ha)⟩, ?_⟩
    refine for_list (K := K) (xs := ns.map V.str) (fun i σ' H' => ∃ (o4 o5 : Option V), σ' = [some (.ref ak), some (.int ((goneN t s0 (ns.take i)).1 : Int)), some (.ref a), some (.ref pt), o4, o5] ∧ H' pt = some (.lst ((goneN t s0 (ns.take i)).2.map V.int)) ∧ Same H H' ∧ (goneN t s0 (ns.take i)).1 < sizeT t ∧ (goneN t s0 (ns.take i)).2.length ≤ i)
      ⟨none, none, rfl, h0, e0, hs0, Nat.le_refl _⟩ (fun i σ' H' _ ⟨_, _, _, _, e, _⟩ => SqL.of (e _ _ ha)) ?_ ?_
    · rintro i x σ' H' hx ⟨o4, o5, rfl, hp, e1, lt, lfew⟩
      obtain ⟨nm, hn, rfl⟩ : ∃ nm, ns[i]? = some nm ∧ V.str nm = x := by
        rw [List.getElem?_map] at hx
        exact Option.map_eq_some_iff.mp hx
      have hi : i < ns.length := (List.getElem?_eq_some_iff.mp hn).1
      rw [gone_next hn]
      generalize goneN t s0 (ns.take i) = g at hp lt lfew
      obtain ⟨sg, tg⟩ := g
      obtain ⟨r, p, hm, hrp, es, p0, p1⟩ := step_at ok (hns nm (List.mem_of_getElem? hn)) lt tg
      rw [es]
      dsimp only [gName, tSeq]
      refine ⟨_, rfl, ak, dxk, _, rfl, e1 _ _ hak, kf_no _ _, _, rfl, _, rfl, _, t, sg, nm, r, p, rfl, hk.keep e1, hm, hrp, fun u hu => ?_⟩
      obtain ⟨pa, rfl, hpa⟩ := hu
      refine ⟨pa, _, rfl, SqT.of hpa, rfl, _, _, rfl, ?_⟩
      dsimp only [gName]
      refine ⟨_, _, rfl, ?_⟩
      dsimp only [gName]
      refine ⟨rfl, ?_⟩
      refine ⟨_, rfl, .inl ⟨rfl, _, SqL.of hp⟩, _, rfl, pt, _, _, rfl, rfl, hp, by rw [List.length_map]; exact sz_lt (show tg.length < 100000 from by have h9 : tg.length ≤ i := lfew; omega), ?_⟩
      refine ⟨_, _, by rw [← Int.toNat_of_nonneg p0]; rfl, ?_, same_mut e1 hpt, p1, by rw [List.length_append]; exact Nat.add_le_add_right lfew 1⟩
      rw [upd_same, List.map_append]
      rfl
    · rintro σ' H' ⟨o4, o5, rfl, hp, e1, lt, lfew⟩
      have el : ns.take (ns.map V.str).length = ns := by rw [List.length_map, List.take_length]
      rw [el] at hp lt lfew
      rw [el]
      refine ⟨_, rfl, _, rfl, by show 2 ≤ sizeLine; decide, fun l hl => ?_⟩
      exact q _ _ (e1.trans (same_new hl)) ⟨l, pt, rfl, upd_same, (same_new hl) _ _ hp⟩
abbrev s_gone : Stmt := top 50
theorem sc_law_gone : FnScope ["_law_table", "_law_state", "_law_names", "_law_told", "_law_name", "_law_answer"] ["_law_table", "_law_state", "_law_names"] (defScope s_gone) := ⟨rfl, rfl, rfl, by decide +kernel, rfl, by decide +kernel, by decide +kernel⟩
def sp_gone : Sp := fun vs H Q _ => ∃ (v : V) (t : Tab) (s : Nat) (a : Addr) (ns : List Str), vs = [v, .int (s : Int), .ref a] ∧ DictV H v t ∧ s < sizeT t ∧ H a = some (.lst (ns.map V.str)) ∧ (∀ x ∈ ns, x ∈ namesT t) ∧ ns.length ≤ 1000 ∧ ∀ u H', Same H H' → EndV H' u (goneN t s ns) → Q u H'
theorem ok_gone (D : Df K mg "_law_gone" s_gone ["_law_table", "_law_state", "_law_names"]) : Ok P w K mg base "_law_gone" 2 ["_law_table", "_law_state", "_law_names"] sp_gone := by
  refine D.ok sc_law_gone (fun vs H Q E h => ?_) (fun f cdv A outer s H vs Q E hr h => ?_)
  · obtain ⟨v, t, s, a, ns, rfl, _⟩ := h
    rfl
  · obtain ⟨v, t, s0, a, ns, rfl, ⟨d, kvs, rfl, hd, ht, nd, ok⟩, hs0, ha, hns, few, q⟩ := h
    have hu := hu_of hr
    refine ⟨_, pss_cons (ps_set (i := 3) sc_law_gone.nd rfl (.inl rfl) (pe_lst (pa_nil)))
      (pss_cons (ps_for PassesOwn.never rfl (pi_list (pv 2)) (pg_name (i := 4) sc_law_gone.nd rfl (.inl rfl))
        (pss_cons (ps_asg (pe_ix (ixTK (K := K)) (pe_dget hu (pv 0) (pv 4) (fun _ _ => rfl)) (pv 1) (fun _ _ => rfl)) (pg_tup (by rfl) (pgs_cons (pg_name (i := 1) sc_law_gone.nd rfl (.inl rfl)) (pgs_cons (pg_name (i := 5) sc_law_gone.nd rfl (.inl rfl)) (pgs_nil)))))
      (pss_one (ps_expr (pe_bm PySem.F.plainAttrs_list PySem.F.slot_list_append PySem.F.type_list_append mt_append (pv 3) (pa_cons (pv 5) (pa_nil)))))))
      (pss_one (ps_ret (pe_lst (pa_cons (pv 1) (pa_cons (pv 3) (pa_nil))))))), ?_⟩
    refine ⟨by show 0 ≤ sizeLine; decide, fun pt hpt => ?_⟩
    have e0 : Same H (upd H pt (.lst [])) := same_new hpt
    have h0 : upd H pt (.lst []) pt = some (.lst []) := upd_same
    generalize upd H pt (.lst []) = H0 at e0 h0
    dsimp only [gName, tSeq]
    refine ⟨_, rfl, a, rfl, ⟨_, SqL.of (e0 _ _ ha)⟩, ?_⟩
    refine for_list (K := K) (xs := ns.map V.str) (fun i σ' H' => ∃ (o4 o5 : Option V), σ' = [some (.ref d), some (.int ((goneN t s0 (ns.take i)).1 : Int)), some (.ref a), some (.ref pt), o4, o5] ∧ H' pt = some (.lst ((goneN t s0 (ns.take i)).2.map V.int)) ∧ Same H H' ∧ (goneN t s0 (ns.take i)).1 < sizeT t ∧ (goneN t s0 (ns.take i)).2.length ≤ i)
      ⟨none, none, rfl, h0, e0, hs0, Nat.le_refl _⟩ (fun i σ' H' _ ⟨_, _, _, _, e, _⟩ => SqL.of (e _ _ ha)) ?_ ?_
    · rintro i x σ' H' hx ⟨o4, o5, rfl, hp, e1, lt, lfew⟩
      obtain ⟨nm, hn, rfl⟩ : ∃ nm, ns[i]? = some nm ∧ V.str nm = x := by
        rw [List.getElem?_map] at hx
        exact Option.map_eq_some_iff.mp hx
      have hi : i < ns.length := (List.getElem?_eq_some_iff.mp hn).1
      rw [gone_next hn]
      generalize goneN t s0 (ns.take i) = g at hp lt lfew
      obtain ⟨sg, tg⟩ := g
      obtain ⟨r, p, hm, hrp, es, p0, p1⟩ := step_at ok (hns nm (List.mem_of_getElem? hn)) lt tg
      rw [es]
      obtain ⟨rv, hv, hrow⟩ := tab_look (ht.mono (tups_of e1)) nd hm
      have hg := DGet.k (k := Sum.inr nm) (e1 _ _ hd)
      rw [hv] at hg
      obtain ⟨b, rs, rfl, hb, hrs⟩ := id hrow
      obtain ⟨u, hu2, hpu⟩ := paired_ix hrs hrp
      obtain ⟨pa, rfl, hpa⟩ := hpu
      dsimp only [gName, tSeq]
      refine ⟨_, rfl, _, rfl, d, _, rfl, hg, _, rfl, b, rs, _, .ref pa, rfl, rfl, SqT.of hb, atI_nat hu2, ?_⟩
      refine ⟨pa, _, rfl, SqT.of hpa, rfl, _, _, rfl, ?_⟩
      dsimp only [gName]
      refine ⟨_, _, rfl, ?_⟩
      dsimp only [gName]
      refine ⟨rfl, ?_⟩
      refine ⟨_, rfl, .inl ⟨rfl, _, SqL.of hp⟩, _, rfl, pt, _, _, rfl, rfl, hp, by rw [List.length_map]; exact sz_lt (show tg.length < 100000 from by have h9 : tg.length ≤ i := lfew; omega), ?_⟩
      refine ⟨_, _, by rw [← Int.toNat_of_nonneg p0]; rfl, ?_, same_mut e1 hpt, p1, by rw [List.length_append]; exact Nat.add_le_add_right lfew 1⟩
      rw [upd_same, List.map_append]
      rfl
    · rintro σ' H' ⟨o4, o5, rfl, hp, e1, lt, lfew⟩
      have el : ns.take (ns.map V.str).length = ns := by rw [List.length_map, List.take_length]
      rw [el] at hp lt lfew
      rw [el]
      refine ⟨_, rfl, _, rfl, by show 2 ≤ sizeLine; decide, fun l hl => ?_⟩
      exact q _ _ (e1.trans (same_new hl)) ⟨l, pt, rfl, upd_same, (same_new hl) _ _ hp⟩
/-! ### a choice of a list -/
def sp_pick : Sp := fun vs H Q _ => ∃ (l a : Addr) (xs : List V), vs = [.ref l, .ref a] ∧ VatV H l ∧ H a = some (.lst xs) ∧ a ≠ l ∧ 0 < xs.length ∧ xs.length ≤ 1000 ∧ ∀ v H', v ∈ xs → KL l H H' → Q v H'
theorem ok_pick (B : Bt mg) (O_law_draw : Ok P w K mg base "_law_draw" 1 ["_law_vat_here", "_law_total"] sp_draw) (D : Df K mg "_law_choice" s_choice ["_law_vat_here", "_law_items"]) : Ok P w K mg base "_law_choice" 2 ["_law_vat_here", "_law_items"] sp_pick := by
  refine D.ok sc_law_choice (fun vs H Q E h => ?_) (fun f cdv A outer s H vs Q E hr h => ?_)
  · obtain ⟨l, a, xs, rfl, _⟩ := h
    rfl
  · obtain ⟨l, a, xs, rfl, hv, ha, nal, h0, h1, q⟩ := h
    refine ⟨_, pss_one (ps_ret (pe_ix (ixLK (K := K)) (pv 1) (O_law_draw.call hr (ha := pa_cons (pv 0) (pa_cons (pe_callB (lenK (K := K)) (by rfl) B.len (by decide +kernel) (pa_cons (pv 1) (pa_nil))) (pa_nil)))) (fun _ _ => rfl))), ?_⟩
    refine ⟨_, rfl, _, rfl, _, rfl, a, xs, rfl, .inl (SqL.of ha), l, _, rfl, hv, by omega, by omega, fun d H' d0 d1 k => ?_⟩
    obtain ⟨j, rfl⟩ := Int.eq_ofNat_of_zero_le d0
    have hj : j < xs.length := by omega
    exact ⟨a, xs, _, xs[j], rfl, rfl, SqL.of (k.1 _ _ ha nal), atI_nat (List.getElem?_eq_getElem hj), q _ H' (List.getElem_mem hj) k⟩
end
end Tm

/-! The 41 tables: in order, and what is reached in them. -/
namespace Tm
open PySem PySem.Spec PyProof.Rows L2
def allT : List Tab := flagT :: (((List.range 6).map fun i => [cellT (i + 1), slotT (i + 1)]).flatten ++ ((List.range 11).map fun i => adderT (i + 2)) ++ ((List.range 5).map fun i => [swapT (i + 2), highT (i + 2)]).flatten ++ ((List.range 5).map fun i => fadeT (i + 1)) ++ [queueT 1, queueT 2])
/-- what Kind.reached meets is what the law's walk finds -/
def okReach (t : Tab) : Bool := (List.range (sizeT t)).all fun s => match runR t 100 [] [s] with
  | some out => decide (out.length < 64) && decide out.Nodup && out.all (fun k => decide (k < sizeT t)) && decide ((List.range (sizeT t)).filter (fun k => decide (k ∈ out)) = walkN t s (sizeT t))
  | none => false
theorem all_ok : allT.all (fun t => okTab t && decide (namesT t).Nodup && sortedS (namesT t)) = true := by decide +kernel
theorem all_reach : allT.all okReach = true := by decide +kernel
theorem all_count : allT.length = 41 := by decide +kernel
theorem reach_is {t : Tab} (h : okReach t = true) {s : Nat} (hs : s < sizeT t) :
    ∃ out, runR t 100 [] [s] = some out ∧ out.length < 64 ∧ ∀ ns : List Int, ns.Perm (iN out) → ns.Pairwise (· ≤ ·) → ns = iN (walkN t s (sizeT t)) := by
  have h1 := List.all_eq_true.mp h s (List.mem_range.mpr hs)
  cases e : runR t 100 [] [s] with
  | none => rw [e] at h1; cases h1
  | some out =>
    rw [e] at h1
    simp only [Bool.and_eq_true, decide_eq_true_eq] at h1
    obtain ⟨⟨⟨few, nd⟩, lt⟩, w⟩ := h1
    refine ⟨out, rfl, few, fun ns pm up => ?_⟩
    have ndN : (iN out).Nodup := by
      unfold iN
      rw [List.nodup_iff_pairwise_ne, List.pairwise_map]
      exact (List.nodup_iff_pairwise_ne.mp nd).imp fun g z => g (by omega)
    have nd2 : ns.Pairwise (· ≠ ·) := List.nodup_iff_pairwise_ne.mp (pm.nodup_iff.mpr ndN)
    have up2 : ns.Pairwise (· < ·) := List.Pairwise.imp (fun ⟨a, b⟩ => by omega) (List.pairwise_and_iff.mpr ⟨up, nd2⟩)
    have wr : (iN (walkN t s (sizeT t))).Pairwise (· < ·) := by
      rw [← w]
      unfold iN
      rw [List.pairwise_map]
      exact List.Pairwise.imp (fun h => by omega) (List.Pairwise.filter _ List.pairwise_lt_range)
    refine rise_one up2 wr fun k => ?_
    rw [pm.mem_iff, ← w]
    unfold iN
    simp only [List.mem_map, List.mem_filter, List.mem_range, decide_eq_true_eq]
    have lt2 := List.all_eq_true.mp lt
    exact ⟨fun ⟨x, hx, e⟩ => ⟨x, ⟨of_decide_eq_true (lt2 x hx), hx⟩, e⟩, fun ⟨x, hx, e⟩ => ⟨x, hx.2, e⟩⟩
end Tm

/-! _law_rows. -/
namespace Tm
open PySem PySem.Spec PyProof.Rows L2
local macro_rules | `(tactic| walk_at "x") => `(tactic| dsimp only [tNext, tRet, tSeq, tCall, tCB, tC, tCons, tNil, tAsg, tDrop, sFld])
theorem tab_one : ∀ {t' t : Tab}, t'.Perm t → namesT t' = namesT t → (namesT t).Nodup → t' = t
  | [], t, p, _, _ => (List.nil_perm.mp p).symm ▸ rfl
  | x :: r, [], p, _, _ => absurd p.length_eq (by simp)
  | x :: r, y :: s, p, e, nd => by
    have e1 : x.1 = y.1 ∧ namesT r = namesT s := by
      have e2 : x.1 :: namesT r = y.1 :: namesT s := e
      exact List.cons.inj e2
    have nd2 : y.1 ∉ namesT s ∧ (namesT s).Nodup := List.nodup_cons.mp nd
    have exy : x = y := by
      rcases List.mem_cons.mp (p.mem_iff.mp List.mem_cons_self) with z | z
      · exact z
      · exact absurd (e1.1 ▸ List.mem_map.mpr ⟨x, z, rfl⟩) nd2.1
    subst exy
    rw [tab_one ((List.perm_cons x).mp p) e1.2 nd2.2]
theorem tab_same {t' t : Tab} (p : t'.Perm t) (s1 : sortedS (namesT t') = true) (s2 : sortedS (namesT t) = true) (nd : (namesT t).Nodup) : t' = t := tab_one p (sorted_one (p.map _) s1 s2) nd
abbrev goodT (t : Tab) : Prop := sortedS (namesT t) = true ∧ (namesT t).Nodup
theorem good_of {t : Tab} (h : t ∈ allT) : okTab t = true ∧ goodT t := by
  have := List.all_eq_true.mp all_ok t h
  simp only [Bool.and_eq_true, decide_eq_true_eq] at this
  exact ⟨this.1.1, this.2, this.1.2⟩
/-- (kind, table) -/
def EntK (C : Addr) (H : Hp) (v : V) (t : Tab) : Prop := ∃ p k d, v = .ref p ∧ H p = some (.tup [k, d]) ∧ KindV C H k t ∧ DictV H d t
theorem EntK.keep {C : Addr} {H H' : Hp} {v : V} {t : Tab} (h : EntK C H v t) (e : Same H H') : EntK C H' v t := by
  obtain ⟨p, k, d, e1, e2, e3, e4⟩ := h
  exact ⟨p, k, d, e1, e _ _ e2, e3.keep e, e4.keep e⟩
section
variable {σ : L2.St} {H : Hp} {ta tb : TA} {C : Addr} {E1 E2 : XK}
theorem ev_entK {n lo hi lo2 hi2 : Nat} {T : Nat → Tab} (ha : EvA ta σ H fun l _ => l = [.int (n : Int)]) (hb : ∀ H1, Same H H1 → EvA tb σ H1 fun l _ => l = [.int (n : Int)]) (h1 : lo ≤ n ∧ n ≤ hi) (h2 : lo2 ≤ n ∧ n ≤ hi2) (good : goodT (T n)) :
    Ev (tTup (tCons (tCall (sp_made C lo hi T) [] E1 ta) (tCons (tCall (sp_tab lo2 hi2 T) [] E2 tb) tNil))) σ H fun v H1 => EntK C H1 v (T n) := fun Q q => by
  refine ha _ fun l Ha ea el => ?_
  subst el
  refine ⟨n, rfl, h1.1, h1.2, fun k H1 t' e1 hk pm => ?_⟩
  have et : t' = T n := by
    obtain ⟨_, _, _, _, _, _, _, _, _, _, st⟩ := id hk
    exact tab_same pm st good.1 good.2
  subst et
  refine hb _ (ea.trans e1) _ fun l Hb eb el => ?_
  subst el
  refine ⟨n, rfl, h2.1, h2.2, fun d H2 e2 hd => ⟨by show 2 ≤ sizeLine; decide, fun p hp => ?_⟩⟩
  exact q _ _ (ea.trans (e1.trans (eb.trans (e2.trans (same_new hp))))) ⟨p, k, d, rfl, upd_same, (hk.keep (eb.trans e2)).keep (same_new hp), hd.keep (same_new hp)⟩
end
/-- all but lists is kept -/
def NL (H H' : Hp) : Prop := ∀ a o, H a = some o → (∀ xs, o ≠ .lst xs) → H' a = some o
theorem NL.set {H : Hp} {p : Addr} {xs ys : List V} (h : H p = some (.lst xs)) : NL H (upd H p (.lst ys)) := fun a o e no => by
  by_cases z : a = p
  · rw [z, h] at e
    exact absurd (Option.some.inj e).symm (no xs)
  · rw [upd_ne z]
    exact e
theorem NL.tups {H H' : Hp} (n : NL H H') : TupS H H' := fun a xs e => n a _ e fun _ z => by cases z
theorem EntK.nl {C : Addr} {H H' : Hp} {v : V} {t : Tab} (h : EntK C H v t) (n : NL H H') : EntK C H' v t := by
  obtain ⟨p, k, d, e1, e2, ⟨a, dx, dk, kvs, f1, f2, f3, f4, f5⟩, d1, kv2, g1, g2, g3, g4⟩ := h
  exact ⟨p, k, d, e1, n _ _ e2 fun _ z => (by cases z), ⟨a, dx, dk, kvs, f1, n _ _ f2 fun _ z => (by cases z), n _ _ f3 fun _ z => (by cases z), f4.mono n.tups, f5⟩, d1, kv2, g1, n _ _ g2 fun _ z => (by cases z), g3.mono n.tups, g4⟩
section
variable {σ : L2.St} {H : Hp} {te1 te2 : TE} {C : Addr} {R : VK}
theorem two_rows {p : Addr} {xs : List V} {ts : List Tab} {t1 t2 : Tab} (h0 : σ[0]? = some (some (.ref p))) (hp : H p = some (.lst xs)) (hx : Paired (EntK C H) xs ts) (few : ts.length ≤ 100) (h1 : Ev te1 σ H fun v H1 => EntK C H1 v t1) (h2 : ∀ H1, Same H H1 → Ev te2 σ H1 fun v H2 => EntK C H2 v t2)
    (r : ∀ p2 ys H2, H p2 = none → Same H H2 → H2 p2 = some (.lst ys) → Paired (EntK C H2) ys (ts ++ [t1, t2]) → R (.ref p2) H2) : tOp rCat (tVar 0) (tLst (tCons te1 (tCons te2 tNil))) σ H R := by
  refine ⟨_, h0, ?_⟩
  refine h1 _ fun v1 H1 e1 k1 => h2 H1 e1 _ fun v2 H2 e2 k2 => ⟨by show 2 ≤ sizeLine; decide, fun pl hpl => ?_⟩
  have lx := Paired.length hx
  have e12 := e1.trans e2
  refine ⟨p, pl, xs, _, rfl, rfl, (e12.trans (same_new hpl)) _ _ hp, upd_same, by show xs.length + 2 ≤ sizeLine; exact sz_le (by omega), fun p2 hp2 => ?_⟩
  have e3 := (same_new (o := .lst [v1, v2]) hpl).trans (same_new (o := .lst (xs ++ [v1, v2])) hp2)
  refine r p2 _ _ (e12.free ((same_new hpl).free hp2)) (e12.trans e3) upd_same ?_
  have q1 := paired_app (Paired.mapP hx fun _ _ k => k.keep (e12.trans e3)) ((k1.keep e2).keep e3)
  have q2 := paired_app q1 (k2.keep e3)
  rw [List.append_assoc, List.append_assoc] at q2
  exact q2
end
section
variable {σ : L2.St} {H : Hp} {te : TE} {C : Addr} {K : PySem.W.Frag} {D : Ends}
theorem one_row {p : Addr} {xs : List V} {ts : List Tab} {t1 : Tab} (h0 : σ[0]? = some (some (.ref p))) (hp : H p = some (.lst xs)) (hx : Paired (EntK C H) xs ts) (few : xs.length ≤ 100) (h1 : Ev te σ H fun v H1 => EntK C H1 v t1)
    (r : ∀ ys H1 H2, Same H H1 → H2 = upd H1 p (.lst ys) → Paired (EntK C H2) ys (ts ++ [t1]) → ys.length = xs.length + 1 → D.nx σ H2) : tDrop (tBM K "list" rAppend (tVar 0) (tCons te tNil)) D σ H := by
  refine ⟨_, h0, .inl ⟨rfl, _, SqL.of hp⟩, h1 _ fun v H1 e1 k1 => ⟨p, xs, v, rfl, rfl, e1 _ _ hp, sz_lt (by omega), r _ H1 _ e1 rfl ?_ (List.length_append ..)⟩⟩
  have n := NL.set (ys := xs ++ [v]) (e1 _ _ hp)
  exact paired_app (Paired.mapP hx fun _ _ k => (k.keep e1).nl n) (k1.nl n)
end
theorem flat_succ {α : Type} (f : Nat → List α) (i : Nat) : ((List.range (i + 1)).map f).flatten = ((List.range i).map f).flatten ++ f i := by
  rw [List.range_succ, List.map_append, List.flatten_append]
  simp
theorem map_succ {α : Type} (f : Nat → α) (i : Nat) : (List.range (i + 1)).map f = (List.range i).map f ++ [f i] := by
  rw [List.range_succ, List.map_append]
  rfl
theorem g_one : ∀ i, i < 6 → goodT (cellT (i + 1)) ∧ goodT (slotT (i + 1)) := by decide +kernel
theorem g_two : ∀ i, i < 11 → goodT (adderT (i + 2)) := by decide +kernel
theorem g_three : ∀ i, i < 5 → goodT (swapT (i + 2)) ∧ goodT (highT (i + 2)) := by decide +kernel
theorem g_four : ∀ i, i < 5 → goodT (fadeT (i + 1)) := by decide +kernel
theorem g_five : goodT (queueT 1) ∧ goodT (queueT 2) ∧ goodT flagT := by decide +kernel
section
variable {P : Program} {w : World} {K : PySem.W.Frag} {mg : Str → Option Value} {base : Heap} {C : Addr}
abbrev s_rows : Stmt := top 42
theorem sc_law_rows : FnScope ["_law_rows_here", "_law_count"] [] (defScope s_rows) := ⟨rfl, rfl, rfl, by decide +kernel, rfl, by decide +kernel, by decide +kernel⟩
def sp_rows (C : Addr) : Sp := fun vs H Q _ => vs = [] ∧ ∀ p xs H', Same H H' → H' p = some (.lst xs) → Paired (EntK C H') xs allT → Q (.ref p) H'
theorem ok_rows (B : Bt mg) (O_flag_kind : Ok P w K mg base "flag_kind" 7 [] (sp_flag C)) (O_cell_kind : Ok P w K mg base "cell_kind" 8 ["many"] (sp_made C 1 6 cellT)) (O_slot_kind : Ok P w K mg base "slot_kind" 8 ["many"] (sp_made C 1 6 slotT)) (O_adder_kind : Ok P w K mg base "adder_kind" 8 ["many"] (sp_made C 2 12 adderT))
    (O_swap_kind : Ok P w K mg base "swap_kind" 8 ["many"] (sp_made C 2 6 swapT)) (O_highest_kind : Ok P w K mg base "highest_kind" 8 ["many"] (sp_made C 2 6 highT)) (O_fading_kind : Ok P w K mg base "fading_kind" 8 ["many"] (sp_made C 1 5 fadeT)) (O_queue_kind : Ok P w K mg base "queue_kind" 8 ["many"] (sp_made C 1 2 queueT))
    (O_law_cell_table : Ok P w K mg base "_law_cell_table" 1 ["_law_count"] (sp_tab 1 6 cellT)) (O_law_slot_table : Ok P w K mg base "_law_slot_table" 2 ["_law_count"] (sp_tab 1 6 slotT)) (O_law_adder_table : Ok P w K mg base "_law_adder_table" 1 ["_law_count"] (sp_tab 2 12 adderT)) (O_law_swap_table : Ok P w K mg base "_law_swap_table" 2 ["_law_count"] (sp_tab 2 6 swapT))
    (O_law_highest_table : Ok P w K mg base "_law_highest_table" 2 ["_law_count"] (sp_tab 2 6 highT)) (O_law_fading_table : Ok P w K mg base "_law_fading_table" 2 ["_law_count"] (sp_tab 1 5 fadeT)) (O_law_queue_table : Ok P w K mg base "_law_queue_table" 2 ["_law_count"] (sp_tab 1 2 queueT))
    (D : Df K mg "_law_rows" s_rows []) : Ok P w K mg base "_law_rows" 9 [] (sp_rows C) := by
  refine D.ok sc_law_rows (fun vs H Q E h => ?_) (fun f cdv A outer s H vs Q E hr h => ?_)
  · obtain ⟨rfl, _⟩ := h
    rfl
  · obtain ⟨rfl, q⟩ := h
    refine ⟨_, pss_cons (ps_set (i := 0) sc_law_rows.nd rfl (.inl rfl) (pe_lst (pa_cons (pe_tup (pa_cons (O_flag_kind.call0 hr) (pa_cons (pe_disp (pps_cons (pe_str) (pe_tup (pa_cons (pe_tup (pa_cons (pe_int) (pa_cons (pe_int) (pa_nil)))) (pa_cons (pe_tup (pa_cons (pe_int) (pa_cons (pe_int) (pa_nil)))) (pa_nil)))) (pps_nil)) (by rfl) (by rfl) (fun z => by cases z) (by decide)) (pa_nil)))) (pa_nil))))
      (pss_cons (ps_for PassesOwn.never rfl (pi_range2 (by rfl) B.range (pa_cons (pe_int) (pa_cons (pe_int) (pa_nil)))) (pg_name (i := 1) sc_law_rows.nd rfl (.inl rfl))
        (pss_one (ps_set (i := 0) sc_law_rows.nd rfl (.inl rfl) (pe_op op_cat (pv 0) (pe_lst (pa_cons (pe_tup (pa_cons (O_cell_kind.call hr (ha := pa_cons (pv 1) (pa_nil))) (pa_cons (O_law_cell_table.call hr (ha := pa_cons (pv 1) (pa_nil))) (pa_nil)))) (pa_cons (pe_tup (pa_cons (O_slot_kind.call hr (ha := pa_cons (pv 1) (pa_nil))) (pa_cons (O_law_slot_table.call hr (ha := pa_cons (pv 1) (pa_nil))) (pa_nil)))) (pa_nil))))))))
      (pss_cons (ps_for PassesOwn.never rfl (pi_range2 (by rfl) B.range (pa_cons (pe_int) (pa_cons (pe_int) (pa_nil)))) (pg_name (i := 1) sc_law_rows.nd rfl (.inl rfl))
        (pss_one (ps_expr (pe_bm PySem.F.plainAttrs_list PySem.F.slot_list_append PySem.F.type_list_append mt_append (pv 0) (pa_cons (pe_tup (pa_cons (O_adder_kind.call hr (ha := pa_cons (pv 1) (pa_nil))) (pa_cons (O_law_adder_table.call hr (ha := pa_cons (pv 1) (pa_nil))) (pa_nil)))) (pa_nil))))))
      (pss_cons (ps_for PassesOwn.never rfl (pi_range2 (by rfl) B.range (pa_cons (pe_int) (pa_cons (pe_int) (pa_nil)))) (pg_name (i := 1) sc_law_rows.nd rfl (.inl rfl))
        (pss_one (ps_set (i := 0) sc_law_rows.nd rfl (.inl rfl) (pe_op op_cat (pv 0) (pe_lst (pa_cons (pe_tup (pa_cons (O_swap_kind.call hr (ha := pa_cons (pv 1) (pa_nil))) (pa_cons (O_law_swap_table.call hr (ha := pa_cons (pv 1) (pa_nil))) (pa_nil)))) (pa_cons (pe_tup (pa_cons (O_highest_kind.call hr (ha := pa_cons (pv 1) (pa_nil))) (pa_cons (O_law_highest_table.call hr (ha := pa_cons (pv 1) (pa_nil))) (pa_nil)))) (pa_nil))))))))
      (pss_cons (ps_for PassesOwn.never rfl (pi_range2 (by rfl) B.range (pa_cons (pe_int) (pa_cons (pe_int) (pa_nil)))) (pg_name (i := 1) sc_law_rows.nd rfl (.inl rfl))
        (pss_one (ps_expr (pe_bm PySem.F.plainAttrs_list PySem.F.slot_list_append PySem.F.type_list_append mt_append (pv 0) (pa_cons (pe_tup (pa_cons (O_fading_kind.call hr (ha := pa_cons (pv 1) (pa_nil))) (pa_cons (O_law_fading_table.call hr (ha := pa_cons (pv 1) (pa_nil))) (pa_nil)))) (pa_nil))))))
      (pss_one (ps_ret (pe_op op_cat (pv 0) (pe_lst (pa_cons (pe_tup (pa_cons (O_queue_kind.call hr (ha := pa_cons (pe_int) (pa_nil))) (pa_cons (O_law_queue_table.call hr (ha := pa_cons (pe_int) (pa_nil))) (pa_nil)))) (pa_cons (pe_tup (pa_cons (O_queue_kind.call hr (ha := pa_cons (pe_int) (pa_nil))) (pa_cons (O_law_queue_table.call hr (ha := pa_cons (pe_int) (pa_nil))) (pa_nil)))) (pa_nil))))))))))), ?_⟩
    dsimp only [tSeq]
    refine ⟨rfl, fun k H1 t' e1 hk pm => ?_⟩
    have et : t' = flagT := by
      obtain ⟨_, _, _, _, _, _, _, _, _, _, st⟩ := id hk
      exact tab_same pm st g_five.2.2.1 g_five.2.2.2
    subst et
    intro d hd
    refine ⟨by show 2 ≤ sizeLine; decide, fun p1 hp1 => ⟨by show 2 ≤ sizeLine; decide, fun p2 hp2 => ⟨by show 2 ≤ sizeLine; decide, fun p3 hp3 => ?_⟩⟩⟩
    have f1 : Same (upd H1 d (.dK [])) (upd (upd (upd (upd H1 d (.dK [])) p1 (.tup [.int 1, .int 0])) p2 (.tup [.int 1, .int 1])) p3 (.tup [.ref p1, .ref p2])) := (same_new hp1).trans ((same_new hp2).trans (same_new hp3))
    have row : RowV (upd (upd (upd (upd H1 d (.dK [])) p1 (.tup [.int 1, .int 0])) p2 (.tup [.int 1, .int 1])) p3 (.tup [.ref p1, .ref p2])) (.ref p3) [(1, 0), (1, 1)] :=
      ⟨p3, _, rfl, upd_same, .cons ⟨p1, rfl, ((same_new hp2).trans (same_new hp3)) _ _ upd_same⟩ (.cons ⟨p2, rfl, (same_new hp3) _ _ upd_same⟩ .nil)⟩
    generalize upd (upd (upd (upd H1 d (.dK [])) p1 (.tup [.int 1, .int 0])) p2 (.tup [.int 1, .int 1])) p3 (.tup [.ref p1, .ref p2]) = H2 at f1 row
    have hd1 : H2 d = some (.dK []) := f1 _ _ upd_same
    have f2 : Same H1 (upd H2 d (.dK [(Sum.inr "set", .ref p3)])) := same_mut ((same_new hd).trans f1) hd
    refine ⟨hd1, [(Sum.inr "set", .ref p3)], rfl, by show 1 ≤ 15; decide, ?_⟩
    rw [merge1]
    have ht : TabV (upd H2 d (.dK [(Sum.inr "set", .ref p3)])) [(Sum.inr "set", .ref p3)] flagT := .cons ⟨rfl, row.mono (tups_upd hd1 (fun xs z => by cases z))⟩ .nil
    have hdv : DictV (upd H2 d (.dK [(Sum.inr "set", .ref p3)])) (.ref d) flagT := ⟨d, _, rfl, upd_same, ht, g_five.2.2.2, flag_ok.1⟩
    generalize upd H2 d (.dK [(Sum.inr "set", .ref p3)]) = H3 at f2 hdv
    refine ⟨by show 2 ≤ sizeLine; decide, fun pp hpp => ⟨by show 1 ≤ sizeLine; decide, fun pl hpl => ?_⟩⟩
    have f3 := (same_new (o := .tup [k, .ref d]) hpp).trans (same_new (o := .lst [.ref pp]) hpl)
    have ent : EntK C (upd (upd H3 pp (.tup [k, .ref d])) pl (.lst [.ref pp])) (.ref pp) flagT := ⟨pp, k, _, rfl, (same_new hpl) _ _ upd_same, (hk.keep f2).keep f3, hdv.keep f3⟩
    have nl : H pl = none := e1.free (f2.free ((same_new hpp).free hpl))
    have sH := e1.trans (f2.trans f3)
    have hl0 : upd (upd H3 pp (.tup [k, .ref d])) pl (.lst [.ref pp]) pl = some (.lst [.ref pp]) := upd_same
    generalize upd (upd H3 pp (.tup [k, .ref d])) pl (.lst [.ref pp]) = H4 at ent sH hl0
    dsimp only [gName, tSeq]
    refine ⟨1, 7, rfl, ⟨by decide, by decide, by decide, by decide⟩, ?_⟩
    refine for_range (n := 6) (lo := 1) (fun i σ' H' => ∃ (p : Addr) (xs : List V) (o1 : Option V), σ' = [some (.ref p), o1] ∧ H' p = some (.lst xs) ∧ Paired (EntK C H') xs ([flagT] ++ ((List.range i).map fun i => [cellT (i + 1), slotT (i + 1)]).flatten) ∧ Same H H' ∧ H p = none ∧ xs.length ≤ 1 + 2 * i)
      ⟨pl, _, none, rfl, hl0, .cons ent .nil, sH, nl, Nat.le_refl 1⟩ ?_ ?_
    · rintro i σ' H' hi ⟨p, xs, o1, rfl, hp, hx, s1, np, lx⟩
      dsimp only [gName]
      have num : ∀ H5, EvA (tCons (tVar 1) tNil) ([some (V.ref p), o1].set 1 (some (V.int (1 + (i : Int))))) H5 fun l _ => l = [.int ((i + 1 : Nat) : Int)] := fun H5 Q q => ⟨_, rfl, q _ _ (Same.refl _) (by rw [show ((i + 1 : Nat) : Int) = 1 + (i : Int) by omega])⟩
      refine two_rows (t1 := cellT (i + 1)) (t2 := slotT (i + 1)) rfl hp hx (by rw [← Paired.length hx]; omega) (ev_entK (num _) (fun _ _ => num _) (by omega) (by omega) (g_one i hi).1) (fun H1 e => ev_entK (num _) (fun _ _ => num _) (by omega) (by omega) (g_one i hi).2) fun p2 ys H5 n5 s5 hp5 hx5 => ?_
      refine ⟨p2, ys, _, rfl, hp5, ?_, s1.trans s5, s1.free n5, ?_⟩
      · rw [flat_succ, ← List.append_assoc]
        exact hx5
      · have e := Paired.length hx5
        rw [List.length_append, ← Paired.length hx] at e
        have e2 : ([cellT (i + 1), slotT (i + 1)] : List Tab).length = 2 := rfl
        omega
    · rintro σ' H' ⟨p, xs, o1, rfl, hp, hx, s1, np, lx⟩
      clear hl0 sH nl ent
      generalize hA : [flagT] ++ ((List.range 6).map fun i => [cellT (i + 1), slotT (i + 1)]).flatten = A1 at hx
      refine ⟨2, 13, rfl, ⟨by decide, by decide, by decide, by decide⟩, ?_⟩
      refine for_range (n := 11) (lo := 2) (fun i σ' H' => ∃ (p : Addr) (xs : List V) (o1 : Option V), σ' = [some (.ref p), o1] ∧ H' p = some (.lst xs) ∧ Paired (EntK C H') xs (A1 ++ (List.range i).map fun i => adderT (i + 2)) ∧ Same H H' ∧ H p = none ∧ xs.length ≤ 13 + i)
        ⟨p, xs, o1, rfl, hp, by rw [List.range_zero, List.map_nil, List.append_nil]; exact hx, s1, np, lx⟩ ?_ ?_
      · rintro i σ' H' hi ⟨p, xs, o1, rfl, hp, hx, s1, np, lx⟩
        dsimp only [gName]
        have num : ∀ H5, EvA (tCons (tVar 1) tNil) ([some (V.ref p), o1].set 1 (some (V.int (2 + (i : Int))))) H5 fun l _ => l = [.int ((i + 2 : Nat) : Int)] := fun H5 Q q => ⟨_, rfl, q _ _ (Same.refl _) (by rw [show ((i + 2 : Nat) : Int) = 2 + (i : Int) by omega])⟩
        refine one_row (t1 := adderT (i + 2)) rfl hp hx (by omega) (ev_entK (num _) (fun _ _ => num _) (by omega) (by omega) (g_two i hi)) fun ys H5 H6 s5 e6 hx6 ly => ?_
        subst e6
        refine ⟨p, ys, _, rfl, upd_same, ?_, same_mut (s1.trans s5) np, np, by omega⟩
        rw [map_succ, ← List.append_assoc]
        exact hx6
      · rintro σ' H' ⟨p, xs, o1, rfl, hp, hx, s1, np, lx⟩
        generalize hB : A1 ++ (List.range 11).map (fun i => adderT (i + 2)) = A2 at hx
        refine ⟨2, 7, rfl, ⟨by decide, by decide, by decide, by decide⟩, ?_⟩
        refine for_range (n := 5) (lo := 2) (fun i σ' H' => ∃ (p : Addr) (xs : List V) (o1 : Option V), σ' = [some (.ref p), o1] ∧ H' p = some (.lst xs) ∧ Paired (EntK C H') xs (A2 ++ ((List.range i).map fun i => [swapT (i + 2), highT (i + 2)]).flatten) ∧ Same H H' ∧ H p = none ∧ xs.length ≤ 24 + 2 * i)
          ⟨p, xs, o1, rfl, hp, by rw [List.range_zero, List.map_nil, List.flatten_nil, List.append_nil]; exact hx, s1, np, lx⟩ ?_ ?_
        · rintro i σ' H' hi ⟨p, xs, o1, rfl, hp, hx, s1, np, lx⟩
          dsimp only [gName]
          have num : ∀ H5, EvA (tCons (tVar 1) tNil) ([some (V.ref p), o1].set 1 (some (V.int (2 + (i : Int))))) H5 fun l _ => l = [.int ((i + 2 : Nat) : Int)] := fun H5 Q q => ⟨_, rfl, q _ _ (Same.refl _) (by rw [show ((i + 2 : Nat) : Int) = 2 + (i : Int) by omega])⟩
          refine two_rows (t1 := swapT (i + 2)) (t2 := highT (i + 2)) rfl hp hx (by rw [← Paired.length hx]; omega) (ev_entK (num _) (fun _ _ => num _) (by omega) (by omega) (g_three i hi).1) (fun H1 e => ev_entK (num _) (fun _ _ => num _) (by omega) (by omega) (g_three i hi).2) fun p2 ys H5 n5 s5 hp5 hx5 => ?_
          refine ⟨p2, ys, _, rfl, hp5, ?_, s1.trans s5, s1.free n5, ?_⟩
          · rw [flat_succ, ← List.append_assoc]
            exact hx5
          · have e := Paired.length hx5
            rw [List.length_append, ← Paired.length hx] at e
            have e2 : ([swapT (i + 2), highT (i + 2)] : List Tab).length = 2 := rfl
            omega
        · rintro σ' H' ⟨p, xs, o1, rfl, hp, hx, s1, np, lx⟩
          generalize hC : A2 ++ ((List.range 5).map fun i => [swapT (i + 2), highT (i + 2)]).flatten = A3 at hx
          refine ⟨1, 6, rfl, ⟨by decide, by decide, by decide, by decide⟩, ?_⟩
          refine for_range (n := 5) (lo := 1) (fun i σ' H' => ∃ (p : Addr) (xs : List V) (o1 : Option V), σ' = [some (.ref p), o1] ∧ H' p = some (.lst xs) ∧ Paired (EntK C H') xs (A3 ++ (List.range i).map fun i => fadeT (i + 1)) ∧ Same H H' ∧ H p = none ∧ xs.length ≤ 34 + i)
            ⟨p, xs, o1, rfl, hp, by rw [List.range_zero, List.map_nil, List.append_nil]; exact hx, s1, np, lx⟩ ?_ ?_
          · rintro i σ' H' hi ⟨p, xs, o1, rfl, hp, hx, s1, np, lx⟩
            dsimp only [gName]
            have num : ∀ H5, EvA (tCons (tVar 1) tNil) ([some (V.ref p), o1].set 1 (some (V.int (1 + (i : Int))))) H5 fun l _ => l = [.int ((i + 1 : Nat) : Int)] := fun H5 Q q => ⟨_, rfl, q _ _ (Same.refl _) (by rw [show ((i + 1 : Nat) : Int) = 1 + (i : Int) by omega])⟩
            refine one_row (t1 := fadeT (i + 1)) rfl hp hx (by omega) (ev_entK (num _) (fun _ _ => num _) (by omega) (by omega) (g_four i hi)) fun ys H5 H6 s5 e6 hx6 ly => ?_
            subst e6
            refine ⟨p, ys, _, rfl, upd_same, ?_, same_mut (s1.trans s5) np, np, by omega⟩
            rw [map_succ, ← List.append_assoc]
            exact hx6
          · rintro σ' H' ⟨p, xs, o1, rfl, hp, hx, s1, np, lx⟩
            have n1 : ∀ H5, EvA (tCons (tC (V.int 1)) tNil) [some (V.ref p), o1] H5 fun l _ => l = [.int ((1 : Nat) : Int)] := fun H5 Q q => q _ _ (Same.refl _) rfl
            have n2 : ∀ H5, EvA (tCons (tC (V.int 2)) tNil) [some (V.ref p), o1] H5 fun l _ => l = [.int ((2 : Nat) : Int)] := fun H5 Q q => q _ _ (Same.refl _) rfl
            refine two_rows (t1 := queueT 1) (t2 := queueT 2) rfl hp hx (by rw [← Paired.length hx]; omega) (ev_entK (n1 _) (fun _ _ => n1 _) (by omega) (by omega) g_five.1) (fun H1 e => ev_entK (n2 _) (fun _ _ => n2 _) (by omega) (by omega) g_five.2.1) fun p2 ys H5 n5 s5 hp5 hx5 => ?_
            refine q p2 ys H5 (s1.trans s5) hp5 ?_
            rw [← hC, ← hB, ← hA] at hx5
            exact hx5
end
end Tm

/-! Lists and tuples as data: shaped, equal to themselves. -/
namespace Tm
open PySem PySem.Spec PyProof.Rows L2
theorem can_all : ∀ {ds : List PyData}, (∀ d ∈ ds, PyData.canLay0 d = true) → PyData.canLayAll0 ds = true
  | [], _ => rfl
  | d :: r, h => by
    show (PyData.canLay0 d && PyData.canLayAll0 r) = true
    rw [h d List.mem_cons_self, can_all fun x hx => h x (List.mem_cons_of_mem _ hx)]
    rfl
theorem depth_all {n : Nat} : ∀ {ds : List PyData}, (∀ d ∈ ds, PyData.depth d ≤ n) → PyData.depthAll ds ≤ n
  | [], _ => Nat.zero_le _
  | d :: r, h => Nat.max_le.mpr ⟨h d List.mem_cons_self, depth_all fun x hx => h x (List.mem_cons_of_mem _ hx)⟩
theorem eqv_all : ∀ {ds : List PyData}, (∀ d ∈ ds, PyData.eqv d d = true) → PyData.eqvAll ds ds = true
  | [], _ => rfl
  | d :: r, h => by
    show (PyData.eqv d d && PyData.eqvAll r r) = true
    rw [h d List.mem_cons_self, eqv_all fun x hx => h x (List.mem_cons_of_mem _ hx)]
    rfl
/-- what a list and a tuple of it need -/
structure Nice (n : Nat) (d : PyData) : Prop where
  can : PyData.canLay0 d = true
  deep : PyData.depth d ≤ n
  eqv : PyData.eqv d d = true
theorem Nice.shaped {n : Nat} {d : PyData} (h : Nice n d) (hn : n ≤ 64) : SeqAt.shaped d = true := by
  unfold SeqAt.shaped
  rw [h.can, decide_eq_true (Nat.le_trans h.deep hn)]
  rfl
theorem Nice.list {n : Nat} {ds : List PyData} (h : ∀ d ∈ ds, Nice n d) : Nice (n + 1) (.list ds) :=
  ⟨can_all fun d hd => (h d hd).can, Nat.succ_le_succ (depth_all fun d hd => (h d hd).deep), eqv_all fun d hd => (h d hd).eqv⟩
theorem Nice.tuple {n : Nat} {ds : List PyData} (h : ∀ d ∈ ds, Nice n d) : Nice (n + 1) (.tuple ds) :=
  ⟨can_all fun d hd => (h d hd).can, Nat.succ_le_succ (depth_all fun d hd => (h d hd).deep), eqv_all fun d hd => (h d hd).eqv⟩
theorem nice_int (i : Int) : Nice 0 (.int i) := ⟨rfl, Nat.le_refl _, beq_self_eq_true i⟩
theorem nice_str {x : Str} (h : PyData.strOk x = true) : Nice 0 (.str x) := ⟨h, Nat.le_refl _, beq_self_eq_true x⟩
theorem all_str : allT.all (fun t => (namesT t).all PyData.strOk) = true := by decide +kernel
theorem nice_strs {xs : List Str} (h : xs.all PyData.strOk = true) : Nice 1 (.list (xs.map .str)) := .list fun d hd => by
  obtain ⟨x, hx, rfl⟩ := List.mem_map.mp hd
  exact nice_str (List.all_eq_true.mp h x hx)
theorem nice_ints (xs : List Int) : Nice 1 (.tuple (xs.map .int)) := .tuple fun d hd => by
  obtain ⟨x, _, rfl⟩ := List.mem_map.mp hd
  exact nice_int x
theorem nice_tups (xs : List (List Int)) : Nice 2 (.list (xs.map fun l => .tuple (l.map .int))) := .list fun d hd => by
  obtain ⟨x, _, rfl⟩ := List.mem_map.mp hd
  exact nice_ints x
section
variable {K : PySem.W.Frag} {H : Hp}
theorem dp_strs : ∀ xs : List Str, DpAll K H (xs.map V.str) (xs.map PyData.str)
  | [] => .nil
  | x :: r => .cons (.str x) (dp_strs r)
theorem dp_ints : ∀ xs : List Int, DpAll K H (xs.map V.int) (xs.map PyData.int)
  | [] => .nil
  | x :: r => .cons (.int x) (dp_ints r)
theorem dp_tups : ∀ {vs : List V} {ls : List (List Int)}, Paired (fun v l => ∃ a, v = .ref a ∧ SqT K H a (l.map V.int)) vs ls → DpAll K H vs (ls.map fun l => .tuple (l.map .int))
  | _, _, .nil => .nil
  | _, _, .cons ⟨a, e, h⟩ t => by
    subst e
    exact .cons (.tup h (dp_ints _)) (dp_tups t)
theorem dp_rowL {p : Addr} {vs : List V} {r : Row} (h : SqL K H p vs) (hp : Paired (PairV H) vs r) : Dp K H (.ref p) (.list (r.map pD)) := .lst h (dp_pairs hp)
end
theorem nice_pairs (r : Row) : Nice 2 (.list (r.map pD)) := .list fun d hd => by
  obtain ⟨x, _, rfl⟩ := List.mem_map.mp hd
  exact .tuple fun d hd => by
    rcases List.mem_cons.mp hd with e | e
    · rw [e]; exact nice_int _
    · rw [List.mem_singleton.mp e]; exact nice_int _
end Tm

/-! _law_is_told. -/
namespace Tm
open PySem PySem.Spec PyProof.Rows L2
local macro_rules | `(tactic| walk_at "x") => `(tactic| dsimp only [tNext, tRet, tSeq, tCall, tCB, tC, tCons, tNil, tAsg, tDrop, sFld])
section
variable {P : Program} {w : World} {K : PySem.W.Frag} {mg : Str → Option Value} {base : Heap} {C : Addr}
theorem row_range (r : Row) : (List.range r.length).map (fun s => r.getD s (0, 0)) = r := by
  refine List.ext_getElem? fun i => ?_
  rw [List.getElem?_map]
  by_cases h : i < r.length
  · rw [List.getElem?_range h, Option.map_some, List.getD_eq_getElem?_getD, List.getElem?_eq_getElem h]
    rfl
  · rw [List.getElem?_eq_none (by rw [List.length_range]; omega), List.getElem?_eq_none (by omega)]
    rfl
theorem lc_pairs {K : PySem.W.Frag} {σ : L2.St} {H : Hp} {Q : VK} {j k : Nat} {te : TE} {vs : List Nat} {tl : TE} {rs : List V} {r : Row} (hl : Ev tl σ H fun v H1 => ∃ a, v = .ref a ∧ SqT K H1 a rs) (hrs : Paired (PairV H) rs r) (hz : r.length ≤ 100000)
    (hw : ∀ x y, wipe (((wipe σ vs).set j (some x)).set k (some y)) vs = wipe σ vs) (R : Int × Int → V → Hp → Prop) (hR : ∀ z v H H', TupS H H' → R z v H → R z v H')
    (he : ∀ z H3, z ∈ r → Same H H3 → Ev te (((wipe σ vs).set j (some (.int z.1))).set k (some (.int z.2))) H3 (R z))
    (hq : ∀ p H1 ys, Same H H1 → H1 p = some (.lst ys) → Paired (fun v z => R z v H1) ys r → Q (.ref p) H1) : tLc (iTup K tl) (gTup K 2 (gCons (gName j) (gCons (gName k) gNil))) tYes te vs σ H Q := by
  refine hl _ fun v H1 e h => ?_
  obtain ⟨a, ea, hs'⟩ := h
  have hlen := Paired.length hrs
  refine ⟨a, ea, ⟨rs, hs'⟩, lc_go (Q := Q) (walk_tup) r (fun _ => true) R hlen.symm (by omega) hR (fun H2 e2 => same_seqT e2 hs') (fun i z x H2 H' hz e2 y Qg qg => ?_) (fun p H2 ys hp e2 hl hP => hq p H2 ys (e.trans e2) hl (by rw [filter_all] at hP; exact hP))⟩
  obtain ⟨rfl, y⟩ := y
  obtain ⟨z', hz', hpz⟩ := paired_ix2 hrs y
  obtain rfl : z' = z := by rw [hz] at hz'; exact (Option.some.inj hz').symm
  obtain ⟨pc, rfl, hpc⟩ := hpz.mono (tups_of (e.trans e2))
  refine ⟨pc, _, rfl, SqT.of hpc, rfl, _, _, rfl, ?_⟩
  dsimp only [gName]
  refine ⟨_, _, rfl, ?_⟩
  dsimp only [gName]
  refine ⟨rfl, ?_⟩
  exact qg _ _ (hw _ _) (Same.refl _) evt_yes fun _ H3 e3 => he _ H3 (List.mem_of_getElem? hz) ((e.trans e2).trans e3)
theorem paired_fun {α : Type} {f : α → V} : ∀ {ys : List V} {zs : List α}, Paired (fun v z => v = f z) ys zs → ys = zs.map f
  | _, _, .nil => rfl
  | _, _, .cons h t => by rw [h, paired_fun t]; rfl
abbrev s_told : Stmt := top 45
theorem sc_law_is_told : FnScope ["_law_kind", "_law_table", "_law_name", "_law_size_here", "_law_names", "_law_state", "_law_later", "_law_answer"] ["_law_kind", "_law_table"] (defScope s_told) := ⟨rfl, rfl, rfl, by decide +kernel, rfl, by decide +kernel, by decide +kernel⟩
def sp_told (C : Addr) : Sp := fun vs H Q _ => ∃ (k d : V) (t : Tab), vs = [k, d] ∧ KindV C H k t ∧ DictV H d t ∧ okReach t = true ∧ (namesT t).all PyData.strOk = true ∧ ∀ H', Same H H' → Q (.bl true) H'
theorem ok_told (B : Bt mg) (Bs : mg "set" = none) (T : Kc K C) (O_law_size : Ok P w K mg base "_law_size" 2 ["_law_table"] sp_lsize) (OP_operations : OkP P w K mg base C "operations" 1 (sp_ops C)) (OP_names : OkP P w K mg base C "names" 1 (sp_names C)) (OP_size : OkP P w K mg base C "size" 1 (sp_size C))
    (OS_len : OkS P w K mg base C "__len__" 1 ["self"] (sp_klen C)) (OS_str : OkS P w K mg base C "__str__" 1 ["self"] (sp_kstr C)) (O_in : OkIn P w K mg base C 1 ["self", "x"] (sp_cont C)) (OM_after : OkM P w K mg base C "after" 3 ["self", "state", "name"] (sp_after C)) (OM_answers : OkM P w K mg base C "answers" 3 ["self", "name"] (sp_answers C))
    (OM_reached : OkM P w K mg base C "reached" 3 ["self", "state"] (sp_reached C)) (O_law_states_from : Ok P w K mg base "_law_states_from" 3 ["_law_table", "_law_state"] sp_states)
    (D : Df K mg "_law_is_told" s_told ["_law_kind", "_law_table"]) : Ok P w K mg base "_law_is_told" 9 ["_law_kind", "_law_table"] (sp_told C) := by
  refine D.ok sc_law_is_told (fun vs H Q E h => ?_) (fun f cdv A outer s H vs Q E hr h => ?_)
  · obtain ⟨k, d, t, rfl, _⟩ := h
    rfl
  · obtain ⟨k, d, t, rfl, hk, hd, hre, hso, q⟩ := h
    have hu := hu_of hr
    have hu65 : (A.deeper (envOfC "_law_is_told" (defScope s_told) s.heap.objs.size f cdv)).units + 65 < cLine := by
      have := hr.un
      omega
    have hu64 : (A.deeper (envOfC "_law_is_told" (defScope s_told) s.heap.objs.size f cdv)).units + 64 < cLine := by omega
    refine ⟨_, pss_cons (ps_par (i := 3) (j := 4) (by rfl) sc_law_is_told.nd rfl rfl (by decide) rfl rfl (pa_cons (O_law_size.call hr (ha := pa_cons (pv 1) (pa_nil))) (pa_cons (pe_callB (call_sortedD rfl) (by rfl) B.sorted (by decide +kernel) (pa_cons (pv 1) (pa_nil))) (pa_nil))) (by rfl))
      (pss_cons (ps_if (PW.pt (pw_or (pt_cmpR (op_neTab hu65) (OP_operations.get hr T.cl (he := pv 0)) (pv 1) (nomark _)) (pw_or (pt_cmpR (op_neD hu64) (pe_callTy (call_listD rfl) (by rfl) B.list (by decide +kernel) (pa_cons (OP_operations.get hr T.cl (he := pv 0)) (pa_nil))) (pv 4) (nomark _)) (pw_or (pt_cmpR (op_neD hu64) (pe_callTy call_list_of (by rfl) B.list (by decide +kernel) (pa_cons (OP_names.get hr T.cl (he := pv 0)) (pa_nil))) (pv 4) (nomark _)) (pw_or1 (pt_cmpR op_ne (OP_size.get hr T.cl (he := pv 0)) (pv 3) (nomark _)))))))
        (pss_one (ps_ret (pe_bl)))
        (pss_nil))
      (pss_cons (ps_if (PW.pt (pw_or (pt_cmpR op_ne (pe_callB (call_lenO OS_len (hr.mono (by decide))) (by rfl) B.len (by decide +kernel) (pa_cons (pv 0) (pa_nil))) (pe_callB call_lenD (by rfl) B.len (by decide +kernel) (pa_cons (pv 1) (pa_nil))) (nomark _)) (pw_or1 (pt_cmpR op_ne (pe_callTy (call_strO OS_str (hr.mono (by decide))) (by rfl) B.str (by decide +kernel) (pa_cons (pv 0) (pa_nil))) (pe_op op_add_str (pe_op op_add_str (pe_op op_add_str (pe_str) (pe_callTy call_str_int (by rfl) B.str (by decide +kernel) (pa_cons (pv 3) (pa_nil)))) (pe_str)) (pe_bm PySem.F.plainAttrs_str PySem.F.slot_str_join PySem.F.type_str_join mt_join (pe_str) (pa_cons (pv 4) (pa_nil)))) (nomark _)))))
        (pss_one (ps_ret (pe_bl)))
        (pss_nil))
      (pss_cons (ps_for PassesOwn.never rfl (pi_list (pv 4)) (pg_name (i := 2) sc_law_is_told.nd rfl (.inr rfl))
        (pss_cons (ps_if (pt_cmpR (op_neD hu64) (pe_lc (own := [("_law_state", 5)]) (g := gName 5) (tt := tYes) rfl sc_law_is_told.nd (pi_range1 (by rfl) B.range (pa_cons (pv 3) (pa_nil))) (blkOk_by (own := [("_law_state", 5)]) (N := ["_law_kind", "_law_table", "_law_name", "_law_size_here", "_law_names", "_law_state", "_law_later", "_law_answer"]) (sc := defScope s_told) (by decide +kernel)) (fun _ _ _ _ _ => pg_name (i := 5) sc_law_is_told.nd rfl (.inl rfl)) (fun _ _ _ _ _ => pts_nil) (fun _ _ _ _ _ => OM_after.call hr T.cl (he := pv 0) (ha := pa_cons (pv 5) (pa_cons (pv 2) (pa_nil))))) (pe_callTy call_list_of (by rfl) B.list (by decide +kernel) (pa_cons (pe_dget hu (pv 1) (pv 2) (fun _ _ => rfl)) (pa_nil))) (nomark _))
        (pss_one (ps_ret (pe_bl)))
        (pss_nil))
      (pss_cons (ps_if (pt_cmpR (O_in.notIn hr) (pv 2) (pv 0) rfl)
        (pss_one (ps_ret (pe_bl)))
        (pss_nil))
      (pss_one (ps_if (pt_cmpR (op_neD hu64) (OM_answers.call hr T.cl (he := pv 0) (ha := pa_cons (pv 2) (pa_nil))) (pe_callTy (tupleK (K := K)) (by rfl) B.tuple (by decide +kernel) (pa_cons (pe_callB (cr_sortedSet rfl) (by rfl) B.sorted (by decide +kernel) (pa_cons (pe_callTy (cr_setL rfl) (by rfl) Bs (by decide +kernel) (pa_cons (pe_lc (own := [("_law_later", 6), ("_law_answer", 7)]) (g := gTup K 2 (gCons (gName 6) (gCons (gName 7) (gNil)))) (tt := tYes) rfl sc_law_is_told.nd (pi_tup (pe_dget hu (pv 1) (pv 2) (fun _ _ => rfl))) (blkOk_by (own := [("_law_later", 6), ("_law_answer", 7)]) (N := ["_law_kind", "_law_table", "_law_name", "_law_size_here", "_law_names", "_law_state", "_law_later", "_law_answer"]) (sc := defScope s_told) (by decide +kernel)) (fun _ _ _ _ _ => pg_tup (by rfl) (pgs_cons (pg_name (i := 6) sc_law_is_told.nd rfl (.inl rfl)) (pgs_cons (pg_name (i := 7) sc_law_is_told.nd rfl (.inl rfl)) (pgs_nil)))) (fun _ _ _ _ _ => pts_nil) (fun _ _ _ _ _ => pv 7)) (pa_nil))) (pa_nil))) (pa_nil))) (nomark _))
        (pss_one (ps_ret (pe_bl)))
        (pss_nil))))))
      (pss_one (ps_ret (pe_cmpR (op_eqD hu64) (pe_lc (own := [("_law_state", 5)]) (g := gName 5) (tt := tYes) rfl sc_law_is_told.nd (pi_range1 (by rfl) B.range (pa_cons (pv 3) (pa_nil))) (blkOk_by (own := [("_law_state", 5)]) (N := ["_law_kind", "_law_table", "_law_name", "_law_size_here", "_law_names", "_law_state", "_law_later", "_law_answer"]) (sc := defScope s_told) (by decide +kernel)) (fun _ _ _ _ _ => pg_name (i := 5) sc_law_is_told.nd rfl (.inl rfl)) (fun _ _ _ _ _ => pts_nil) (fun _ _ _ _ _ => OM_reached.call hr T.cl (he := pv 0) (ha := pa_cons (pv 5) (pa_nil)))) (pe_lc (own := [("_law_state", 5)]) (g := gName 5) (tt := tYes) rfl sc_law_is_told.nd (pi_range1 (by rfl) B.range (pa_cons (pv 3) (pa_nil))) (blkOk_by (own := [("_law_state", 5)]) (N := ["_law_kind", "_law_table", "_law_name", "_law_size_here", "_law_names", "_law_state", "_law_later", "_law_answer"]) (sc := defScope s_told) (by decide +kernel)) (fun _ _ _ _ _ => pg_name (i := 5) sc_law_is_told.nd rfl (.inl rfl)) (fun _ _ _ _ _ => pts_nil) (fun _ _ _ _ _ => O_law_states_from.call hr (ha := pa_cons (pv 1) (pa_cons (pv 5) (pa_nil))))) (nomark _))))))), ?_⟩
    obtain ⟨dd, kvs, rfl, hdd, ht, nd, ok⟩ := id hd
    obtain ⟨ak, dxk, dk, kvk, rfl, hak, hdk, htk, _, _, st⟩ := id hk
    have h12 : t.length ≤ 6 ∧ sizeT t ≤ 12 := by
      have := ok
      unfold okTab at this
      simp only [Bool.and_eq_true, decide_eq_true_eq] at this
      exact ⟨this.1.1.1.2, this.1.2⟩
    refine ⟨_, rfl, .ref dd, t, rfl, hd, _, rfl, dd, kvs, namesT t, rfl, .inl hdd, tabV_keys ht, by rw [namesT, List.length_map]; omega, fun ys pn pm hys hpn => ⟨_, _, rfl, ?_⟩⟩
    have ey := sorted_one pm hys st
    subst ey
    have e1 : Same H (upd H pn (.lst ((namesT t).map V.str))) := same_new hpn
    have hn1 : upd H pn (.lst ((namesT t).map V.str)) pn = some (.lst ((namesT t).map V.str)) := upd_same
    generalize upd H pn (.lst ((namesT t).map V.str)) = H1 at e1 hn1
    dsimp only [tSeq]
    have same_self : sameT t t = true := by
      unfold sameT
      rw [decide_eq_true rfl, Bool.true_and, List.all_eq_true]
      exact fun e he => decide_eq_true he
    refine ⟨_, rfl, ak, dxk, _, rfl, e1 _ _ hak, .ref ak, t, rfl, hk.keep e1, fun p2 kv2 hp2 ht2 => ?_⟩
    have e2 : Same H1 (upd H1 p2 (.dK kv2)) := same_new hp2
    refine ⟨_, rfl, p2, dd, kv2, kvs, t, t, rfl, rfl, upd_same, e2 _ _ (e1 _ _ hdd), ht2.mono (tups_of e2), ht.mono (tups_of (e1.trans e2)), nd, _, rfl, ?_⟩
    refine ifF (by simp [same_self]) ?_
    have hn2 := e2 _ _ hn1
    have e12 := e1.trans e2
    generalize upd H1 p2 (.dK kv2) = H2 at e12 hn2
    refine ⟨_, rfl, ak, dxk, _, rfl, e12 _ _ hak, .ref ak, t, rfl, hk.keep e12, fun p3 kv3 hp3 ht3 => ⟨p3, kv3, rfl, .inl upd_same, fun p4 hp4 => ⟨_, rfl, ?_⟩⟩⟩
    have keysT : ∀ {Hx : Hp} {kv : List (L2.Key × V)}, TabV Hx kv t → kv.map (fun kv => kV kv.1) = (namesT t).map V.str := fun {Hx kv} h => by
      have := congrArg (List.map kV) (tabV_keys h)
      rw [List.map_map, List.map_map] at this
      exact this
    have nice := nice_strs hso
    have e4 : Same H2 (upd (upd H2 p3 (.dK kv3)) p4 (.lst (kv3.map fun kv => kV kv.1))) := (same_new hp3).trans (same_new hp4)
    have hn4 := e4 _ _ hn2
    have hl4 : upd (upd H2 p3 (.dK kv3)) p4 (.lst (kv3.map fun kv => kV kv.1)) p4 = some (.lst ((namesT t).map V.str)) := by rw [upd_same, keysT ht3]
    have e14 := e12.trans e4
    generalize upd (upd H2 p3 (.dK kv3)) p4 (.lst (kv3.map fun kv => kV kv.1)) = H4 at e14 hn4 hl4
    refine ⟨.list ((namesT t).map .str), .list ((namesT t).map .str), .lst (SqL.of hl4) (dp_strs _), .lst (SqL.of hn4) (dp_strs _), nice.shaped (by decide), nice.shaped (by decide), _, rfl, ifF (by rw [nice.eqv]; rfl) ?_⟩
    refine ⟨_, rfl, ak, dxk, _, rfl, e14 _ _ hak, .ref ak, t, rfl, hk.keep e14, fun p5 hp5 => ⟨p5, _, rfl, .inr (SqT.of upd_same), fun p6 hp6 => ⟨_, rfl, ?_⟩⟩⟩
    have e6 := (same_new (o := .tup ((namesT t).map V.str)) hp5).trans (same_new (o := .lst ((namesT t).map V.str)) hp6)
    have hn6 := e6 _ _ hn4
    have hl6 : upd (upd H4 p5 (.tup ((namesT t).map V.str))) p6 (.lst ((namesT t).map V.str)) p6 = some (.lst ((namesT t).map V.str)) := upd_same
    have e16 := e14.trans e6
    generalize upd (upd H4 p5 (.tup ((namesT t).map V.str))) p6 (.lst ((namesT t).map V.str)) = H6 at e16 hn6 hl6
    refine ⟨.list ((namesT t).map .str), .list ((namesT t).map .str), .lst (SqL.of hl6) (dp_strs _), .lst (SqL.of hn6) (dp_strs _), nice.shaped (by decide), nice.shaped (by decide), _, rfl, ifF (by rw [nice.eqv]; rfl) ?_⟩
    refine ⟨_, rfl, ak, dxk, _, rfl, e16 _ _ hak, .ref ak, t, rfl, hk.keep e16, _, rfl, ?_⟩
    refine ⟨rfl, _, rfl, ifF (by simp) ?_⟩
    obtain ⟨⟨⟨⟨k1, k2⟩, k3⟩, k4⟩, k5⟩ : (((1 ≤ t.length ∧ t.length ≤ 6) ∧ 1 ≤ sizeT t) ∧ sizeT t ≤ 12) ∧ _ := by
      have hok' := ok
      unfold okTab at hok'
      simp only [Bool.and_eq_true, decide_eq_true_eq] at hok'
      exact hok'
    have hsum : ((namesT t).map (·.length)).sum ≤ 8 * (namesT t).length := sum_le8 _ fun x hx => by
      obtain ⟨e, he, rfl⟩ := List.mem_map.mp hx
      have := List.all_eq_true.mp k5 e he
      simp only [Bool.and_eq_true, okName, decide_eq_true_eq] at this
      exact this.1.1.2
    have hl : (namesT t).length = t.length := List.length_map ..
    have hj : (Txt.join " " (namesT t)).length ≤ 60 := by
      have h1 := StrLaws.join_length_le " " (namesT t)
      have h2 : ((" " : Str)).length = 1 := by decide +kernel
      rw [h2] at h1
      rw [show Txt.join " " (namesT t) = Str.join " " (namesT t) from TL.join_eq _ _]
      exact Nat.le_trans h1 (show ((namesT t).map (·.length)).sum + (namesT t).length * 1 ≤ 60 by omega)
    have hd12 := dig12 (sizeT t) (by omega)
    have l1 : ("kind of " : Str).length = 8 := by decide +kernel
    have l2 : (" states: " : Str).length = 9 := by decide +kernel
    have el : kvs.length = t.length := Paired.length ht
    have est : strT t = (("kind of " : Str) ++ (toString (sizeT t : Int) : Str)) ++ (" states: " : Str) ++ Txt.join " " (namesT t) := by
      have : (Str.empty ++ ("kind of " : Str)) = ("kind of " : Str) := by decide +kernel
      unfold strT
      rw [this]
    refine ⟨_, rfl, ak, dxk, _, rfl, e16 _ _ hak, .ref ak, t, rfl, hk.keep e16, t.length, rfl, by omega, _, rfl, dd, kvs, rfl, e16 _ _ hdd, rfl, _, rfl, ifF (by rw [el]; simp) ?_⟩
    refine ⟨_, rfl, ak, dxk, _, rfl, e16 _ _ hak, .ref ak, t, rfl, hk.keep e16, strT t, rfl, ?_⟩
    refine ⟨_, rfl, _, rfl, ?_, _, _, rfl, rfl, ?_, _, _, rfl, rfl, ?_, ⟨rfl, _, rfl, " ", pn, namesT t, rfl, rfl, .inl (SqL.of hn6), ?_, _, _, rfl, rfl, ?_, rfl, _, rfl, ifF (by rw [est]; simp) ?_⟩⟩
    · have : (sizeT t : Int).natAbs ≤ 12 := by omega
      have h3 : (sizeT t : Int).natAbs.log2 ≤ (sizeT t : Int).natAbs := Nat.log2_le_self _
      omega
    · refine sz_le ?_
      show ("kind of " : Str).length + (Str.ofString (toString (sizeT t : Int))).length ≤ 100000
      omega
    · refine sz_le ?_
      rw [Str.length_append]
      show ("kind of " : Str).length + (Str.ofString (toString (sizeT t : Int))).length + (" states: " : Str).length ≤ 100000
      omega
    · have h2 : ((" " : Str)).length = 1 := by decide +kernel
      rw [h2]
      omega
    · refine sz_le ?_
      rw [Str.length_append, Str.length_append]
      show ("kind of " : Str).length + (Str.ofString (toString (sizeT t : Int))).length + (" states: " : Str).length + (Txt.join " " (namesT t)).length ≤ 100000
      omega
    refine ⟨_, rfl, pn, rfl, ⟨_, SqL.of hn6⟩, ?_⟩
    refine for_list (K := K) (xs := (namesT t).map V.str) (fun i σ' H' => ∃ (o2 o5 o6 o7 : Option V), σ' = [some (.ref ak), some (.ref dd), o2, some (.int (sizeT t : Int)), some (.ref pn), o5, o6, o7] ∧ Same H H' ∧ H' pn = some (.lst ((namesT t).map V.str)))
      ⟨none, none, none, none, rfl, e16, hn6⟩ (fun i σ' H' _ ⟨_, _, _, _, _, _, e⟩ => SqL.of e) ?_ ?_
    · rintro i x σ' H' hx ⟨o2, o5, o6, o7, rfl, eH, hnH⟩
      obtain ⟨nm, hnm, rfl⟩ : ∃ nm, (namesT t)[i]? = some nm ∧ V.str nm = x := by
        rw [List.getElem?_map] at hx
        exact Option.map_eq_some_iff.mp hx
      have hmem : nm ∈ namesT t := List.mem_of_getElem? hnm
      obtain ⟨⟨nm2, r⟩, hm, e2⟩ := List.mem_map.mp hmem
      obtain rfl : nm = nm2 := Eq.symm e2
      have hsz : r.length = sizeT t := size_of_ok ok _ hm
      dsimp only [gName, tSeq]
      have hrow : ∀ {Hx : Hp}, Same H Hx → ∃ b rs, DGet Hx dd (.str nm) (some (.ref b)) ∧ Hx b = some (.tup rs) ∧ Paired (PairV Hx) rs r := fun {Hx} e => by
        obtain ⟨rv, hv, b, rs, rfl, hb, hrs⟩ := tab_look ht nd hm
        have hg := DGet.k (k := Sum.inr nm) (e _ _ hdd)
        rw [hv] at hg
        exact ⟨b, rs, hg, e _ _ hb, Paired.mapP hrs fun _ _ h => h.mono (tups_of e)⟩
      dsimp only [tIfS, tTest, tOp]
      refine lcR_go (n := sizeT t) (fun Q q => ⟨_, rfl, q _ _ (Same.refl _) rfl⟩) (by omega) (fun s v H1 => PairV H1 v (r.getD s (0, 0))) (by intro _; rfl) (fun z v H H' e h => h.mono e) (fun s0 H1 hs0 e1 Q q => ?_) fun pl H1 ys e1 hl hP => ?_
      · have hget : r[s0]? = some (r.getD s0 (0, 0)) := by
          rw [List.getD_eq_getElem?_getD, List.getElem?_eq_getElem (by omega)]
          rfl
        exact ⟨_, rfl, ak, dxk, _, rfl, e1 _ _ (eH _ _ hak), kf_no _ _, _, rfl, _, rfl, _, t, s0, nm, r, _, rfl, hk.keep (eH.trans e1), hm, hget, fun u hu => q _ _ (Same.refl _) hu⟩
      · have hP2 := paired_mapR (F := PairV H1) (fun s0 => r.getD s0 (0, 0)) hP
        rw [← hsz, row_range] at hP2
        obtain ⟨b, rs, hg, hb, hrs⟩ := hrow (eH.trans e1)
        refine ⟨_, rfl, _, rfl, dd, _, rfl, hg, b, rs, rfl, .inr (SqT.of hb), fun l hl2 => ?_⟩
        have e2 : Same H1 (upd H1 l (.lst rs)) := same_new hl2
        have nr := nice_pairs r
        refine ⟨.list (r.map pD), .list (r.map pD), dp_rowL (SqL.of (e2 _ _ hl)) (Paired.mapP hP2 fun _ _ h => h.mono (tups_of e2)), dp_rowL (SqL.of upd_same) (Paired.mapP hrs fun _ _ h => h.mono (tups_of e2)), nr.shaped (by decide), nr.shaped (by decide), _, rfl, ifF (by rw [nr.eqv]; rfl) ?_⟩
        have e3 := (eH.trans e1).trans e2
        have hn3 := e2 _ _ (e1 _ _ hnH)
        generalize upd H1 l (.lst rs) = H3 at e3 hn3
        refine ⟨_, rfl, _, rfl, ak, dxk, _, rfl, e3 _ _ hak, .ref ak, t, nm, rfl, hk.keep e3, _, rfl, _, rfl, ifF (by simp [hmem]) ?_⟩
        refine ⟨_, rfl, ak, dxk, _, rfl, e3 _ _ hak, kf_no _ _, _, rfl, _, t, nm, r, rfl, hk.keep e3, hm, fun pa H4 ns e4 hpa hpw hns => ?_⟩
        obtain ⟨b, rs, hg, hb, hrs⟩ := hrow (e3.trans e4)
        dsimp only [tCB, tCons, tNil]
        refine lc_pairs (rs := rs) (r := r) (fun Q q => ⟨_, rfl, _, rfl, dd, _, rfl, hg, q _ _ (Same.refl _) ⟨b, rfl, SqT.of hb⟩⟩) hrs (by omega) (by intro _ _; rfl) (fun z v _ => v = .int z.2) (fun _ _ _ _ _ h => h) (fun z H3 _ _ => ev_is rfl rfl) fun p H5 ys e5 hl hP => ?_
        obtain rfl : ys = (r.map (·.2)).map V.int := by rw [paired_fun hP, List.map_map]; rfl
        refine ⟨p, r.map (·.2), rfl, SqL.of hl, by rw [List.length_map]; omega, fun ps c hps hc => ?_⟩
        rw [List.length_map] at hc
        refine ⟨ps, _, c, rfl, upd_same, by omega, fun ns2 l hpw2 hm2 hl2 hl' => ⟨l, _, rfl, .inl ⟨SqL.of upd_same, fun l2 hl3 => ?_⟩⟩⟩
        obtain rfl : ns2 = ns := rise_one hpw2 hpw fun k => by
          rw [hm2, hns]
          exact decide_eq_true_iff
        have e6 := ((same_new hps).trans (same_new hl')).trans (same_new (o := .tup (ns2.map V.int)) hl3)
        have ni := nice_ints ns2
        refine ⟨.tuple (ns2.map .int), .tuple (ns2.map .int), .tup (SqT.of (e6 _ _ (e5 _ _ hpa))) (dp_ints _), .tup (SqT.of upd_same) (dp_ints _), ni.shaped (by decide), ni.shaped (by decide), _, rfl, ifF (by rw [ni.eqv]; rfl) ?_⟩
        exact ⟨_, _, _, _, rfl, (e3.trans e4).trans (e5.trans e6), e6 _ _ (e5 _ _ (e4 _ _ hn3))⟩
    · rintro σ' H' ⟨o2, o5, o6, o7, rfl, eH, hnH⟩
      dsimp only [tRet, tOp]
      let W : Nat → List Int := fun s0 => iN (walkN t s0 (sizeT t))
      let R : Nat → V → Hp → Prop := fun s0 v H1 => ∃ a, v = .ref a ∧ H1 a = some (.tup ((W s0).map V.int))
      have hR : ∀ z v H H', TupS H H' → R z v H → R z v H' := fun z v H H' e ⟨a, h1, h2⟩ => ⟨a, h1, e _ _ h2⟩
      have nt := nice_tups ((List.range (sizeT t)).map W)
      have dp : ∀ {Hx : Hp} {p : Addr} {ys : List V}, Hx p = some (.lst ys) → Paired (fun v z => R z v Hx) ys (List.range (sizeT t)) → Dp K Hx (.ref p) (.list (((List.range (sizeT t)).map W).map fun l => .tuple (l.map .int))) := fun {Hx p ys} h hP =>
        .lst (SqL.of h) (dp_tups (paired_mapR (F := fun v l => ∃ a, v = .ref a ∧ SqT K Hx a (l.map V.int)) W (Paired.mapP hP fun _ _ ⟨a, h1, h2⟩ => ⟨a, h1, SqT.of h2⟩)))
      refine lcR_go (n := sizeT t) (fun Q q => ⟨_, rfl, q _ _ (Same.refl _) rfl⟩) (by omega) R (by intro _; rfl) hR (fun s0 H1 hs0 e1 Q q => ?_) fun pl H1 ys e1 hl hP => ?_
      · obtain ⟨out, hrun, hlt, hone⟩ := reach_is hre hs0
        refine ⟨_, rfl, ak, dxk, _, rfl, e1 _ _ (eH _ _ hak), kf_no _ _, _, rfl, _, t, s0, out, rfl, hk.keep (eH.trans e1), hs0, hrun, hlt, fun p H2 ns e2 hp pm up => ?_⟩
        obtain rfl := hone ns pm up
        exact q _ _ e2 ⟨p, rfl, hp⟩
      · refine lcR_go (n := sizeT t) (fun Q q => ⟨_, rfl, q _ _ (Same.refl _) rfl⟩) (by omega) R (by intro _; rfl) hR (fun s0 H2 hs0 e2 Q q => ?_) fun pm H2 zs e2 hl2 hP2 => ?_
        · have e3 := eH.trans (e1.trans e2)
          refine ⟨_, rfl, _, rfl, _, t, s0, rfl, ⟨dd, kvs, rfl, e3 _ _ hdd, ht.mono (tups_of e3), nd, ok⟩, st, hs0, fun p H3 e4 hp => q _ _ e4 ⟨p, rfl, ?_⟩⟩
          rw [hp, natV_iN]
        · refine ⟨_, _, dp (e2 _ _ hl) (Paired.mapP hP fun _ _ h => hR _ _ _ _ (tups_of e2) h), dp hl2 hP2, nt.shaped (by decide), nt.shaped (by decide), ?_⟩
          rw [nt.eqv]
          exact q _ (eH.trans (e1.trans e2))
end
end Tm

/-! The law itself. -/
namespace Tm
open PySem PySem.Spec PyProof.Rows L2
local macro_rules | `(tactic| walk_at "x") => `(tactic| dsimp only [tNext, tRet, tSeq, tCall, tCB, tC, tCons, tNil, tAsg, tDrop, sFld])
theorem lc_none {K : PySem.W.Frag} {C p : Addr} {σ : L2.St} {H : Hp} {Q : VK} {j k : Nat} {tt : TT} {te : TE} {vs : List Nat} {tl : TE} {xs : List V} {zs : List Tab}
    (hl : Ev tl σ H fun v _ => v = .ref p) (hp : H p = some (.lst xs)) (hP : Paired (EntK C H) xs zs) (few : zs.length ≤ 100000)
    (hw : ∀ x y, wipe (((wipe σ vs).set j (some x)).set k (some y)) vs = wipe σ vs)
    (ht : ∀ t u d H3, t ∈ zs → Same H H3 → KindV C H3 u t → DictV H3 d t → EvT tt (((wipe σ vs).set j (some u)).set k (some d)) H3 false)
    (hq : ∀ p H1, Same H H1 → H1 p = some (.lst []) → Q (.ref p) H1) : tLc (iList K tl) (gTup K 2 (gCons (gName j) (gCons (gName k) gNil))) tt te vs σ H Q := by
  refine hl _ fun v H1 e ev => ?_
  subst ev
  have hlen := Paired.length hP
  refine ⟨p, rfl, ⟨xs, SqL.of (e _ _ hp)⟩, lc_go (Q := Q) (walk_list) zs (fun _ => false) (fun _ _ _ => True) hlen.symm (by omega) (fun _ _ _ _ _ _ => trivial) (fun H2 e2 => SqL.of (e2 _ _ (e _ _ hp))) (fun i z x H2 H' hz e2 y Qg qg => ?_) (fun p2 H2 ys hp2 e2 hl hP2 => ?_)⟩
  · obtain ⟨rfl, y⟩ := y
    obtain ⟨z', hz', hpz⟩ := paired_ix2 hP y
    obtain rfl : z' = z := by rw [hz] at hz'; exact (Option.some.inj hz').symm
    obtain ⟨pc, u, d, rfl, hpc, hu, hd⟩ := hpz.keep (e.trans e2)
    refine ⟨pc, _, rfl, SqT.of hpc, rfl, _, _, rfl, ?_⟩
    dsimp only [gName]
    refine ⟨_, _, rfl, ?_⟩
    dsimp only [gName]
    refine ⟨rfl, ?_⟩
    exact qg _ _ (hw _ _) (Same.refl _) (ht _ _ _ _ (List.mem_of_getElem? hz) (e.trans e2) hu hd) fun z => by cases z
  · have e0 : ys = [] := by
      rw [show zs.filter (fun _ => false) = [] from List.filter_eq_nil_iff.mpr fun _ _ z => by cases z] at hP2
      cases hP2
      rfl
    subst e0
    exact hq _ _ (e.trans e2) hl
theorem dp_nil {K : PySem.W.Frag} {H : Hp} {p : Addr} (h : H p = some (.lst [])) : Dp K H (.ref p) (.list []) := .lst (SqL.of h) .nil
theorem same_self (t : Tab) : sameT t t = true := by
  unfold sameT
  rw [decide_eq_true rfl, Bool.true_and, List.all_eq_true]
  exact fun e he => decide_eq_true he
theorem same_perm {t u : Tab} (p : t.Perm u) : sameT u t = true := by
  unfold sameT
  rw [decide_eq_true p.length_eq.symm, Bool.true_and, List.all_eq_true]
  exact fun e he => decide_eq_true (p.mem_iff.mpr he)
theorem same_seqL {K : PySem.W.Frag} {H H' : Hp} {a : Addr} {xs : List V} (e : Same H H') (h : SqL K H a xs) : SqL K H' a xs := by
  rcases h with (h | ⟨o, h⟩) | h
  · exact .inl (.inl (e _ _ h))
  · exact .inl (.inr ⟨o, e _ _ h⟩)
  · exact .inr h
theorem paired_mem {α β : Type} {F : α → β → Prop} : ∀ {xs : List α} {zs : List β}, Paired F xs zs → ∀ x ∈ xs, ∃ z ∈ zs, F x z
  | _, _, .nil, _, h => nomatch h
  | _, _, .cons h t, x, hx => by
    rcases List.mem_cons.mp hx with e | e
    · exact ⟨_, List.mem_cons_self, e ▸ h⟩
    · obtain ⟨z, hz, f⟩ := paired_mem t x e
      exact ⟨z, List.mem_cons_of_mem _ hz, f⟩
theorem same_kl {l : Addr} {H0 H2 H3 : Hp} (e : Same H0 H2) (hl : H0 l = none) (k : KL l H2 H3) : Same H0 H3 := fun b o hb => k.1 b o (e b o hb) fun z => by rw [z, hl] at hb; cases hb
theorem VatV.keep {H H' : Hp} {l : Addr} (h : VatV H l) (e : Same H H') : VatV H' l := by
  obtain ⟨x, y, z, h⟩ := h
  exact ⟨x, y, z, e _ _ h⟩
def endD (g : Nat × List Int) : PyData := .list [.int (g.1 : Int), .list (g.2.map .int)]
theorem dp_end {K : PySem.W.Frag} {H : Hp} {v : V} {g : Nat × List Int} (h : EndV H v g) : Dp K H v (endD g) := by
  obtain ⟨p, l, rfl, hp, hl⟩ := h
  exact .lst (SqL.of hp) (.cons (.int _) (.cons (.lst (SqL.of hl) (dp_ints _)) .nil))
theorem nice_up {n m : Nat} {d : PyData} (h : Nice n d) (e : n ≤ m) : Nice m d := ⟨h.can, Nat.le_trans h.deep e, h.eqv⟩
theorem nice_end (g : Nat × List Int) : Nice 2 (endD g) := .list fun d hd => by
  rcases List.mem_cons.mp hd with e | e
  · rw [e]; exact nice_up (nice_int _) (by decide)
  · rw [List.mem_singleton.mp e]
    exact .list fun d hd => by
      obtain ⟨x, _, rfl⟩ := List.mem_map.mp hd
      exact nice_int x
theorem EndV.keep {H H' : Hp} {v : V} {g : Nat × List Int} (h : EndV H v g) (e : Same H H') : EndV H' v g := by
  obtain ⟨p, l, e1, hp, hl⟩ := h
  exact ⟨p, l, e1, e _ _ hp, e _ _ hl⟩
section
variable {σ : L2.St} {H : Hp} {C : Addr} {te te1 te2 : TE} {t t1 t2 : Tab} {E : XK}
theorem ev_made {n lo hi : Nat} {T : Nat → Tab} (h : lo ≤ n ∧ n ≤ hi) (good : goodT (T n)) : Ev (tCall (sp_made C lo hi T) [] E (tCons (tC (.int (n : Int))) tNil)) σ H fun v H1 => KindV C H1 v (T n) := fun Q q => by
  refine ⟨n, rfl, h.1, h.2, fun k H1 t' e1 hk pm => ?_⟩
  have et : t' = T n := by
    obtain ⟨_, _, _, _, _, _, _, _, _, _, st⟩ := id hk
    exact tab_same pm st good.1 good.2
  subst et
  exact q _ _ e1 hk
theorem ev_flag : Ev (tCall (sp_flag C) [] E tNil) σ H fun v H1 => KindV C H1 v flagT := fun Q q => by
  refine ⟨rfl, fun k H1 t' e1 hk pm => ?_⟩
  have et : t' = flagT := by
    obtain ⟨_, _, _, _, _, _, _, _, _, _, st⟩ := id hk
    exact tab_same pm st g_five.2.2.1 g_five.2.2.2
  subst et
  exact q _ _ e1 hk
theorem ev_eqK {neg : Bool} (h1 : Ev te1 σ H fun v H1 => KindV C H1 v t1) (h2 : ∀ H1, Same H H1 → Ev te2 σ H1 fun v H2 => KindV C H2 v t2) : Ev (tOp (rEqO C (sp_keq C) neg) te1 te2) σ H fun v _ => v = .bl (if neg then !sameT t1 t2 else sameT t1 t2) := fun Q q =>
  h1 _ fun v1 H1 e1 k1 => h2 H1 e1 _ fun v2 H2 e2 k2 => by
    have k1' := k1.keep e2
    obtain ⟨a, dx, d, kvs, rfl, ha, _⟩ := id k1'
    obtain ⟨b, dy, d2, kvs2, rfl, hb, _⟩ := id k2
    exact ⟨a, b, dx, dy, _, _, rfl, rfl, ha, hb, _, _, _, _, rfl, k1', k2, _, rfl, q _ _ (e1.trans e2) rfl⟩
theorem ev_opsrow {x : Str} {r : Row} (h : Ev te σ H fun v H1 => KindV C H1 v t) (hm : (x, r) ∈ t) (nd : (namesT t).Nodup) : Ev (tDGet (tProp C (sp_ops C) [] E te) (tC (.str x))) σ H fun v H1 => RowV H1 v r := fun Q q =>
  h _ fun v H1 e1 k1 => by
    obtain ⟨a, dx, d, kvs, rfl, ha, _⟩ := id k1
    refine ⟨a, dx, _, rfl, ha, .ref a, t, rfl, k1, fun p kv hp ht => ?_⟩
    have e2 := same_new (o := .dK kv) hp
    obtain ⟨rv, hv, hrow⟩ := tab_look ht nd hm
    have hg := DGet.k (k := Sum.inr x) (upd_same (H := H1) (a := p) (o := .dK kv))
    rw [hv] at hg
    exact ⟨p, rv, rfl, hg, q _ _ (e1.trans e2) (hrow.mono (tups_of e2))⟩
theorem ev_names (h : Ev te σ H fun v H1 => KindV C H1 v t) : Ev (tProp C (sp_names C) [] E te) σ H fun v H1 => ∃ p, v = .ref p ∧ H1 p = some (.tup ((namesT t).map V.str)) := fun Q q =>
  h _ fun v H1 e1 k1 => by
    obtain ⟨a, dx, d, kvs, rfl, ha, _⟩ := id k1
    exact ⟨a, dx, _, rfl, ha, .ref a, t, rfl, k1, fun p hp => q _ _ (e1.trans (same_new hp)) ⟨p, rfl, upd_same⟩⟩
theorem ev_after {s : Nat} {x : Str} {r : Row} {p : Int × Int} (h : Ev te σ H fun v H1 => KindV C H1 v t) (hm : (x, r) ∈ t) (hr : r[s]? = some p) : Ev (tMeth C "after" (sp_after C) [] E te (tCons (tC (.int (s : Int))) (tCons (tC (.str x)) tNil))) σ H fun v H1 => PairV H1 v p := fun Q q =>
  h _ fun v H1 e1 k1 => by
    obtain ⟨a, dx, d, kvs, rfl, ha, _⟩ := id k1
    exact ⟨a, dx, _, rfl, ha, kf_no _ _, _, t, s, x, r, p, rfl, k1, hm, hr, fun u hu => q _ _ e1 hu⟩
end
def setbR : Row := [(3, 0), (2, 0), (5, 0), (4, 0), (5, 0), (5, 0)]
theorem setb_in : (("setb" : Str), setbR) ∈ fadeT 2 := by decide +kernel
def rowOf (t : Tab) (x : Str) : Row := ((t.find? fun e => decide (e.1 = x)).map (·.2)).getD []
theorem leave_in : (("leave" : Str), rowOf (queueT 2) "leave") ∈ queueT 2 ∧ (rowOf (queueT 2) "leave")[3]? = some (1, 1) := by decide +kernel
theorem joina_in : (("joina" : Str), rowOf (queueT 2) "joina") ∈ queueT 2 ∧ (rowOf (queueT 2) "joina")[6]? = some (6, 0) := by decide +kernel
theorem setc_in : (("setc" : Str), rowOf (slotT 3) "setc") ∈ slotT 3 ∧ (rowOf (slotT 3) "setc")[2]? = some (2, 2) := by decide +kernel
def jjl : List Str := ["joina", "joinb", "leave"]
theorem names_q1 : namesT (queueT 1) = jjl := by decide +kernel
def dueD : PyData := .list [rD setbR, .tuple (jjl.map .str), pD (1, 1)]
theorem due_ok : SeqAt.shaped dueD = true ∧ PyData.eqv dueD dueD = true := by decide +kernel
theorem pair_ok : ∀ p : Int × Int, SeqAt.shaped (pD p) = true ∧ PyData.eqv (pD p) (pD p) = true := fun p => ⟨rfl, by rw [eqv_pD]; exact decide_eq_true rfl⟩
def tPairs : Row → TA := fun r => r.foldr (fun p t => tCons (tTup (tCons (tC (.int p.1)) (tCons (tC (.int p.2)) tNil))) t) tNil
theorem eva_pairs {σ : L2.St} : ∀ (r : Row) {H : Hp}, EvA (tPairs r) σ H fun vs H1 => Paired (PairV H1) vs r
  | [], H => fun Q q => q [] H (Same.refl _) .nil
  | p :: r, H => fun Q q => ev_pair (σ := σ) (H := H) (ta := tC (.int p.1)) (tb := tC (.int p.2)) (ev_c rfl) (fun _ _ => ev_c rfl) _ fun v H1 e1 h1 => eva_pairs r _ fun vs H2 e2 h2 => q (v :: vs) H2 (e1.trans e2) (.cons (h1.mono (tups_of e2)) h2)
theorem ev_rowC {σ : L2.St} {H : Hp} (r : Row) (hr : r.length ≤ 100) : Ev (tTup (tPairs r)) σ H fun v H1 => RowV H1 v r := fun Q q =>
  eva_pairs r _ fun vs H1 e h => ⟨by rw [Paired.length h]; exact sz_le (by omega), fun p hp => q _ _ (e.trans (same_new hp)) ⟨p, vs, rfl, upd_same, Paired.mapP h fun _ _ k => k.mono (tups_of (same_new hp))⟩⟩
theorem ev_three {σ : L2.St} {H : Hp} {te1 te2 te3 : TE} {r : Row} {ns : List Str} {pr : Int × Int} (h1 : Ev te1 σ H fun v H1 => RowV H1 v r) (h2 : ∀ H1, Same H H1 → Ev te2 σ H1 fun v H2 => ∃ p, v = .ref p ∧ H2 p = some (.tup (ns.map V.str)))
    (h3 : ∀ H1, Same H H1 → Ev te3 σ H1 fun v H2 => PairV H2 v pr) : Ev (tLst (tCons te1 (tCons te2 (tCons te3 tNil)))) σ H fun v H' => ∃ p a b c, v = .ref p ∧ H' p = some (.lst [a, .ref b, c]) ∧ RowV H' a r ∧ H' b = some (.tup (ns.map V.str)) ∧ PairV H' c pr := fun Q q =>
  h1 _ fun a H1 e1 k1 => h2 H1 e1 _ fun v H2 e2 k2 => h3 H2 (e1.trans e2) _ fun c H3 e3 k3 => by
    obtain ⟨b, rfl, hb⟩ := k2
    refine ⟨by show 3 ≤ sizeLine; decide, fun p hp => ?_⟩
    have e4 := same_new (o := .lst [a, .ref b, c]) hp
    exact q _ _ (e1.trans (e2.trans (e3.trans e4))) ⟨p, a, b, c, rfl, upd_same, k1.mono (tups_of (e2.trans (e3.trans e4))), e4 _ _ (e3 _ _ hb), k3.mono (tups_of e4)⟩
theorem dp_due {K : PySem.W.Frag} {H : Hp} {p : Addr} {a c : V} {b : Addr} (hp : H p = some (.lst [a, .ref b, c])) (h1 : RowV H a setbR) (h2 : H b = some (.tup (jjl.map V.str))) (h3 : PairV H c (1, 1)) : Dp K H (.ref p) dueD :=
  .lst (SqL.of hp) (.cons (dp_row h1) (.cons (.tup (SqT.of h2) (dp_strs jjl)) (.cons (dp_pair h3) .nil)))
def tPC (x y : Int) : TE := tTup (tCons (tC (.int x)) (tCons (tC (.int y)) tNil))
theorem ev_due {σ : L2.St} {H : Hp} : Ev (tLst (tCons (tTup (tCons (tTup (tCons (tC (.int 3)) (tCons (tC (.int 0)) tNil))) (tCons (tTup (tCons (tC (.int 2)) (tCons (tC (.int 0)) tNil))) (tCons (tTup (tCons (tC (.int 5)) (tCons (tC (.int 0)) tNil))) (tCons (tTup (tCons (tC (.int 4)) (tCons (tC (.int 0)) tNil))) (tCons (tTup (tCons (tC (.int 5)) (tCons (tC (.int 0)) tNil))) (tCons (tTup (tCons (tC (.int 5)) (tCons (tC (.int 0)) tNil))) tNil)))))))
    (tCons (tTup (tCons (tC (.str "joina")) (tCons (tC (.str "joinb")) (tCons (tC (.str "leave")) tNil)))) (tCons (tTup (tCons (tC (.int 1)) (tCons (tC (.int 1)) tNil))) tNil)))) σ H fun v H' => ∃ p a b c, v = .ref p ∧ H' p = some (.lst [a, .ref b, c]) ∧ RowV H' a setbR ∧ H' b = some (.tup (jjl.map V.str)) ∧ PairV H' c (1, 1) :=
  ev_three (te1 := tTup (tPairs setbR)) (ev_rowC setbR (by decide)) (fun H1 _ Q q => ⟨by show 3 ≤ sizeLine; decide, fun p hp => q _ _ (same_new hp) ⟨p, rfl, upd_same⟩⟩) (fun _ _ => ev_pair (ev_c rfl) fun _ _ => ev_c rfl)
section
variable {P : Program} {w : World} {K : PySem.W.Frag} {mg : Str → Option Value} {base : Heap} {C : Addr}
abbrev s_law : Stmt := top 51
theorem sc_law : FnScope ["_law_script", "_law_rows_here", "_law_at", "_law_told", "_law_due", "_law_vat_here", "_law_turn", "_law_row", "_law_kind", "_law_table", "_law_state", "_law_names", "_law_again"] ["_law_script"] (defScope s_law) := ⟨rfl, rfl, rfl, by decide +kernel, rfl, by decide +kernel, by decide +kernel⟩
def sp_law (K : PySem.W.Frag) : Sp := fun vs H Q _ => ∃ (a : Addr) (xs : List Int), vs = [.ref a] ∧ SqL K H a (xs.map V.int) ∧ xs.length ≤ 63 ∧ ∀ H', Q (.bl true) H'
theorem fn_law {f : Addr} {fd : FuncData} (B : Bt mg) (T : Kc K C) (EQ : EqM K C)
    (O_law_rows : Ok P w K mg base "_law_rows" 9 [] (sp_rows C)) (O_law_is_told : Ok P w K mg base "_law_is_told" 9 ["_law_kind", "_law_table"] (sp_told C)) (O_law_vat : Ok P w K mg base "_law_vat" 1 ["_law_script", "_law_at"] (sp_vat K)) (O_law_draw : Ok P w K mg base "_law_draw" 1 ["_law_vat_here", "_law_total"] sp_draw) (O_law_choice : Ok P w K mg base "_law_choice" 2 ["_law_vat_here", "_law_items"] sp_pick)
    (O_law_size : Ok P w K mg base "_law_size" 2 ["_law_table"] sp_lsize) (O_law_done : Ok P w K mg base "_law_done" 4 ["_law_kind", "_law_state", "_law_names"] (sp_done C)) (O_law_gone : Ok P w K mg base "_law_gone" 2 ["_law_table", "_law_state", "_law_names"] sp_gone)
    (OP_operations : OkP P w K mg base C "operations" 1 (sp_ops C)) (OP_names : OkP P w K mg base C "names" 1 (sp_names C)) (OS_eq : OkS P w K mg base C "__eq__" 1 ["self", "other"] (sp_keq C)) (OC_Kind : OkC P w K mg base "Kind" C 5 ["self", "operations"] (sp_init C)) (OM_after : OkM P w K mg base C "after" 3 ["self", "state", "name"] (sp_after C))
    (O_flag_kind : Ok P w K mg base "flag_kind" 7 [] (sp_flag C)) (O_cell_kind : Ok P w K mg base "cell_kind" 8 ["many"] (sp_made C 1 6 cellT)) (O_slot_kind : Ok P w K mg base "slot_kind" 8 ["many"] (sp_made C 1 6 slotT)) (O_fading_kind : Ok P w K mg base "fading_kind" 8 ["many"] (sp_made C 1 5 fadeT)) (O_queue_kind : Ok P w K mg base "queue_kind" 8 ["many"] (sp_made C 1 2 queueT))
    (F : Fun K "law" "law" s_law f fd) : FnOk P w K mg base CX0 10 f fd ["_law_script"] (sp_law K) := by
  refine F.ok sc_law (fun vs H Q E h => ?_) (fun cdv A outer s H vs Q E hr h => ?_)
  · obtain ⟨a, xs, rfl, _⟩ := h
    rfl
  · obtain ⟨a, xs, rfl, hs, hlen, q⟩ := h
    have hu := hu_of hr
    have hu65 : (A.deeper (envOfC "law" (defScope s_law) s.heap.objs.size f cdv)).units + 65 < cLine := by
      have := hr.un
      omega
    have hu64 : (A.deeper (envOfC "law" (defScope s_law) s.heap.objs.size f cdv)).units + 64 < cLine := by omega
    refine ⟨_, pss_cons (ps_set (i := 1) sc_law.nd rfl (.inl rfl) (O_law_rows.call0 hr))
      (pss_cons (ps_if (pt_cmpR (op_neD hu64) (pe_lc (own := [("_law_kind", 8), ("_law_table", 9)]) (g := gTup K 2 (gCons (gName 8) (gCons (gName 9) (gNil)))) (tt := _) rfl sc_law.nd (pi_list (pv 1)) (blkOk_by (own := [("_law_kind", 8), ("_law_table", 9)]) (N := ["_law_script", "_law_rows_here", "_law_at", "_law_told", "_law_due", "_law_vat_here", "_law_turn", "_law_row", "_law_kind", "_law_table", "_law_state", "_law_names", "_law_again"]) (sc := defScope s_law) (by decide +kernel)) (fun _ _ _ _ _ => pg_tup (by rfl) (pgs_cons (pg_name (i := 8) sc_law.nd rfl (.inl rfl)) (pgs_cons (pg_name (i := 9) sc_law.nd rfl (.inl rfl)) (pgs_nil)))) (fun _ _ _ _ _ => pts_one (PW.pt (pw_or (pt_cmpR (op_neTab hu65) (OP_operations.get hr T.cl (he := pv 8)) (pv 9) (nomark _)) (pw_or1 (pt_cmpR (op_neO OS_eq EQ (hr.mono (by decide))) (pv 8) (OC_Kind.make hr (ha := pa_cons (pv 9) (pa_nil))) (nomark _)))))) (fun _ _ _ _ _ => pv 8)) (pe_lst (pa_nil)) (nomark _))
        (pss_one (ps_ret (pe_bl)))
        (pss_nil))
      (pss_cons (ps_if (pt_cmpR (op_neD hu64) (pe_lc (own := [("_law_kind", 8), ("_law_table", 9)]) (g := gTup K 2 (gCons (gName 8) (gCons (gName 9) (gNil)))) (tt := _) rfl sc_law.nd (pi_list (pv 1)) (blkOk_by (own := [("_law_kind", 8), ("_law_table", 9)]) (N := ["_law_script", "_law_rows_here", "_law_at", "_law_told", "_law_due", "_law_vat_here", "_law_turn", "_law_row", "_law_kind", "_law_table", "_law_state", "_law_names", "_law_again"]) (sc := defScope s_law) (by decide +kernel)) (fun _ _ _ _ _ => pg_tup (by rfl) (pgs_cons (pg_name (i := 8) sc_law.nd rfl (.inl rfl)) (pgs_cons (pg_name (i := 9) sc_law.nd rfl (.inl rfl)) (pgs_nil)))) (fun _ _ _ _ _ => pts_one (pt_not (pt_val (O_law_is_told.call hr (ha := pa_cons (pv 8) (pa_cons (pv 9) (pa_nil))))))) (fun _ _ _ _ _ => pv 8)) (pe_lst (pa_nil)) (nomark _))
        (pss_one (ps_ret (pe_bl)))
        (pss_nil))
      (pss_cons (ps_for PassesOwn.never rfl (pi_range1 (by rfl) B.range (pa_cons (pe_callB (call_max2 rfl) (by rfl) B.max (by decide +kernel) (pa_cons (pe_int) (pa_cons (pe_callB (call_min2 rfl) (by rfl) B.min (by decide +kernel) (pa_cons (pe_int) (pa_cons (pe_callB (lenK (K := K)) (by rfl) B.len (by decide +kernel) (pa_cons (pv 0) (pa_nil))) (pa_nil)))) (pa_nil)))) (pa_nil))) (pg_name (i := 2) sc_law.nd rfl (.inl rfl))
        (pss_cons (ps_set (i := 5) sc_law.nd rfl (.inr rfl) (O_law_vat.call hr (ha := pa_cons (pv 0) (pa_cons (pv 2) (pa_nil)))))
      (pss_cons (ps_for PassesOwn.never rfl (pi_range1 (by rfl) B.range (pa_cons (pe_int) (pa_nil))) (pg_name (i := 6) sc_law.nd rfl (.inl rfl))
        (pss_cons (ps_asg (O_law_choice.call hr (ha := pa_cons (pv 5) (pa_cons (pv 1) (pa_nil)))) (pg_tup (by rfl) (pgs_cons (pg_name (i := 8) sc_law.nd rfl (.inl rfl)) (pgs_cons (pg_name (i := 9) sc_law.nd rfl (.inl rfl)) (pgs_nil)))))
      (pss_cons (ps_asg (pe_tup (pa_cons (O_law_draw.call hr (ha := pa_cons (pv 5) (pa_cons (O_law_size.call hr (ha := pa_cons (pv 9) (pa_nil))) (pa_nil)))) (pa_cons (pe_callB (call_sortedD rfl) (by rfl) B.sorted (by decide +kernel) (pa_cons (pv 9) (pa_nil))) (pa_nil)))) (pg_tup (by rfl) (pgs_cons (pg_name (i := 10) sc_law.nd rfl (.inl rfl)) (pgs_cons (pg_name (i := 11) sc_law.nd rfl (.inr rfl)) (pgs_nil)))))
      (pss_cons (ps_setLc (i := 7) (own := [("_law_again", 12)]) (g := gName 12) (tt := tYes) rfl sc_law.nd rfl rfl (sw_true rfl rfl rfl (by decide +kernel)) (pi_range1 (by rfl) B.range (pa_cons (O_law_draw.call hr (ha := pa_cons (pv 5) (pa_cons (pe_int) (pa_nil)))) (pa_nil))) (blkOk_by (own := [("_law_again", 12)]) (N := ["_law_script", "_law_rows_here", "_law_at", "_law_told", "_law_due", "_law_vat_here", "_law_turn", "_law_row", "_law_kind", "_law_table", "_law_state", "_law_names", "_law_again"]) (sc := defScope s_law) (by decide +kernel)) (fun _ _ _ _ _ => pg_name (i := 12) sc_law.nd rfl (.inl rfl)) (fun _ _ _ _ _ => pts_nil) (fun _ _ _ _ _ => O_law_choice.call hr (ha := pa_cons (pv 5) (pa_cons (pv 11) (pa_nil)))))
      (pss_one (ps_if (pt_cmpR (op_neD hu64) (O_law_done.call hr (ha := pa_cons (pv 8) (pa_cons (pv 10) (pa_cons (pv 7) (pa_nil))))) (O_law_gone.call hr (ha := pa_cons (pv 9) (pa_cons (pv 10) (pa_cons (pv 7) (pa_nil))))) (nomark _))
        (pss_one (ps_ret (pe_bl)))
        (pss_nil)))))))
      (pss_one (ps_if (PW.pt (pw_or (pt_cmpR (op_neO OS_eq EQ (hr.mono (by decide))) (O_flag_kind.call0 hr) (O_flag_kind.call0 hr) (nomark _)) (pw_or (pt_cmpR (op_neO OS_eq EQ (hr.mono (by decide))) (O_queue_kind.call hr (ha := pa_cons (pe_int) (pa_nil))) (O_queue_kind.call hr (ha := pa_cons (pe_int) (pa_nil))) (nomark _)) (pw_or1 (pt_cmpR (op_eqO OS_eq (hr.mono (by decide))) (O_cell_kind.call hr (ha := pa_cons (pe_int) (pa_nil))) (O_cell_kind.call hr (ha := pa_cons (pe_int) (pa_nil))) (nomark _))))))
        (pss_one (ps_ret (pe_bl)))
        (pss_nil))))))
      (pss_cons (ps_set (i := 3) sc_law.nd rfl (.inl rfl) (pe_lst (pa_cons (pe_dget hu (OP_operations.get hr T.cl (he := O_fading_kind.call hr (ha := pa_cons (pe_int) (pa_nil)))) (pe_str) (fun _ _ => rfl)) (pa_cons (OP_names.get hr T.cl (he := O_queue_kind.call hr (ha := pa_cons (pe_int) (pa_nil)))) (pa_cons (OM_after.call hr T.cl (he := O_queue_kind.call hr (ha := pa_cons (pe_int) (pa_nil))) (ha := pa_cons (pe_int) (pa_cons (pe_str) (pa_nil)))) (pa_nil))))))
      (pss_cons (ps_set (i := 4) sc_law.nd rfl (.inl rfl) (pe_lst (pa_cons (pe_tup (pa_cons (pe_tup (pa_cons (pe_int) (pa_cons (pe_int) (pa_nil)))) (pa_cons (pe_tup (pa_cons (pe_int) (pa_cons (pe_int) (pa_nil)))) (pa_cons (pe_tup (pa_cons (pe_int) (pa_cons (pe_int) (pa_nil)))) (pa_cons (pe_tup (pa_cons (pe_int) (pa_cons (pe_int) (pa_nil)))) (pa_cons (pe_tup (pa_cons (pe_int) (pa_cons (pe_int) (pa_nil)))) (pa_cons (pe_tup (pa_cons (pe_int) (pa_cons (pe_int) (pa_nil)))) (pa_nil)))))))) (pa_cons (pe_tup (pa_cons (pe_str) (pa_cons (pe_str) (pa_cons (pe_str) (pa_nil))))) (pa_cons (pe_tup (pa_cons (pe_int) (pa_cons (pe_int) (pa_nil)))) (pa_nil))))))
      (pss_one (ps_ret (pe_and (pe_cmpR (op_eqD hu64) (pv 3) (pv 4) (nomark _)) (pe_and (pe_cmpR (op_eqD hu64) (OM_after.call hr T.cl (he := O_queue_kind.call hr (ha := pa_cons (pe_int) (pa_nil))) (ha := pa_cons (pe_int) (pa_cons (pe_str) (pa_nil)))) (pe_tup (pa_cons (pe_int) (pa_cons (pe_int) (pa_nil)))) (nomark _)) (pe_one (pe_cmpR (op_eqD hu64) (OM_after.call hr T.cl (he := O_slot_kind.call hr (ha := pa_cons (pe_int) (pa_nil))) (ha := pa_cons (pe_int) (pa_cons (pe_str) (pa_nil)))) (pe_tup (pa_cons (pe_int) (pa_cons (pe_int) (pa_nil)))) (nomark _)))))))))))), ?_⟩
    refine ⟨rfl, fun p ys H1 e1 hp hP => ?_⟩
    have few : allT.length ≤ 100000 := by rw [all_count]; decide
    dsimp only [gName]
    dsimp only [tSeq, tIfS, tTest, tOp]
    refine lc_none (p := p) (zs := allT) (xs := ys) (fun Q q => ⟨_, rfl, q _ _ (Same.refl _) rfl⟩) hp hP few (by intro _ _; rfl) (fun t u d H3 ht e3 hk hd Q q => ?_) fun p2 H2 e2 hp2 => ?_
    · obtain ⟨ak, dxk, dk, kvk, rfl, hak, hdk, htk, okk, ndk, stk⟩ := id hk
      obtain ⟨dd, kvs, rfl, hdd, htd, nd, ok⟩ := id hd
      refine ⟨_, rfl, ak, dxk, _, rfl, hak, .ref ak, t, rfl, hk, fun p5 kv5 hp5 ht5 => ⟨_, rfl, p5, dd, kv5, kvs, t, t, rfl, rfl, upd_same, (same_new hp5) _ _ hdd, ht5.mono (tups_of (same_new hp5)), htd.mono (tups_of (same_new hp5)), nd, _, rfl, ?_⟩⟩
      refine ifF (by simp [same_self t]) ?_
      have e5 := same_new (o := .dK kv5) hp5
      refine ⟨_, rfl, _, rfl, ?_⟩
      dsimp only [tNil]
      refine mk_kind (Q := fun y H2 => rEqO C (sp_keq C) true (V.ref ak) y H2 fun x H' => ∃ k, x = V.bl k ∧ Q k H') (t := t) (e5 _ _ hdd) (htd.mono (tups_of e5)) ok nd fun v H' t' e' hk' pm => ?_
      obtain ⟨ak2, dxk2, dk2, kvk2, rfl, hak2, _⟩ := id hk'
      refine ⟨ak, ak2, dxk, dxk2, _, _, rfl, rfl, e' _ _ (e5 _ _ hak), hak2, ⟨.ref ak, .ref ak2, t, t', rfl, hk.keep (e5.trans e'), hk', _, rfl, _, rfl, ?_⟩⟩
      rw [same_perm pm]
      exact q _ (e5.trans e')
    · refine ⟨by show 0 ≤ sizeLine; decide, fun p3 hp3 => ⟨_, _, dp_nil ((same_new hp3) _ _ hp2), dp_nil upd_same, rfl, rfl, _, rfl, ifF rfl ?_⟩⟩
      have e3 := e2.trans (same_new (o := .lst []) hp3)
      generalize upd H2 p3 (.lst []) = H3 at e3
      dsimp only [tNext]
      dsimp only [tSeq, tIfS, tTest, tOp]
      have hp' := e3 _ _ hp
      have hP' : Paired (EntK C H3) ys allT := Paired.mapP hP fun _ _ h => h.keep e3
      refine lc_none (p := p) (zs := allT) (xs := ys) (fun Q q => ⟨_, rfl, q _ _ (Same.refl _) rfl⟩) hp' hP' few (by intro _ _; rfl) (fun t u d H4 ht e4 hk hd Q q => ?_) fun p4 H4 e4 hp4 => ?_
      · refine ⟨_, rfl, _, rfl, u, d, t, rfl, hk, hd, List.all_eq_true.mp all_reach t ht, List.all_eq_true.mp all_str t ht, fun H' e' => ⟨_, rfl, ?_⟩⟩
        exact q _ e'
      · refine ⟨by show 0 ≤ sizeLine; decide, fun p5 hp5 => ⟨_, _, dp_nil ((same_new hp5) _ _ hp4), dp_nil upd_same, rfl, rfl, _, rfl, ifF rfl ?_⟩⟩
        have e5 := (e3.trans e4).trans (same_new (o := .lst []) hp5)
        generalize upd H4 p5 (.lst []) = H5 at e5
        have hp6 := e5 _ _ hp
        have hP6 : Paired (EntK C H5) ys allT := Paired.mapP hP fun _ _ h => h.keep e5
        have hs6 := same_seqL (e1.trans e5) hs
        clear hp' hP'
        dsimp only [tNext]
        dsimp only [tSeq]
        refine ⟨_, rfl, a, _, rfl, .inl hs6, _, _, rfl, _, _, rfl, ?_⟩
        rw [List.length_map]
        obtain ⟨m, hm, hm4⟩ : ∃ m : Nat, (if (if (xs.length : Int) < 4 then (xs.length : Int) else 4) > 1 then (if (xs.length : Int) < 4 then (xs.length : Int) else 4) else 1) = (m : Int) ∧ m ≤ 4 := by
          refine ⟨(if (if (xs.length : Int) < 4 then (xs.length : Int) else 4) > 1 then (if (xs.length : Int) < 4 then (xs.length : Int) else 4) else 1).toNat, ?_, ?_⟩
          · repeat' split
            all_goals omega
          · repeat' split
            all_goals omega
        refine ⟨_, rfl, ?_⟩
        rw [hm]
        refine ⟨by omega, by omega, ?_⟩
        refine for_range (lo := 0) (fun i σ' H' => ∃ o2 o3 o4 o5 o6 o7 o8 o9 o10 o11 o12 : Option V, σ' = [some (.ref a), some (.ref p), o2, o3, o4, o5, o6, o7, o8, o9, o10, o11, o12] ∧ Same H5 H') ⟨none, none, none, none, none, none, none, none, none, none, none, rfl, Same.refl _⟩ (fun i σ' H' hi pv => ?_) (fun σ' H' pv => ?_)
        · obtain ⟨o2, o3, o4, o5, o6, o7, o8, o9, o10, o11, o12, rfl, eH⟩ := pv
          dsimp only [gName]
          dsimp only [tSeq]
          refine ⟨_, rfl, _, rfl, a, xs, i, ?_, same_seqL eH hs6, by omega, fun l x y z hl => ?_⟩
          · show [V.ref a, V.int ((0 : Int) + (i : Int))] = _
            rw [Int.zero_add]
          have hl5 : H5 l = none := eH.free hl
          have e6 := eH.trans (same_new (o := .lst [.int x, .int y, .int z]) hl)
          have hv6 : VatV (upd H' l (.lst [.int x, .int y, .int z])) l := ⟨x, y, z, upd_same⟩
          generalize upd H' l (.lst [.int x, .int y, .int z]) = H6 at e6 hv6
          refine ⟨12, rfl, by omega, by omega, ?_⟩
          refine for_range (lo := 0) (fun j σ2 H2 => ∃ o2 o3 o4 o6 o7 o8 o9 o10 o11 o12 : Option V, σ2 = [some (.ref a), some (.ref p), o2, o3, o4, some (.ref l), o6, o7, o8, o9, o10, o11, o12] ∧ Same H5 H2 ∧ VatV H2 l) ⟨_, _, _, _, _, _, _, _, _, _, rfl, e6, hv6⟩ (fun j σ2 H2 hj pv => ?_) (fun σ2 H2 pv => ?_)
          · obtain ⟨o2, o3, o4, o6, o7, o8, o9, o10, o11, o12, rfl, e7, hv⟩ := pv
            dsimp only [gName]
            dsimp only [tSeq]
            have npl : p ≠ l := fun z => by rw [z, hl5] at hp6; cases hp6
            have nyl : ys.length = 41 := (Paired.length hP6).trans all_count
            refine ⟨_, rfl, _, rfl, l, p, ys, rfl, hv, e7 _ _ hp6, npl, by omega, by omega, fun v H8 hvm k8 => ?_⟩
            obtain ⟨t, ht, hent⟩ := paired_mem hP6 v hvm
            have e8 := same_kl e7 hl5 k8
            obtain ⟨pc, u, d, rfl, hpc, hk, hd⟩ := hent
            refine ⟨pc, _, rfl, SqT.of (e8 _ _ hpc), rfl, _, _, rfl, ?_⟩
            dsimp only [gName]
            refine ⟨_, _, rfl, ?_⟩
            dsimp only [gName]
            refine ⟨rfl, ?_⟩
            dsimp only [tSeq]
            obtain ⟨ok, hst, _⟩ := good_of ht
            have hd8 := hd.keep e8
            obtain ⟨dd, kvs, rfl, hdd, htd, nd, _⟩ := id hd
            have h12 : 1 ≤ t.length ∧ t.length ≤ 6 ∧ 1 ≤ sizeT t ∧ sizeT t ≤ 12 := by
              have := ok
              unfold okTab at this
              simp only [Bool.and_eq_true, decide_eq_true_eq] at this
              exact ⟨this.1.1.1.1, this.1.1.1.2, this.1.1.2, this.1.2⟩
            have hnl : (namesT t).length = t.length := List.length_map ..
            refine ⟨_, rfl, _, rfl, _, t, rfl, hd8, l, _, rfl, k8.2, by omega, by omega, fun dr H9 d0 d1 k9 => ?_⟩
            have e9 := same_kl e8 hl5 k9
            obtain ⟨s0, rfl⟩ : ∃ n : Nat, dr = (n : Int) := ⟨dr.toNat, by omega⟩
            have hs0 : s0 < sizeT t := by omega
            refine ⟨_, rfl, dd, kvs, namesT t, rfl, .inl (e9 _ _ hdd), tabV_keys htd, by omega, fun zs pn pm hzs hpn => ?_⟩
            obtain rfl := sorted_one pm hzs hst
            refine ⟨by show 2 ≤ sizeLine; decide, fun pp hpp => ⟨pp, _, rfl, SqT.of upd_same, rfl, _, _, rfl, ?_⟩⟩
            dsimp only [gName]
            refine ⟨_, _, rfl, ?_⟩
            dsimp only [gName]
            refine ⟨rfl, ?_⟩
            have e910 := (same_new (o := .lst ((namesT t).map V.str)) hpn).trans (same_new (o := .tup [.int (s0 : Int), .ref pn]) hpp)
            have hn10 := (same_new (o := .tup [.int (s0 : Int), .ref pn]) hpp) _ _ (upd_same (H := H9) (a := pn) (o := .lst ((namesT t).map V.str)))
            generalize upd (upd H9 pn (.lst ((namesT t).map V.str))) pp (.tup [.int (s0 : Int), .ref pn]) = H10 at e910 hn10
            have e10 := e9.trans e910
            have hv10 := k9.2.keep e910
            have nnl : pn ≠ l := fun z => by
              obtain ⟨_, _, _, e⟩ := k9.2
              rw [z, e] at hpn
              cases hpn
            dsimp only [tSeq]
            refine ⟨_, rfl, l, _, rfl, hv10, by omega, by omega, fun dw H11 w0 w1 k11 => ?_⟩
            refine ⟨dw, rfl, by omega, by omega, fun D hD => ?_⟩
            have e11 := same_kl e10 hl5 k11
            have hn11 := k11.1 _ _ hn10 nnl
            have nDl : D ≠ l := fun z => by
              obtain ⟨_, _, _, e⟩ := k11.2
              rw [z, e] at hD
              cases hD
            have nDn : pn ≠ D := fun z => by rw [z, hD] at hn11; cases hn11
            refine lc_range (lo := 0) (Pv := fun i H2 => (∀ b o, H11 b = some o → b ≠ l → H2 b = some o) ∧ VatV H2 l ∧ ∃ ws : List Str, H2 D = some (.lst (ws.map V.str)) ∧ (∀ x ∈ ws, x ∈ namesT t) ∧ ws.length = i) ⟨fun b o e _ => same_new hD b o e, k11.2.keep (same_new hD), [], upd_same, by simp, rfl⟩ (fun i2 H2 hi2 pw => ?_) (fun H12 pw => ?_)
            · obtain ⟨p1, p2, ws, p3, p4, p5⟩ := pw
              refine ⟨rfl, ?_⟩
              dsimp only [tYes]
              rw [if_pos rfl]
              refine ⟨_, rfl, _, rfl, l, pn, _, rfl, p2, p1 _ _ hn11 nnl, nnl, by rw [List.length_map]; omega, by rw [List.length_map]; omega, fun y H4 hy k4 => ?_⟩
              obtain ⟨x, hx, rfl⟩ := List.mem_map.mp hy
              have hD4 : H4 D = some (.lst (ws.map V.str)) := k4.1 _ _ p3 nDl
              refine ⟨_, hD4, by rw [List.length_map]; exact sz_lt (by omega), fun b o hb hbl => ?_, ?_, ws ++ [x], by rw [upd_same, List.map_append]; rfl, fun z hz => ?_, by rw [List.length_append, p5]; rfl⟩
              · have nbD : b ≠ D := fun z => by
                  rw [z, hD] at hb
                  cases hb
                rw [upd_ne nbD]
                exact k4.1 _ _ (p1 b o hb hbl) hbl
              · obtain ⟨x1, y1, z1, e2⟩ := k4.2
                exact ⟨x1, y1, z1, by rw [upd_ne nDl.symm]; exact e2⟩
              · rcases List.mem_append.mp hz with z1 | z1
                · exact p4 z z1
                · rw [List.mem_singleton.mp z1]
                  exact hx
            · obtain ⟨p1, p2, ws, p3, p4, p5⟩ := pw
              have e12 := same_kl e11 hl5 ⟨p1, p2⟩
              dsimp only [gName]
              dsimp only [tIfS, tTest, tOp]
              refine ⟨_, rfl, _, rfl, _, rfl, u, t, s0, D, ws, rfl, hk.keep e12, hs0, p3, p4, by omega, fun v1 H13 e13 end1 => ?_⟩
              refine ⟨_, rfl, _, rfl, _, rfl, _, t, s0, D, ws, rfl, hd.keep (e12.trans e13), hs0, e13 _ _ p3, p4, by omega, fun v2 H14 e14 end2 => ?_⟩
              have ne := nice_end (goneN t s0 ws)
              refine ⟨_, _, dp_end (end1.keep e14), dp_end end2, ne.shaped (by decide), ne.shaped (by decide), _, rfl, ifF (by rw [ne.eqv]; rfl) ?_⟩
              exact ⟨_, _, _, _, _, _, _, _, _, _, rfl, e12.trans (e13.trans e14), p2.keep (e13.trans e14)⟩
          · obtain ⟨o2, o3, o4, o6, o7, o8, o9, o10, o11, o12, rfl, e7, hv⟩ := pv
            dsimp only [tIfS, tTest, tOr]
            refine ev_eqK ev_flag (fun _ _ => ev_flag) _ fun v H3 e3 ev => ⟨_, ev, ?_⟩
            refine ifF (by rw [if_pos rfl, same_self]; rfl) ?_
            refine ev_eqK (ev_made (n := 2) (by decide) g_five.2.1) (fun _ _ => ev_made (n := 2) (by decide) g_five.2.1) _ fun v H4 e4 ev => ⟨_, ev, ?_⟩
            refine ifF (by rw [if_pos rfl, same_self]; rfl) ?_
            refine ev_eqK (ev_made (n := 2) (by decide) (g_one 1 (by decide)).1) (fun _ _ => ev_made (n := 3) (by decide) (g_one 2 (by decide)).1) _ fun v H5' e5' ev => ⟨_, ev, ?_⟩
            refine ifF (by decide +kernel) ?_
            exact ⟨_, _, _, _, _, _, _, _, _, _, _, rfl, e7.trans (e3.trans (e4.trans e5'))⟩
        · obtain ⟨o2, o3, o4, o5, o6, o7, o8, o9, o10, o11, o12, rfl, eH⟩ := pv
          dsimp only [tSeq, tAsg]
          refine ev_three (ns := jjl) (ev_opsrow (ev_made (n := 2) (by decide) (g_four 1 (by decide))) setb_in (g_four 1 (by decide)).2) (fun _ _ => names_q1 ▸ ev_names (ev_made (n := 1) (by decide) g_five.1)) (fun _ _ => ev_after (s := 3) (ev_made (n := 2) (by decide) g_five.2.1) leave_in.1 leave_in.2) _ fun v1 H1 e1 h1 => ?_
          obtain ⟨pa, a1, b1, c1, rfl, hpa, ha1, hb1, hc1⟩ := h1
          dsimp only [gName]
          dsimp only [tSeq, tAsg]
          refine ev_due _ fun v2 H2 e2 h2 => ?_
          obtain ⟨pb, a2, b2, c2, rfl, hpb, ha2, hb2, hc2⟩ := h2
          dsimp only [gName]
          dsimp only [tRet, tAndV, tOp]
          refine ⟨_, rfl, _, rfl, dueD, dueD, dp_due (e2 _ _ hpa) (ha1.mono (tups_of e2)) (e2 _ _ hb1) (hc1.mono (tups_of e2)), dp_due hpb ha2 hb2 hc2, due_ok.1, due_ok.1, ?_⟩
          rw [due_ok.2]
          refine ⟨true, rfl, ?_⟩
          rw [if_pos rfl]
          refine ev_after (s := 6) (ev_made (n := 2) (by decide) g_five.2.1) joina_in.1 joina_in.2 _ fun v3 H3 e3 h3 => ?_
          refine ev_pair (ev_c rfl) (fun _ _ => ev_c rfl) _ fun v4 H4 e4 h4 => ?_
          refine ⟨_, _, dp_pair (h3.mono (tups_of e4)), dp_pair h4, (pair_ok _).1, (pair_ok _).1, ?_⟩
          rw [(pair_ok _).2]
          refine ⟨true, rfl, ?_⟩
          rw [if_pos rfl]
          refine ev_after (s := 2) (ev_made (n := 3) (by decide) (g_one 2 (by decide)).2) setc_in.1 setc_in.2 _ fun v5 H5 e5 h5 => ?_
          refine ev_pair (ev_c rfl) (fun _ _ => ev_c rfl) _ fun v6 H6 e6 h6 => ?_
          refine ⟨_, _, dp_pair (h5.mono (tups_of e6)), dp_pair h6, (pair_ok _).1, (pair_ok _).1, ?_⟩
          rw [(pair_ok _).2]
          exact q _
end
end Tm

set_option maxHeartbeats 2000000
/-! What the top leaves: defs found by any path, facts, the tables of code objects. -/
namespace TmH
open PySem PySem.Spec PyProof.Rows L2 LamX He Tm
structure AD where
  ad : PySem.W.Frag → Addr
  name : Str
  qual : Str
  st : Stmt
def fnA (K : PySem.W.Frag) (a : Addr) : FnV := match K.lookup a with
  | some ⟨_, _, .func fd, _⟩ => some (fd.name, fd.qualname, fd.params, fd.body, fd.scope, fd.globals, fd.closure, fd.defaults, fd.builtins)
  | _ => none
def AD.val (d : AD) : FnV := some (d.name, d.qual, defArgs d.st, .stmts (defBody d.st), defScope d.st, mainGlobals, [], .none, builtinsNs)
def AD.ok (K : PySem.W.Frag) (d : AD) : Bool := PySem.W.keepIn K (.ref (d.ad K)) && (match K.lookup (d.ad K) with
  | some ⟨_, _, .func fd, _⟩ => PySem.W.codeIn K fd.code d.qual
  | _ => false)
structure FunA (K : PySem.W.Frag) (d : AD) : Prop where
  ex : ∃ (oc : Value) (od : Option Addr) (kV doc pm : Value) (an : Option Addr) (cdv ct : Value) (osl : Array (Option Value)),
    K.lookup (d.ad K) = some ⟨oc, od, .func (PySem.W.fnOf d.name d.qual (defArgs d.st) (defBody d.st) (defScope d.st) .none kV doc pm an cdv ct), osl⟩ ∧ PySem.W.codeIn K cdv d.qual = true
  kp : PySem.W.keepIn K (.ref (d.ad K)) = true
theorem AD.funA {K : PySem.W.Frag} {d : AD} (e : fnA K (d.ad K) = d.val) (c : d.ok K = true) : FunA K d := by
  obtain ⟨kp, c2⟩ := ba c
  refine ⟨?_, kp⟩
  unfold fnA at e
  cases q : K.lookup (d.ad K) with
  | none =>
    rw [q] at c2
    cases c2
  | some o =>
    obtain ⟨oc, od, dt, osl⟩ := o
    rw [q] at c2 e
    cases dt with
    | func fd =>
      obtain ⟨n1, n2, n3, n4, n5, n6, n7, n8, n9, n10, n11, n12, n13, n14, n15⟩ := fd
      have e2 : (some (n1, n2, n3, n4, n5, n6, n7, n8, n15) : FnV) = some (d.name, d.qual, defArgs d.st, .stmts (defBody d.st), defScope d.st, mainGlobals, [], .none, builtinsNs) := e
      simp only [Option.some.injEq, Prod.mk.injEq] at e2
      obtain ⟨h1, h2, h3, h4, h5, h6, h7, h8, h9⟩ := e2
      subst h1 h2 h3 h4 h5 h6 h7 h8 h9
      exact ⟨oc, od, n9, n10, n11, n12, n13, n14, osl, rfl, c2⟩
    | _ => cases c2
theorem FunA.fun_ {K : PySem.W.Frag} {d : AD} (F : FunA K d) : ∃ fd, Fun K d.name d.qual d.st (d.ad K) fd := by
  obtain ⟨oc, od, kV, doc, pm, an, cdv, ct, osl, l, c⟩ := F.ex
  exact ⟨_, fun_mk l c F.kp⟩
/-! ### the hook -/
abbrev AlY : Type := Bool × List FnV
def obsK (fa : List Fa) (ds : List AD) (ex : PySem.W.Frag → Bool) (K : PySem.W.Frag) : AlY := ((fa.all fun f => f.ok K) && ((ds.all fun d => d.ok K) && ex K), ds.map fun d => fnA K (d.ad K))
def valY (ds : List AD) : AlY := (true, ds.map AD.val)
def obsY (n : Nat) (fa : List Fa) (ds : List AD) (tf : List Defn) (ex : PySem.W.Frag → Bool) (g : Addr → Option Obj) : AlY × Bool := (obsK fa ds ex (frT g (asD g n)), tabsB g tf (frT g (asD g n)))
structure SaysY (fa : List Fa) (ds : List AD) (tf : List Defn) (ex : PySem.W.Frag → Bool) (h : Heap) (K : PySem.W.Frag) : Prop where
  k : obsK fa ds ex K = valY ds
  hd : ∀ p ∈ tf, PySem.W.codeHdIn K (cT K p).1 (cT K p).2 = true
  out : ∀ p ∈ tf, K.lookup (cT K p).2 = none
  empty : ∀ p ∈ tf, h.get? (cT K p).2 = some { cls := .none, data := .fields #[] }
theorem saysY_of {n : Nat} {fa : List Fa} {ds : List AD} {tf : List Defn} {ex : PySem.W.Frag → Bool} {h : Heap} (e : obsY n fa ds tf ex h.get? = (valY ds, true)) : SaysY fa ds tf ex h (frT h.get? (asD h.get? n)) := by
  have e1 : obsK fa ds ex (frT h.get? (asD h.get? n)) = valY ds := congrArg (fun z : AlY × Bool => z.1) e
  have e2 : tabsB h.get? tf (frT h.get? (asD h.get? n)) = true := congrArg (fun z : AlY × Bool => z.2) e
  have one : ∀ p ∈ tf, PySem.W.codeHdIn (frT h.get? (asD h.get? n)) (cT (frT h.get? (asD h.get? n)) p).1 (cT (frT h.get? (asD h.get? n)) p).2 = true ∧ ∃ o, h.get? (cT (frT h.get? (asD h.get? n)) p).2 = some o ∧ emptyTab o = true := fun p hp => by
    obtain ⟨a1, a2⟩ := ba (List.all_eq_true.mp e2 p hp)
    refine ⟨a1, ?_⟩
    cases q : h.get? (cT (frT h.get? (asD h.get? n)) p).2 with
    | none =>
      rw [q] at a2
      cases a2
    | some o =>
      rw [q] at a2
      exact ⟨o, rfl, a2⟩
  refine ⟨e1, fun p hp => (one p hp).1, fun p hp => ?_, fun p hp => ?_⟩
  · obtain ⟨_, o, q, z⟩ := one p hp
    exact frT_none q z
  · obtain ⟨_, o, q, z⟩ := one p hp
    rw [q, emptyTab_eq z]
def hookY (n : Nat) (fa : List Fa) (ds : List AD) (tf : List Defn) (ex : PySem.W.Frag → Bool) : PySem.W.Hook where
  α := AlY × Bool
  obs := fun s => obsY n fa ds tf ex s.heap.get?
  val := fun _ => (valY ds, true)
  says := fun _ h => ∃ K : PySem.W.Frag, K.In h ∧ SaysY fa ds tf ex h K
  of := fun _ _ e => ⟨_, frT_in, saysY_of e⟩
  keeps := fun _ _ _ ⟨K, hK, c⟩ k => ⟨K, PySem.W.Frag.In.keeps hK k, ⟨c.k, c.hd, c.out, fun p hp => k _ _ (c.empty p hp)⟩⟩
theorem obsY_eq {n : Nat} {fa : List Fa} {ds : List AD} {tf : List Defn} {ex : PySem.W.Frag → Bool} {g : Addr → Option Obj} {s : Shared} (h : ∀ a, g a = s.heap.get? a) : obsY n fa ds tf ex g = (hookY n fa ds tf ex).obs s := by
  have e : g = s.heap.get? := funext h
  rw [e] <;> rfl
section
variable {fa : List Fa} {ds : List AD} {tf : List Defn} {ex : PySem.W.Frag → Bool} {h : Heap} {K : PySem.W.Frag}
theorem SaysY.fact (c : SaysY fa ds tf ex h K) {f : Fa} (hf : f ∈ fa) : f.ok K = true := by
  have c1 := (ba (show ((fa.all fun f => f.ok K) && ((ds.all fun d => d.ok K) && ex K)) = true from congrArg (fun z : AlY => z.1) c.k)).1
  exact List.all_eq_true.mp c1 f hf
theorem SaysY.more (c : SaysY fa ds tf ex h K) : ex K = true :=
  (ba (ba (show ((fa.all fun f => f.ok K) && ((ds.all fun d => d.ok K) && ex K)) = true from congrArg (fun z : AlY => z.1) c.k)).2).2
theorem SaysY.def_ (c : SaysY fa ds tf ex h K) (i : Nat) {d : AD} (hi : ds[i]? = some d) : FunA K d := by
  have c2 := (ba (ba (show ((fa.all fun f => f.ok K) && ((ds.all fun d => d.ok K) && ex K)) = true from congrArg (fun z : AlY => z.1) c.k)).2).1
  have e : ds.map (fun d => fnA K (d.ad K)) = ds.map AD.val := congrArg (fun z : AlY => z.2) c.k
  have e2 : (ds.map fun d => fnA K (d.ad K))[i]? = (ds.map AD.val)[i]? := by rw [e]
  rw [List.getElem?_map, List.getElem?_map, hi] at e2
  exact AD.funA (Option.some.inj e2) (List.all_eq_true.mp c2 d (List.mem_of_getElem? hi))
end
end TmH

set_option maxHeartbeats 0
namespace TmH
open PySem PySem.Spec PyProof.Rows L2 LamX He Tm
def getP (K : PySem.W.Frag) (m : Str) : Addr := match PySem.W.recIn K (ma K (ga K "Kind") m) "property" with
  | some (.ref g :: _) => g
  | _ => 0
def propB (K : PySem.W.Frag) (m : Str) : Bool := eqO (PySem.W.findIn K (.ref (ga K "Kind")) m) (some (some (.ref (ma K (ga K "Kind") m)))) && (eqO (PySem.W.specialIn K (.ref (ma K (ga K "Kind") m)) "__get__") (some (some (.builtin "property.__get__"))) &&
  (decide (PySem.W.takesIn K (.ref (ma K (ga K "Kind") m)) = some true) && (match PySem.W.recIn K (ma K (ga K "Kind") m) "property" with
    | some (.ref _ :: _) => true
    | _ => false)))
def clsB (K : PySem.W.Frag) : Bool := eqO (PySem.W.findIn K (.ref (ga K "Kind")) "__ne__") (some (some (.builtin "object.__ne__"))) && (decide (PySem.W.mroIn K (ga K "Kind") (.type "object") = some true) && (decide (PySem.W.kitOne K (.ref (ga K "Kind")) (.ref (ga K "Kind")) = some true) &&
  (eqO (PySem.W.findIn K (.ref (ga K "Kind")) "__class__") (some (some (.builtin "object.__class__"))) && (eqO (PySem.W.specialIn K (.builtin "object.__class__") "__get__") (some (some (.builtin "getset_descriptor.__get__"))) && decide (PySem.W.takesIn K (.builtin "object.__class__") = some true)))))
def exP (K : PySem.W.Frag) : Bool := propB K "operations" && (propB K "names" && (propB K "size" && (clsB K && tupB K "QUEUE_WORDS" [.str "", .str "a", .str "b", .str "aa", .str "ab", .str "ba", .str "bb"])))
def ds : List AD := [
  ⟨fun K => ga K "is_number_in", "is_number_in", "is_number_in", top 7⟩,
  ⟨fun K => ga K "need_number", "need_number", "need_number", top 8⟩,
  ⟨fun K => ga K "is_name", "is_name", "is_name", top 15⟩,
  ⟨fun K => ga K "_is_pair", "_is_pair", "_is_pair", top 16⟩,
  ⟨fun K => ga K "_is_row", "_is_row", "_is_row", top 17⟩,
  ⟨fun K => ga K "_is_table", "_is_table", "_is_table", top 18⟩,
  ⟨fun K => ga K "_lettered", "_lettered", "_lettered", top 23⟩,
  ⟨fun K => ga K "cell_kind", "cell_kind", "cell_kind", top 24⟩,
  ⟨fun K => ga K "flag_kind", "flag_kind", "flag_kind", top 25⟩,
  ⟨fun K => ga K "adder_kind", "adder_kind", "adder_kind", top 26⟩,
  ⟨fun K => ga K "swap_kind", "swap_kind", "swap_kind", top 27⟩,
  ⟨fun K => ga K "slot_kind", "slot_kind", "slot_kind", top 28⟩,
  ⟨fun K => ga K "fading_kind", "fading_kind", "fading_kind", top 29⟩,
  ⟨fun K => ga K "_faded", "_faded", "_faded", top 30⟩,
  ⟨fun K => ga K "queue_kind", "queue_kind", "queue_kind", top 31⟩,
  ⟨fun K => ga K "_join_row", "_join_row", "_join_row", top 32⟩,
  ⟨fun K => ga K "highest_kind", "highest_kind", "highest_kind", top 33⟩,
  ⟨fun K => ga K "_law_cell_table", "_law_cell_table", "_law_cell_table", top 35⟩,
  ⟨fun K => ga K "_law_slot_table", "_law_slot_table", "_law_slot_table", top 36⟩,
  ⟨fun K => ga K "_law_adder_table", "_law_adder_table", "_law_adder_table", top 37⟩,
  ⟨fun K => ga K "_law_swap_table", "_law_swap_table", "_law_swap_table", top 38⟩,
  ⟨fun K => ga K "_law_highest_table", "_law_highest_table", "_law_highest_table", top 39⟩,
  ⟨fun K => ga K "_law_fading_table", "_law_fading_table", "_law_fading_table", top 40⟩,
  ⟨fun K => ga K "_law_queue_table", "_law_queue_table", "_law_queue_table", top 41⟩,
  ⟨fun K => ga K "_law_rows", "_law_rows", "_law_rows", top 42⟩,
  ⟨fun K => ga K "_law_size", "_law_size", "_law_size", top 43⟩,
  ⟨fun K => ga K "_law_states_from", "_law_states_from", "_law_states_from", top 44⟩,
  ⟨fun K => ga K "_law_is_told", "_law_is_told", "_law_is_told", top 45⟩,
  ⟨fun K => ga K "_law_vat", "_law_vat", "_law_vat", top 46⟩,
  ⟨fun K => ga K "_law_draw", "_law_draw", "_law_draw", top 47⟩,
  ⟨fun K => ga K "_law_choice", "_law_choice", "_law_choice", top 48⟩,
  ⟨fun K => ga K "_law_done", "_law_done", "_law_done", top 49⟩,
  ⟨fun K => ga K "_law_gone", "_law_gone", "_law_gone", top 50⟩,
  ⟨fun K => ga K "law", "law", "law", top 51⟩,
  ⟨fun K => ma K (ga K "Kind") "__init__", "__init__", "Kind.__init__", inClass (top 19) 0⟩,
  ⟨fun K => ma K (ga K "Kind") "after", "after", "Kind.after", inClass (top 19) 4⟩,
  ⟨fun K => ma K (ga K "Kind") "answers", "answers", "Kind.answers", inClass (top 19) 5⟩,
  ⟨fun K => ma K (ga K "Kind") "reached", "reached", "Kind.reached", inClass (top 19) 6⟩,
  ⟨fun K => ma K (ga K "Kind") "_need_operation", "_need_operation", "Kind._need_operation", inClass (top 19) 12⟩,
  ⟨fun K => ma K (ga K "Kind") "__contains__", "__contains__", "Kind.__contains__", inClass (top 19) 14⟩,
  ⟨fun K => ma K (ga K "Kind") "__len__", "__len__", "Kind.__len__", inClass (top 19) 15⟩,
  ⟨fun K => ma K (ga K "Kind") "__eq__", "__eq__", "Kind.__eq__", inClass (top 19) 16⟩,
  ⟨fun K => ma K (ga K "Kind") "__str__", "__str__", "Kind.__str__", inClass (top 19) 17⟩,
  ⟨fun K => getP K "operations", "operations", "Kind.operations", inClass (top 19) 1⟩,
  ⟨fun K => getP K "names", "names", "Kind.names", inClass (top 19) 2⟩,
  ⟨fun K => getP K "size", "size", "Kind.size", inClass (top 19) 3⟩]
def fa : List Fa := [.glo "is_number_in", .glo "need_number", .glo "is_name", .glo "_is_pair", .glo "_is_row", .glo "_is_table", .glo "_lettered", .glo "cell_kind", .glo "flag_kind", .glo "adder_kind", .glo "swap_kind", .glo "slot_kind", .glo "fading_kind", .glo "_faded", .glo "queue_kind", .glo "_join_row", .glo "highest_kind", .glo "_law_cell_table", .glo "_law_slot_table", .glo "_law_adder_table", .glo "_law_swap_table", .glo "_law_highest_table", .glo "_law_fading_table", .glo "_law_queue_table", .glo "_law_rows", .glo "_law_size", .glo "_law_states_from", .glo "_law_is_told", .glo "_law_vat", .glo "_law_draw", .glo "_law_choice", .glo "_law_done", .glo "_law_gone", .glo "law", .glo "Kind", .glo "QUEUE_WORDS", .free "isinstance", .free "int", .free "bool", .free "str", .free "tuple", .free "list", .free "dict", .free "len", .free "all", .free "range", .free "enumerate", .free "sorted", .free "min", .free "max", .free "abs", .free "set", .int "MAX_LETTERS" 8, .int "MAX_STATES" 12, .int "MAX_OPERATIONS" 6, .int "MAX_ANSWER" 99, .str "ALPHABET" "abcdefghijklmnopqrstuvwxyz", .str "LETTERS" "abcdefgh", .cls "Kind", .noat "Kind" "_table", .noat "Kind" "_size", .mkr "Kind", .meth "Kind" "after", .meth "Kind" "answers", .meth "Kind" "reached", .meth "Kind" "_need_operation", .meth "Kind" "__contains__", .meth "Kind" "__len__", .meth "Kind" "__eq__", .meth "Kind" "__str__"]
def loose : List PySem.Str := (["_wall", "TeamError", "InvalidKind", "InvalidNumber", "UnknownName", "is_number_in", "need_number", "ALPHABET", "MAX_LETTERS", "MAX_STATES", "MAX_OPERATIONS", "MAX_ANSWER", "is_name"] : List PySem.Str) ++ (["_is_pair", "_is_row", "_is_table", "Kind", "LETTERS", "QUEUE_WORDS", "_lettered", "cell_kind", "flag_kind", "adder_kind", "swap_kind", "slot_kind", "fading_kind"] : List PySem.Str) ++ (["_faded", "queue_kind", "_join_row", "highest_kind", "_law_cell_table", "_law_slot_table", "_law_adder_table", "_law_swap_table", "_law_highest_table", "_law_fading_table", "_law_queue_table", "_law_rows", "_law_size"] : List PySem.Str) ++ (["_law_states_from", "_law_is_told", "_law_vat", "_law_draw", "_law_choice", "_law_done", "_law_gone"] : List PySem.Str)
def tf : List Defn := []
abbrev R : PySem.W.OpenRow := PySem.W.OpenLaw.row PySem.Challenge.rw_teamtells_k05_made_kinds_told
abbrev hk : PySem.W.Hook := hookY 6 fa ds tf exP
def ob (s : PySem.W.SharedT) : AlY × Bool := obsY 6 fa ds tf exP (HandSHeadRun.getT s)
theorem ob_eq (s : PySem.W.SharedT) : ob s = hk.obs s.abs := obsY_eq (HandSHeadRun.getT_eq s)
theorem run (w : World) : HandSHeadRun.RunEq R (PySem.W.view R.prog [51]) hk ob 6000 loose w := by
  intro os
  kernel_rfl
end TmH

set_option maxHeartbeats 2000000
namespace TmH
open PySem PySem.Spec PyProof.Rows L2 LamX He Tm
section
variable {P : Program} {w : World} {K : PySem.W.Frag} {h : Heap} {mg : Str → Option Value}
theorem mkDf (X : K.In h) (G : h.Ns mainGlobals mg) (c : SaysY fa ds tf exP h K) (x : Str) (st : Stmt) (ps : List Str) (i : Nat) (hi : ds[i]? = some ⟨fun K => ga K x, x, x, st⟩) (hf : Fa.glo x ∈ fa)
    (hb : ∀ (kV doc pm : Value) (an : Option Addr) (cdv ct : Value) (us : List Value), us.length = ps.length → bindArgs (PySem.W.fnOf x x (defArgs st) (defBody st) (defScope st) .none kV doc pm an cdv ct) ⟨us, []⟩ = pure (ps.zip us)) : Df K mg x st ps := by
  have F := c.def_ i hi
  obtain ⟨fd, f⟩ := F.fun_
  exact ⟨_, fd, glo_ok X G (c.fact hf), F.kp, f, f.binds hb⟩
theorem mkDfM (c : SaysY fa ds tf exP h K) (m q : Str) (st : Stmt) (ps : List Str) (i : Nat) (hi : ds[i]? = some ⟨fun K => ma K (ga K "Kind") m, m, q, st⟩) (hf : Fa.meth "Kind" m ∈ fa)
    (hb : ∀ (kV doc pm : Value) (an : Option Addr) (cdv ct : Value) (us : List Value), us.length = ps.length → bindArgs (PySem.W.fnOf m q (defArgs st) (defBody st) (defScope st) .none kV doc pm an cdv ct) ⟨us, []⟩ = pure (ps.zip us)) : DfM K (ga K "Kind") m q st ps := by
  obtain ⟨fd, f⟩ := (c.def_ i hi).fun_
  exact ⟨_, fd, meth_ok (c.fact hf), f, f.binds hb⟩
theorem mkBt (X : K.In h) (G : h.Ns mainGlobals mg) (c : SaysY fa ds tf exP h K) : Bt mg := by
  have f : ∀ x, Fa.free x ∈ fa → mg x = none := fun x hx => free_ok X G (c.fact hx)
  refine ⟨f _ ?_, f _ ?_, f _ ?_, f _ ?_, f _ ?_, f _ ?_, f _ ?_, f _ ?_, f _ ?_, f _ ?_, f _ ?_, f _ ?_, f _ ?_, f _ ?_, f _ ?_⟩ <;> (unfold fa; simp)
theorem mkInt (X : K.In h) (G : h.Ns mainGlobals mg) (c : SaysY fa ds tf exP h K) {x : Str} {i : Int} (hf : Fa.int x i ∈ fa) : GV mg x (.int i) := by
  obtain ⟨t, e⟩ := int_ok X G (c.fact hf)
  exact ⟨_, e, t, rfl⟩
theorem mkStr (X : K.In h) (G : h.Ns mainGlobals mg) (c : SaysY fa ds tf exP h K) {x z : Str} (hf : Fa.str x z ∈ fa) : GV mg x (.str z) := by
  obtain ⟨t, e⟩ := str_ok X G (c.fact hf)
  exact ⟨_, e, t, rfl⟩
theorem mkDfS (c : SaysY fa ds tf exP h K) (m q : Str) (st : Stmt) (ps : List Str) (i : Nat) (hi : ds[i]? = some ⟨fun K => ma K (ga K "Kind") m, m, q, st⟩) (hf : Fa.meth "Kind" m ∈ fa)
    (hb : ∀ (kV doc pm : Value) (an : Option Addr) (cdv ct : Value) (us : List Value), us.length = ps.length → bindArgs (PySem.W.fnOf m q (defArgs st) (defBody st) (defScope st) .none kV doc pm an cdv ct) ⟨us, []⟩ = pure (ps.zip us)) : DfS K (ga K "Kind") m q st ps := by
  obtain ⟨fd, F⟩ := (c.def_ i hi).fun_
  have m1 := meth_ok (c.fact hf)
  exact ⟨_, fd, ⟨m1.at_, m1.fn⟩, F, F.binds hb⟩
theorem mkDfP (c : SaysY fa ds tf exP h K) (m q : Str) (st : Stmt) (i : Nat) (hi : ds[i]? = some ⟨fun K => getP K m, m, q, st⟩) (hp : propB K m = true)
    (hb : ∀ (kV doc pm : Value) (an : Option Addr) (cdv ct : Value) (us : List Value), us.length = (["self"] : List Str).length → bindArgs (PySem.W.fnOf m q (defArgs st) (defBody st) (defScope st) .none kV doc pm an cdv ct) ⟨us, []⟩ = pure ((["self"] : List Str).zip us)) : DfP K (ga K "Kind") m q st := by
  obtain ⟨x1, e1⟩ := ba hp
  obtain ⟨x2, e2⟩ := ba e1
  obtain ⟨x3, x4⟩ := ba e2
  obtain ⟨fd, F⟩ := (c.def_ i hi).fun_
  refine ⟨ma K (ga K "Kind") m, getP K m, fd, ⟨eqO_ok x1, eqO_ok x2, of_decide_eq_true x3, ?_⟩, F, F.binds hb⟩
  unfold getP
  split at x4
  · rename_i g rest e
    exact ⟨rest, by rw [e]⟩
  · cases x4
theorem facts (X : K.In h) (G : h.Ns mainGlobals mg) (c : SaysY fa ds tf exP h K) {f : Addr} (hfa : mg ("law" : Str) = some (.ref f)) :
    ∃ fd : FuncData, (∀ (s : Shared) (u : Value), BindsTo s fd ⟨[u], []⟩ [("_law_script", u)]) ∧ ∀ base : Heap, K.In base → base.Ns mainGlobals mg → FnOk P w K mg base CX0 10 f fd ["_law_script"] (sp_law K) := by
  have B := mkBt X G c
  have d_is_number_in : Df K mg "is_number_in" s_num ["value", "least", "most"] := mkDf X G c "is_number_in" s_num ["value", "least", "most"] 0 rfl (by unfold fa; simp) fun _ _ _ _ _ _ us hl => match us, hl with | [_, _, _], _ => rfl
  have d_need_number : Df K mg "need_number" s_need ["value", "least", "most"] := mkDf X G c "need_number" s_need ["value", "least", "most"] 1 rfl (by unfold fa; simp) fun _ _ _ _ _ _ us hl => match us, hl with | [_, _, _], _ => rfl
  have d_is_name : Df K mg "is_name" s_name ["value"] := mkDf X G c "is_name" s_name ["value"] 2 rfl (by unfold fa; simp) fun _ _ _ _ _ _ us hl => match us, hl with | [_], _ => rfl
  have d_is_pair : Df K mg "_is_pair" s_pair ["value", "size"] := mkDf X G c "_is_pair" s_pair ["value", "size"] 3 rfl (by unfold fa; simp) fun _ _ _ _ _ _ us hl => match us, hl with | [_, _], _ => rfl
  have d_is_row : Df K mg "_is_row" s_row ["value", "size"] := mkDf X G c "_is_row" s_row ["value", "size"] 4 rfl (by unfold fa; simp) fun _ _ _ _ _ _ us hl => match us, hl with | [_, _], _ => rfl
  have d_is_table : Df K mg "_is_table" s_table ["value"] := mkDf X G c "_is_table" s_table ["value"] 5 rfl (by unfold fa; simp) fun _ _ _ _ _ _ us hl => match us, hl with | [_], _ => rfl
  have d_lettered : Df K mg "_lettered" s_lettered ["word", "rows"] := mkDf X G c "_lettered" s_lettered ["word", "rows"] 6 rfl (by unfold fa; simp) fun _ _ _ _ _ _ us hl => match us, hl with | [_, _], _ => rfl
  have d_cell_kind : Df K mg "cell_kind" s_cell ["many"] := mkDf X G c "cell_kind" s_cell ["many"] 7 rfl (by unfold fa; simp) fun _ _ _ _ _ _ us hl => match us, hl with | [_], _ => rfl
  have d_flag_kind : Df K mg "flag_kind" s_flag [] := mkDf X G c "flag_kind" s_flag [] 8 rfl (by unfold fa; simp) fun _ _ _ _ _ _ us hl => match us, hl with | [], _ => rfl
  have d_adder_kind : Df K mg "adder_kind" s_adder ["many"] := mkDf X G c "adder_kind" s_adder ["many"] 9 rfl (by unfold fa; simp) fun _ _ _ _ _ _ us hl => match us, hl with | [_], _ => rfl
  have d_swap_kind : Df K mg "swap_kind" s_swap ["many"] := mkDf X G c "swap_kind" s_swap ["many"] 10 rfl (by unfold fa; simp) fun _ _ _ _ _ _ us hl => match us, hl with | [_], _ => rfl
  have d_slot_kind : Df K mg "slot_kind" s_slot ["many"] := mkDf X G c "slot_kind" s_slot ["many"] 11 rfl (by unfold fa; simp) fun _ _ _ _ _ _ us hl => match us, hl with | [_], _ => rfl
  have d_fading_kind : Df K mg "fading_kind" s_fading ["many"] := mkDf X G c "fading_kind" s_fading ["many"] 12 rfl (by unfold fa; simp) fun _ _ _ _ _ _ us hl => match us, hl with | [_], _ => rfl
  have d_faded : Df K mg "_faded" s_faded ["state", "many"] := mkDf X G c "_faded" s_faded ["state", "many"] 13 rfl (by unfold fa; simp) fun _ _ _ _ _ _ us hl => match us, hl with | [_, _], _ => rfl
  have d_queue_kind : Df K mg "queue_kind" s_queue ["many"] := mkDf X G c "queue_kind" s_queue ["many"] 14 rfl (by unfold fa; simp) fun _ _ _ _ _ _ us hl => match us, hl with | [_], _ => rfl
  have d_join_row : Df K mg "_join_row" s_join ["words", "many", "letter"] := mkDf X G c "_join_row" s_join ["words", "many", "letter"] 15 rfl (by unfold fa; simp) fun _ _ _ _ _ _ us hl => match us, hl with | [_, _, _], _ => rfl
  have d_highest_kind : Df K mg "highest_kind" s_high ["many"] := mkDf X G c "highest_kind" s_high ["many"] 16 rfl (by unfold fa; simp) fun _ _ _ _ _ _ us hl => match us, hl with | [_], _ => rfl
  have d_law_cell_table : Df K mg "_law_cell_table" s_ltcell ["_law_count"] := mkDf X G c "_law_cell_table" s_ltcell ["_law_count"] 17 rfl (by unfold fa; simp) fun _ _ _ _ _ _ us hl => match us, hl with | [_], _ => rfl
  have d_law_slot_table : Df K mg "_law_slot_table" s_ltslot ["_law_count"] := mkDf X G c "_law_slot_table" s_ltslot ["_law_count"] 18 rfl (by unfold fa; simp) fun _ _ _ _ _ _ us hl => match us, hl with | [_], _ => rfl
  have d_law_adder_table : Df K mg "_law_adder_table" s_ltadder ["_law_count"] := mkDf X G c "_law_adder_table" s_ltadder ["_law_count"] 19 rfl (by unfold fa; simp) fun _ _ _ _ _ _ us hl => match us, hl with | [_], _ => rfl
  have d_law_swap_table : Df K mg "_law_swap_table" s_ltswap ["_law_count"] := mkDf X G c "_law_swap_table" s_ltswap ["_law_count"] 20 rfl (by unfold fa; simp) fun _ _ _ _ _ _ us hl => match us, hl with | [_], _ => rfl
  have d_law_highest_table : Df K mg "_law_highest_table" s_lthigh ["_law_count"] := mkDf X G c "_law_highest_table" s_lthigh ["_law_count"] 21 rfl (by unfold fa; simp) fun _ _ _ _ _ _ us hl => match us, hl with | [_], _ => rfl
  have d_law_fading_table : Df K mg "_law_fading_table" s_ltfade ["_law_count"] := mkDf X G c "_law_fading_table" s_ltfade ["_law_count"] 22 rfl (by unfold fa; simp) fun _ _ _ _ _ _ us hl => match us, hl with | [_], _ => rfl
  have d_law_queue_table : Df K mg "_law_queue_table" s_ltqueue ["_law_count"] := mkDf X G c "_law_queue_table" s_ltqueue ["_law_count"] 23 rfl (by unfold fa; simp) fun _ _ _ _ _ _ us hl => match us, hl with | [_], _ => rfl
  have d_law_rows : Df K mg "_law_rows" s_rows [] := mkDf X G c "_law_rows" s_rows [] 24 rfl (by unfold fa; simp) fun _ _ _ _ _ _ us hl => match us, hl with | [], _ => rfl
  have d_law_size : Df K mg "_law_size" s_lsize ["_law_table"] := mkDf X G c "_law_size" s_lsize ["_law_table"] 25 rfl (by unfold fa; simp) fun _ _ _ _ _ _ us hl => match us, hl with | [_], _ => rfl
  have d_law_states_from : Df K mg "_law_states_from" s_states ["_law_table", "_law_state"] := mkDf X G c "_law_states_from" s_states ["_law_table", "_law_state"] 26 rfl (by unfold fa; simp) fun _ _ _ _ _ _ us hl => match us, hl with | [_, _], _ => rfl
  have d_law_is_told : Df K mg "_law_is_told" s_told ["_law_kind", "_law_table"] := mkDf X G c "_law_is_told" s_told ["_law_kind", "_law_table"] 27 rfl (by unfold fa; simp) fun _ _ _ _ _ _ us hl => match us, hl with | [_, _], _ => rfl
  have d_law_vat : Df K mg "_law_vat" s_vat ["_law_script", "_law_at"] := mkDf X G c "_law_vat" s_vat ["_law_script", "_law_at"] 28 rfl (by unfold fa; simp) fun _ _ _ _ _ _ us hl => match us, hl with | [_, _], _ => rfl
  have d_law_draw : Df K mg "_law_draw" s_draw ["_law_vat_here", "_law_total"] := mkDf X G c "_law_draw" s_draw ["_law_vat_here", "_law_total"] 29 rfl (by unfold fa; simp) fun _ _ _ _ _ _ us hl => match us, hl with | [_, _], _ => rfl
  have d_law_choice : Df K mg "_law_choice" s_choice ["_law_vat_here", "_law_items"] := mkDf X G c "_law_choice" s_choice ["_law_vat_here", "_law_items"] 30 rfl (by unfold fa; simp) fun _ _ _ _ _ _ us hl => match us, hl with | [_, _], _ => rfl
  have d_law_done : Df K mg "_law_done" s_done ["_law_kind", "_law_state", "_law_names"] := mkDf X G c "_law_done" s_done ["_law_kind", "_law_state", "_law_names"] 31 rfl (by unfold fa; simp) fun _ _ _ _ _ _ us hl => match us, hl with | [_, _, _], _ => rfl
  have d_law_gone : Df K mg "_law_gone" s_gone ["_law_table", "_law_state", "_law_names"] := mkDf X G c "_law_gone" s_gone ["_law_table", "_law_state", "_law_names"] 32 rfl (by unfold fa; simp) fun _ _ _ _ _ _ us hl => match us, hl with | [_, _, _], _ => rfl
  have gb : Gb mg := ⟨mkInt X G c (by unfold fa; simp), mkInt X G c (by unfold fa; simp), mkInt X G c (by unfold fa; simp), mkInt X G c (by unfold fa; simp), mkStr X G c (by unfold fa; simp)⟩
  have gm : Gm mg := ⟨mkStr X G c (by unfold fa; simp)⟩
  have T : Kc K (ga K "Kind") := ⟨cls_ok (c.fact (f := .cls "Kind") (by unfold fa; simp)), noat_ok (c.fact (f := .noat "Kind" "_table") (by unfold fa; simp)), noat_ok (c.fact (f := .noat "Kind" "_size") (by unfold fa; simp))⟩
  have gC : mg "Kind" = some (.ref (ga K "Kind")) := glo_ok X G (c.fact (by unfold fa; simp))
  have di : DfC K mg "Kind" (ga K "Kind") "Kind.__init__" s_init ["self", "operations"] := by
    obtain ⟨fd, F⟩ := (c.def_ 34 (d := ⟨fun K => ma K (ga K "Kind") "__init__", "__init__", "Kind.__init__", s_init⟩) rfl).fun_
    exact ⟨_, fd, gC, mkr_ok (c.fact (f := .mkr "Kind") (by unfold fa; simp)), F, F.binds fun _ _ _ _ _ _ us hl => match us, hl with | [_, _], _ => rfl⟩
  have m_after : DfM K (ga K "Kind") "after" "Kind.after" s_after ["self", "state", "name"] := mkDfM c "after" "Kind.after" s_after ["self", "state", "name"] 35 rfl (by unfold fa; simp) fun _ _ _ _ _ _ us hl => match us, hl with | [_, _, _], _ => rfl
  have m_answers : DfM K (ga K "Kind") "answers" "Kind.answers" s_answers ["self", "name"] := mkDfM c "answers" "Kind.answers" s_answers ["self", "name"] 36 rfl (by unfold fa; simp) fun _ _ _ _ _ _ us hl => match us, hl with | [_, _], _ => rfl
  have m_reached : DfM K (ga K "Kind") "reached" "Kind.reached" s_reached ["self", "state"] := mkDfM c "reached" "Kind.reached" s_reached ["self", "state"] 37 rfl (by unfold fa; simp) fun _ _ _ _ _ _ us hl => match us, hl with | [_, _], _ => rfl
  have m_need_operation : DfM K (ga K "Kind") "_need_operation" "Kind._need_operation" s_needop ["self", "name"] := mkDfM c "_need_operation" "Kind._need_operation" s_needop ["self", "name"] 38 rfl (by unfold fa; simp) fun _ _ _ _ _ _ us hl => match us, hl with | [_, _], _ => rfl
  have m_contains : DfIn K (ga K "Kind") "Kind.__contains__" s_cont ["self", "x"] := by
    obtain ⟨fd, F⟩ := (c.def_ 39 (d := ⟨fun K => ma K (ga K "Kind") "__contains__", "__contains__", "Kind.__contains__", s_cont⟩) rfl).fun_
    have m := meth_ok (c.fact (f := .meth "Kind" "__contains__") (by unfold fa; simp))
    exact ⟨_, fd, ⟨m.at_, m.fn⟩, F, F.binds fun _ _ _ _ _ _ us hl => match us, hl with | [_, _], _ => rfl⟩
  have m_len : DfS K (ga K "Kind") "__len__" "Kind.__len__" s_klen ["self"] := mkDfS c "__len__" "Kind.__len__" s_klen ["self"] 40 rfl (by unfold fa; simp) fun _ _ _ _ _ _ us hl => match us, hl with | [_], _ => rfl
  have m_eq : DfS K (ga K "Kind") "__eq__" "Kind.__eq__" s_keq ["self", "other"] := mkDfS c "__eq__" "Kind.__eq__" s_keq ["self", "other"] 41 rfl (by unfold fa; simp) fun _ _ _ _ _ _ us hl => match us, hl with | [_, _], _ => rfl
  have m_str : DfS K (ga K "Kind") "__str__" "Kind.__str__" s_kstr ["self"] := mkDfS c "__str__" "Kind.__str__" s_kstr ["self"] 42 rfl (by unfold fa; simp) fun _ _ _ _ _ _ us hl => match us, hl with | [_], _ => rfl
  obtain ⟨x1, e1⟩ := ba c.more
  obtain ⟨x2, e2⟩ := ba e1
  obtain ⟨x3, e3⟩ := ba e2
  obtain ⟨x4, x5⟩ := ba e3
  obtain ⟨y1, f1⟩ := ba x4
  obtain ⟨y2, f2⟩ := ba f1
  obtain ⟨y3, f3⟩ := ba f2
  obtain ⟨y4, f4⟩ := ba f3
  obtain ⟨y5, y6⟩ := ba f4
  have EQ : EqM K (ga K "Kind") := ⟨eqO_ok y1, of_decide_eq_true y2⟩
  have TE : KcE K (ga K "Kind") := ⟨of_decide_eq_true y3, eqO_ok y4, eqO_ok y5, of_decide_eq_true y6, of_decide_eq_true y2⟩
  have p_operations : DfP K (ga K "Kind") "operations" "Kind.operations" s_ops := mkDfP c "operations" "Kind.operations" s_ops 43 rfl x1 fun _ _ _ _ _ _ us hl => match us, hl with | [_], _ => rfl
  have p_names : DfP K (ga K "Kind") "names" "Kind.names" s_names := mkDfP c "names" "Kind.names" s_names 44 rfl x2 fun _ _ _ _ _ _ us hl => match us, hl with | [_], _ => rfl
  have p_size : DfP K (ga K "Kind") "size" "Kind.size" s_size := mkDfP c "size" "Kind.size" s_size 45 rfl x3 fun _ _ _ _ _ _ us hl => match us, hl with | [_], _ => rfl
  have gq : GT K mg "QUEUE_WORDS" QW := ⟨_, glo_ok X G (c.fact (by unfold fa; simp)), fun H => tupB_ok x5 H⟩
  have Bs : mg "set" = none := free_ok X G (c.fact (f := .free "set") (by unfold fa; simp))
  have FA := c.def_ 33 (d := ⟨fun K => ga K "law", "law", "law", s_law⟩) rfl
  obtain ⟨oc, od, kV, doc, pm, an, cdv, ct, osl, l, ci⟩ := FA.ex
  have FL := fun_mk (st := s_law) l ci FA.kp
  have hl := hfa.symm.trans (glo_ok X G (c.fact (f := .glo "law") (by unfold fa; simp)))
  have ef : f = ga K "law" := by
    cases hl
    rfl
  refine ⟨PySem.W.fnOf "law" "law" (defArgs s_law) (defBody s_law) (defScope s_law) .none kV doc pm an cdv ct, fun s u => .of_eq rfl, fun base _ _ => ?_⟩
  rw [ef]
  have o_num := ok_num (P := P) (w := w) (base := base) B d_is_number_in
  have o_need := ok_need o_num d_need_number
  have o_name := ok_name (P := P) (w := w) (base := base) B gb d_is_name
  have o_pair := ok_pair B gb o_num d_is_pair
  have o_row := ok_row B gb o_pair d_is_row
  have o_table := ok_table B gb o_name o_row d_is_table
  have o_init := ok_init B T o_table di
  have o_cont := ok_cont (P := P) (w := w) (mg := mg) (base := base) B T m_contains
  have o_needop := ok_needop o_cont m_need_operation
  have o_after := ok_after B T o_need o_needop m_after
  have o_names := ok_names (P := P) (w := w) (mg := mg) (base := base) B T p_names
  have o_size := ok_size (P := P) (w := w) (mg := mg) (base := base) T p_size
  have o_ops := ok_ops (P := P) (w := w) (mg := mg) (base := base) B T p_operations
  have o_len := ok_klen (P := P) (w := w) (mg := mg) (base := base) B T m_len
  have o_eq := ok_keq (P := P) (w := w) (mg := mg) (base := base) B T TE gC m_eq
  have o_str := ok_kstr (P := P) (w := w) (mg := mg) (base := base) B T m_str
  have o_answers := ok_answers B T o_needop m_answers
  have o_reached := ok_reached B T o_need m_reached
  have o_lettered := ok_lettered B gm o_init d_lettered
  have o_cell := ok_cell1 B o_need o_lettered d_cell_kind
  have o_flag := ok_flag o_init d_flag_kind
  have o_adder := ok_adder B o_need o_init d_adder_kind
  have o_swap := ok_swap B o_need o_lettered d_swap_kind
  have o_slot := ok_slot B o_need o_lettered d_slot_kind
  have o_faded := ok_faded (P := P) (w := w) (base := base) B d_faded
  have o_fading := ok_fading B o_need o_faded o_lettered d_fading_kind
  have o_join := ok_join (P := P) (w := w) (base := base) B d_join_row
  have o_queue := ok_queue B gq o_need o_join o_init d_queue_kind
  have o_high := ok_high B o_need o_lettered d_highest_kind
  have o_vat := ok_vat (P := P) (w := w) (base := base) B d_law_vat
  have o_draw := ok_draw (P := P) (w := w) (base := base) B d_law_draw
  have o_choice := ok_pick B o_draw d_law_choice
  have o_lsize := ok_lsize (P := P) (w := w) (base := base) B d_law_size
  have o_states := ok_states B Bs o_lsize d_law_states_from
  have o_tcell := ok_ltcell (P := P) (w := w) (base := base) B d_law_cell_table
  have o_tslot := ok_ltslot (P := P) (w := w) (base := base) B d_law_slot_table
  have o_tadder := ok_ltadder (P := P) (w := w) (base := base) B d_law_adder_table
  have o_tswap := ok_ltswap (P := P) (w := w) (base := base) B d_law_swap_table
  have o_thigh := ok_lthigh (P := P) (w := w) (base := base) B d_law_highest_table
  have o_tfade := ok_ltfade (P := P) (w := w) (base := base) B d_law_fading_table
  have o_tqueue := ok_ltqueue (P := P) (w := w) (base := base) B d_law_queue_table
  have o_rows := ok_rows B o_flag o_cell o_slot o_adder o_swap o_high o_fading o_queue o_tcell o_tslot o_tadder o_tswap o_thigh o_tfade o_tqueue d_law_rows
  have o_done := ok_done T o_after d_law_done
  have o_gone := ok_gone (P := P) (w := w) (base := base) d_law_gone
  have o_told := ok_told B Bs T o_lsize o_ops o_names o_size o_len o_str o_cont o_after o_answers o_reached o_states d_law_is_told
  exact fn_law B T EQ o_rows o_told o_vat o_draw o_choice o_lsize o_done o_gone o_ops o_names o_eq o_init o_after o_flag o_cell o_slot o_fading o_queue FL
end
end TmH
open PySem PySem.W PySem.Calls PyProof.Rows
theorem PySem.Challenge.cw_teamtells_k05_made_kinds_told_holds : PySem.Challenge.rw_teamtells_k05_made_kinds_told.Holds := by
  w_on; o_law
  refine HandSHeadRun.head_any (r := OpenLaw.row PySem.Challenge.rw_teamtells_k05_made_kinds_told) (q := view (OpenLaw.row PySem.Challenge.rw_teamtells_k05_made_kinds_told).prog [51]) (H := TmH.hk) (ob := TmH.ob) (M := 6000) (loose := TmH.loose) (d := HandSHeadRun.topDef (OpenLaw.row PySem.Challenge.rw_teamtells_k05_made_kinds_told).prog 51) (kwd := []) TmH.ob_eq
    (by kernel_rfl) (fun s => by kernel_rfl) TmH.run (by kernel_rfl) (by kernel_rfl) (by kernel_rfl) (by rfl) (by first | assumption | decide +kernel) (by decide +kernel) ⟨rfl, rfl, rfl, rfl, rfl, by decide +kernel⟩ ?hw ?hc
  case hw => w_witness2
  case hc =>
    refine LamX.walk_ofTsE (l := PySem.Challenge.rw_teamtells_k05_made_kinds_told) (n := 63) (k := 10) (x := "_law_script") (CX := fun _ => L2.CX0) rfl (by decide) (by kernel_rfl) ⟨rfl, by decide, by decide⟩ ?F (fun _ _ _ _ _ z => z)
    intro w mg fa h Y G hmg0
    obtain ⟨K, KX, c⟩ := Y
    have hmg : mg ("law" : PySem.Str) = some (.ref fa) := by
      have e : (HandSHeadRun.topDef (OpenLaw.row PySem.Challenge.rw_teamtells_k05_made_kinds_told).prog 51).name = ("law" : PySem.Str) := by kernel_rfl
      rw [← e]
      exact hmg0
    obtain ⟨fd, hb, hF⟩ := TmH.facts (P := (PySem.Challenge.rw_teamtells_k05_made_kinds_told).prog) (w := w) KX G c hmg
    refine ⟨K, KX, fd, [], Tm.sp_law K, fun p hp => (nomatch hp), fun p hp => (nomatch hp), fun p hp => (nomatch hp), hb, fun H a ns hl _ hT hS => ?_, fun base k1 k2 tb => hF base k1 k2⟩
    exact ⟨a, ns, rfl, hS, hl, fun _ => rfl⟩

