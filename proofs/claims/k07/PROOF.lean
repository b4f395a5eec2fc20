import PyProof.Rows.All
import Wide.All
import OpenK.AllK
import Wide.FinOn
import KE.KDictList
import HandS.ForMost
import HandS.More
import HandS.IsInst
import HandS.DictComp
import HandS.Property
import HandS.Star
import HandS.TupMul
import HandS.TupAny
import HandS.Deep
import HandS.Wide
import HandS.Walk
import HandS.Conv
import HandS.Replace
import HandS.Nested
import HandS.NestedK
import HandS.EndTab
import HandS.Style
import HandS.Flow
import HandS.Head0
import HandS.Head1
import HandS.Head2
import HandS.HeadHook1
import HandS.HeadHook2
import HandS.HeadHook3
import HandS.HeadHook4
import HandS.HeadWalk
import PySem.Challenge.RW_teamtells_k07_whole_machines_of_made_kin
set_option Elab.async false
set_option linter.all false
set_option maxRecDepth 100000
set_option maxHeartbeats 2000000
/-! Rules of my own beside the hand layer. -/
namespace Tm
open PySem PySem.Spec PyProof.Rows L2

/-! ### v in o, v not in o: the class has a method for it -/
structure InM (K : PySem.W.Frag) (C f : Addr) : Prop where
  fnd : PySem.W.findIn K (.ref C) "__contains__" = some (some (.ref f))
  isf : PySem.W.isFn K (.ref f) = true
def rInO (C : Addr) (sp : Sp) (E : XK) (neg : Bool) : R2 := fun x y H Q => ∃ a dx fs, y = .ref a ∧ H a = some (.ins C dx fs) ∧
  sp [.ref a, x] H (fun v H' => ∃ b : Bool, v = .bl b ∧ Q (.bl (if neg then !b else b)) H') E
section
variable {X : Cx} {CX : CXT} {k : Nat} {C f : Addr} {fd : FuncData} {ps : List Str} {sp : Sp} {E : XK}
theorem in_run (M : InM X.K C f) (F : FnOk X.prog X.w X.K X.mg X.base CX k f fd ps sp) (hr : Room k X.A) (hb : Binds X.K fd ps []) (hx : Passes CX X E)
    {pins : List (Addr × Obj)} {σ : L2.St} {H : Hp} {s : Shared} {x : V} {v : Value} {a dx : Addr} {fs : List (Str × V)} {Q : Bool → VK} (I : Inv X pins σ H s) (rx : RelV x v) (ha : H a = some (.ins C dx fs))
    (g : Bool → Bool) (hq : sp [.ref a, x] H (fun v H' => ∃ b : Bool, v = .bl b ∧ Q b (.bl (g b)) H') E) :
    wpAny (model X.prog X.w) X.A (call (.ref f) [.ref a, v]) (fun r s' => wpAny (model X.prog X.w) X.A (truthy r) (fun b => EP X pins σ (Q b) (.bool (g b))) X.xe s') X.xe s := by
  have hv : Vals [V.ref a, x] [Value.ref a, v] := .cons rfl (.cons rx .nil)
  have run := run_fn (us := [.ref a, v]) (vs := [.ref a, x]) (Q := fun v H' => ∃ b : Bool, v = .bl b ∧ Q b (.bl (g b)) H') F hr hb .nil hx I hv (by simpa using hq)
  refine wpAny_mono run (fun r s' z => ?_) fun _ _ z => z
  obtain ⟨w, H', I', rw', b, ew, q⟩ := z
  subst ew
  have e : r = Value.bool b := rw'
  subst e
  exact wpAny_truthy_bool ⟨.bl (g b), H', I', rfl, q⟩
theorem op_inO (M : InM X.K C f) (F : FnOk X.prog X.w X.K X.mg X.base CX k f fd ps sp) (hr : Room k X.A) (hb : Binds X.K fd ps []) (hx : Passes CX X E) : OpR X (compareOp .In) (rInO C sp E false) := by
  intro pins s σ H x y v u Q I rx ry h
  obtain ⟨a, dx, fs, ey, ha, hq⟩ := h
  subst ey
  cases ry
  obtain ⟨mA, O, _⟩ := ins_get I.hok ha
  obtain ⟨od, J, _⟩ := O.look
  obtain ⟨m, hF⟩ := I.fr
  exact PySem.W.in_K hF I.ok.mod.kin J M.fnd M.isf (in_run (Q := fun _ => Q) M F hr hb hx I rx ha (fun b => b) (by simpa using hq))
theorem op_notInO (M : InM X.K C f) (F : FnOk X.prog X.w X.K X.mg X.base CX k f fd ps sp) (hr : Room k X.A) (hb : Binds X.K fd ps []) (hx : Passes CX X E) : OpR X (compareOp .NotIn) (rInO C sp E true) := by
  intro pins s σ H x y v u Q I rx ry h
  obtain ⟨a, dx, fs, ey, ha, hq⟩ := h
  subst ey
  cases ry
  obtain ⟨mA, O, _⟩ := ins_get I.hok ha
  obtain ⟨od, J, _⟩ := O.look
  obtain ⟨m, hF⟩ := I.fr
  exact PySem.W.notIn_K hF I.ok.mod.kin J M.fnd M.isf (in_run (Q := fun _ => Q) M F hr hb hx I rx ha (fun b => !b) (by simpa using hq))
end
/-! ### list(e.values()) -/
def tListVals (te : TE) : TE := fun σ H Q => te σ H fun x H1 => ∃ (d : Addr) (kvs : List (L2.Key × V)), x = .ref d ∧ H1 d = some (.dK kvs) ∧ ∀ p, H1 p = none → Q (.ref p) (upd H1 p (.lst (kvs.map (·.2))))
theorem kvals_map : ∀ {kvs : List (L2.Key × V)} {vs : List (L2.Key × Value)}, KV kvs vs → Vals (kvs.map (·.2)) (vs.map (·.2))
  | _, _, .nil => .nil
  | _, _, .cons r t => .cons r.2 (kvals_map t)
theorem vals_of_ix {vs : List (L2.Key × Value)} (acc : List Value) (hl : acc.length = vs.length) (h : ∀ (i : Nat) (v : Value), acc[i]? = some v → ∃ k : L2.Key, vs[i]? = some (k, v)) : acc = vs.map (·.2) := by
  apply List.ext_getElem?
  intro i
  rw [List.getElem?_map]
  cases e : acc[i]? with
  | none =>
    have : vs.length ≤ i := by rw [← hl]; exact List.getElem?_eq_none_iff.mp e
    rw [List.getElem?_eq_none_iff.mpr this]; rfl
  | some v =>
    obtain ⟨k, hk⟩ := h i v e
    rw [hk]; rfl
section
variable {X : Cx} {e : Expr} {te : TE} {p apos cpos pos : Pos}
theorem pe_listVals (hc : X.calm = true) (he : PE X e te) (hg : Gl X "list") (hm : X.mg "list" = none)
    (hb : attributeBase e "values" X.env (eval e X.env) = eval e X.env := by rfl) (hli : (apos.endLine == cpos.line) = true := by rfl)
    (hst : starEach [.Call (.Attribute e "values" apos) [] [] cpos] X.env = (false, eval (.Call (.Attribute e "values" apos) [] [] cpos) X.env) :: starEach [] X.env := by rfl) :
    PE X (.Call (.Name "list" p) [.Call (.Attribute e "values" apos) [] [] cpos] [] pos) (tListVals te) := by
  refine ⟨fun pins s σ H Q I hq => ?_⟩
  have hv : bootBuiltins "list" = some (.type "list") := by decide +kernel
  refine wpAny_Call_Name_kw (ld_blt I hg hm hv ?_)
  refine PyProof.Rows.callWith_type1 ?_ hst rfl
  rw [hst]
  show wpAny _ _ (spliced ((false, eval (.Call (.Attribute e "values" apos) [] [] cpos) X.env) :: backTo pos (starEach [] X.env))) _ _ s
  refine Calls.spliced_cons ?_
  have evd := he.run pins s σ H _ I hq
  refine wpAny_Call_method (T := "dict") (id := "dict.values") hb rfl hli F.plainAttrs_dict F.slot_dict_values F.type_dict_values (thn evd fun u s1 z => ?_)
  obtain ⟨x, H1, I1, rx, d, kvs, ex, hd, q⟩ := z
  subst ex
  have eu : u = Value.ref d := rx
  subst eu
  obtain ⟨hz, sys, vs, kv, hdo⟩ := I1.hok d _ hd
  obtain ⟨ep, hat⟩ := hdo.dictAt
  have lk : kvs.length = vs.length := Paired.length kv
  generalize hview : ({ cls := .type "dict_values", data := .fields #[.ref d] } : Obj) = view
  have I2 : Inv X pins σ H1 { s1 with heap := s1.heap.push view } := I1.kept (t' := s1.toks) fun b ob q => Heap.get?_push_of_some _ q
  refine ⟨hdo.typeIs, hdo.mapOf.noDict, ?_⟩
  show wpAny _ _ (callWith cpos (.builtin "dict.values") [.ref d] [] []) _ X.xe s1
  refine method_meetsIn F.slot_dict_values F.entry_dict_values rfl (PySem.evalArgs_none ⟨rfl, hdo.typeIs, F.args_dict_values_1 _, _, meets_dict_values (mixKind X.prog X.w) d sys, ⟨vs, hdo⟩, ?_⟩)
  subst hview
  refine Calls.spliced_nil ?_
  refine PySem.W.kdl_call (PySem.W.kdl_values (knd := mixKind X.prog X.w) (kvs := vs) (ep := ep)) (I1.ok.hd hc) ⟨⟨_, Heap.get?_push_size _ rfl, rfl, rfl⟩, hat.push _⟩ (by rw [← lk]; exact hz) fun h' tk acc c hk hS hacc => ?_
  have new : H1 (s1.heap.push ({ cls := .type "dict_values", data := .fields #[.ref d] } : Obj)).objs.size = none := I2.hok.fresh (Nat.le_refl _)
  have ea : acc.toList = vs.map (·.2) := vals_of_ix acc.toList (by rw [Array.length_toList]; exact hacc.1) fun i v hv' => hacc.2 i v (by rw [← Array.getElem?_toList]; exact hv')
  refine ⟨.ref _, _, I2.laid (t' := tk) (o := .lst (kvs.map (·.2))) hk (Nat.le_refl _) ⟨by rw [List.length_map]; exact hz, acc.toList, c, ?_, ?_⟩, rfl, q _ new⟩
  · rw [ea]; exact kvals_map kv
  · rw [Array.toArray_toList]; exact hS
end
end Tm
namespace Tm
open PySem PySem.Spec PyProof.Rows L2

/-! ### calls by name: a def of the top, a method, a property, the class -/
section
variable (P : Program) (w : World) (K : PySem.W.Frag) (mg : Str → Option Value) (base : Heap)
/-- the name x of the top stands for a def that keeps its promise -/
structure Ok (x : Str) (k : Nat) (ps : List Str) (sp : Sp) : Prop where
  ex : ∃ (f : Addr) (fd : FuncData), mg x = some (.ref f) ∧ PySem.W.keepIn K (.ref f) = true ∧ FnOk P w K mg base CX0 k f fd ps sp ∧ Binds K fd ps []
structure OkM (C : Addr) (m : Str) (k : Nat) (ps : List Str) (sp : Sp) : Prop where
  ex : ∃ (f : Addr) (fd : FuncData), Meth K C m f ∧ FnOk P w K mg base CX0 k f fd ps sp ∧ Binds K fd ps []
structure OkP (C : Addr) (m : Str) (k : Nat) (sp : Sp) : Prop where
  ex : ∃ (p g : Addr) (fd : FuncData), PropOf K C m p g ∧ FnOk P w K mg base CX0 k g fd ["self"] sp ∧ Binds K fd ["self"] []
structure OkC (x : Str) (C : Addr) (k : Nat) (ps : List Str) (sp : Sp) : Prop where
  ex : ∃ (f : Addr) (fd : FuncData), mg x = some (.ref C) ∧ Mk K C f ∧ FnOk P w K mg base CX0 k f fd ps sp ∧ Binds K fd ps []
structure OkIn (C : Addr) (k : Nat) (ps : List Str) (sp : Sp) : Prop where
  ex : ∃ (f : Addr) (fd : FuncData), InM K C f ∧ FnOk P w K mg base CX0 k f fd ps sp ∧ Binds K fd ps []
end
section
variable {X : Cx} {x m : Str} {k j : Nat} {C : Addr} {ps : List Str} {sp : Sp} {o e : Expr} {es : List Expr} {ta : TE} {t : TA} {p apos pos : Pos}
theorem Ok.call (O : Ok X.prog X.w X.K X.mg X.base x k ps sp) (hr : Room j X.A) (hk : k ≤ j := by decide) (ha : PA X (e :: es) t) (hg : Gl X x := by rfl) (hdb : (x == ("__debug__" : Str)) = false := by decide)
    (he : starEach (e :: es) X.env = (false, eval e X.env) :: starEach es X.env := by rfl) (hpl : (backTo pos (starEach es X.env)).any (·.1) = false := by rfl) :
    PE X (.Call (.Name x p) (e :: es) [] pos) (tCall sp [] E0 t) := by
  obtain ⟨f, fd, h1, h2, h3, h4⟩ := O.ex
  exact pe_call h3 (hr.mono hk) hg h1 h2 h4 .nil pass0 ha hdb he hpl
theorem Ok.call0 (O : Ok X.prog X.w X.K X.mg X.base x k ps sp) (hr : Room j X.A) (hk : k ≤ j := by decide) (hg : Gl X x := by rfl) (hdb : (x == ("__debug__" : Str)) = false := by decide) :
    PE X (.Call (.Name x p) [] [] pos) (tCall sp [] E0 tNil) := by
  obtain ⟨f, fd, h1, h2, h3, h4⟩ := O.ex
  exact pe_call0 h3 (hr.mono hk) hg h1 h2 h4 .nil pass0 hdb
theorem OkM.call {pl : Sem Bool} (O : OkM X.prog X.w X.K X.mg X.base C m k ps sp) (hr : Room j X.A) (c : Cls X.K C) (hk : k ≤ j := by decide) (he : PE X o ta) (ha : PA X (e :: es) t)
    (hst : starEach (e :: es) X.env = (false, eval e X.env) :: starEach es X.env := by rfl) (hpl : (backTo pos (starEach es X.env)).any (·.1) = false := by rfl)
    (ht : eval (.Call (.Attribute o m apos) (e :: es) [] pos) X.env = (do
      let v ← eval o X.env
      standAt apos.atName
      let (g, one) ← holding [v] (getMethod v m pl)
      callWith pos g one (backTo pos (starEach (e :: es) X.env)) (backToKw pos (keywordEach [] X.env))) := by rfl) :
    PE X (.Call (.Attribute o m apos) (e :: es) [] pos) (tMeth C m sp [] E0 ta t) := by
  obtain ⟨f, fd, h1, h2, h3⟩ := O.ex
  exact pe_meth he c h1 h2 (hr.mono hk) h3 .nil pass0 ha hst hpl ht
theorem OkP.get (O : OkP X.prog X.w X.K X.mg X.base C m k sp) (hr : Room j X.A) (c : Cls X.K C) (hk : k + 1 ≤ j := by decide) (he : PE X e ta) (hab : attributeBase e m X.env (eval e X.env) = eval e X.env := by rfl) :
    PE X (.Attribute e m pos) (tProp C sp [] E0 ta) := by
  obtain ⟨p, g, fd, h1, h2, h3⟩ := O.ex
  exact pe_prop he c h1 h2 (hr.mono hk) h3 .nil pass0 hab
theorem OkC.make (O : OkC X.prog X.w X.K X.mg X.base x C k ps sp) (hr : Room j X.A) (hk : k + 1 ≤ j := by decide) (ha : PA X (e :: es) t) (hg : Gl X x := by rfl) (hdb : (x == ("__debug__" : Str)) = false := by decide)
    (he : starEach (e :: es) X.env = (false, eval e X.env) :: starEach es X.env := by rfl) (hpl : (backTo pos (starEach es X.env)).any (·.1) = false := by rfl) :
    PE X (.Call (.Name x p) (e :: es) [] pos) (tMake C sp [] E0 t) := by
  obtain ⟨f, fd, h1, h2, h3, h4⟩ := O.ex
  exact pe_make h2 h3 (hr.mono hk) hg h1 h4 .nil pass0 ha hdb he hpl
theorem OkIn.isIn (O : OkIn X.prog X.w X.K X.mg X.base C k ps sp) (hr : Room j X.A) (hk : k ≤ j := by decide) : OpR X (compareOp .In) (rInO C sp E0 false) := by
  obtain ⟨f, fd, h1, h2, h3⟩ := O.ex
  exact op_inO h1 h2 (hr.mono hk) h3 pass0
theorem OkIn.notIn (O : OkIn X.prog X.w X.K X.mg X.base C k ps sp) (hr : Room j X.A) (hk : k ≤ j := by decide) : OpR X (compareOp .NotIn) (rInO C sp E0 true) := by
  obtain ⟨f, fd, h1, h2, h3⟩ := O.ex
  exact op_notInO h1 h2 (hr.mono hk) h3 pass0
end
/-! ### heaps that keep their tuples -/
def TupS (H H' : Hp) : Prop := ∀ a xs, H a = some (.tup xs) → H' a = some (.tup xs)
theorem tups_of {H H' : Hp} (e : Same H H') : TupS H H' := fun a xs h => e a _ h
theorem TupS.trans {H H1 H2 : Hp} (a : TupS H H1) (b : TupS H1 H2) : TupS H H2 := fun c xs h => b c xs (a c xs h)
theorem TupS.refl (H : Hp) : TupS H H := fun _ _ h => h
theorem tups_upd {H : Hp} {p : Addr} {o u : HO} (h : H p = some u) (hu : ∀ xs, u ≠ .tup xs) : TupS H (upd H p o) := fun a xs e => by
  rw [upd_ne (ne_of e h (fun z => hu xs z.symm))]; exact e
theorem same_new {H : Hp} {p : Addr} {o : HO} (h : H p = none) : Same H (upd H p o) := fun a u e => by
  rw [upd_ne (ne_of_none e h)]; exact e
theorem same_mut {H H' : Hp} {p : Addr} {o : HO} (e : Same H H') (h : H p = none) : Same H (upd H' p o) := fun a u ha => by
  rw [upd_ne (ne_of_none ha h)]; exact e a u ha
theorem sz_le {n : Nat} (h : n ≤ 100000) : n ≤ sizeLine := Nat.le_trans h (by decide)
theorem sz_lt {n : Nat} (h : n < 100000) : n < sizeLine := Nat.lt_of_lt_of_le h (by decide)

/-! ### what a reading gives, all that was tracked kept -/
def Ev (te : TE) (σ : L2.St) (H : Hp) (P : V → Hp → Prop) : Prop := ∀ Q : VK, (∀ v H', Same H H' → P v H' → Q v H') → te σ H Q
def EvT (t : TT) (σ : L2.St) (H : Hp) (b : Bool) : Prop := ∀ Q : Bool → Hp → Prop, (∀ H', Same H H' → Q b H') → t σ H Q
def EvA (t : TA) (σ : L2.St) (H : Hp) (P : List V → Hp → Prop) : Prop := ∀ Q : List V → Hp → Prop, (∀ vs H', Same H H' → P vs H' → Q vs H') → t σ H Q
section
variable {σ : L2.St} {H : Hp} {te ta tb : TE} {t : TA} {v x y : V} {P : V → Hp → Prop}
theorem Ev.imp {P' : V → Hp → Prop} (h : Ev te σ H P) (i : ∀ v H', Same H H' → P v H' → P' v H') : Ev te σ H P' := fun Q q => h Q fun v H' e p => q v H' e (i v H' e p)
theorem Ev.go {Q : VK} (h : Ev te σ H P) (q : ∀ v H', Same H H' → P v H' → Q v H') : te σ H Q := h Q q
theorem ev_is {i : Nat} (h : σ[i]? = some (some v)) (p : P v H) : Ev (tVar i) σ H P := fun Q q => ⟨v, h, q v H (Same.refl H) p⟩
theorem ev_c (p : P v H) : Ev (tC v) σ H P := fun Q q => q v H (Same.refl H) p
theorem eva_nil : EvA tNil σ H (fun vs _ => vs = []) := fun Q q => q [] H (Same.refl H) rfl
theorem eva_cons {P : V → Hp → Prop} {P2 : V → List V → Hp → Prop} (h : Ev te σ H P) (k : ∀ v H1, Same H H1 → P v H1 → EvA t σ H1 (P2 v)) : EvA (tCons te t) σ H (fun vs H' => ∃ v r H1, vs = v :: r ∧ Same H1 H' ∧ P v H1 ∧ P2 v r H') := fun Q q =>
  h _ fun v H1 e1 p1 => k v H1 e1 p1 _ fun r H2 e2 p2 => q (v :: r) H2 (e1.trans e2) ⟨v, r, H1, rfl, e2, p1, p2⟩
end
/-! ### comprehensions over any walk -/
/-- what the list at D is so far -/
def LcInv {α : Type} (H1 : Hp) (D : Addr) (zs : List α) (b : α → Bool) (R : α → V → Hp → Prop) (i : Nat) (H : Hp) : Prop :=
  H1 D = none ∧ Same H1 H ∧ ∃ ys, H D = some (.lst ys) ∧ Paired (fun v z => R z v H) ys ((zs.take i).filter b)
theorem take_one {α : Type} : ∀ {l : List α} {i : Nat} {x : α}, l[i]? = some x → l.take (i + 1) = l.take i ++ [x]
  | [], i, x, h => by simp at h
  | a :: l, 0, x, h => by
    have e : a = x := by simpa using h
    subst e; rfl
  | a :: l, i + 1, x, h => by
    have ih := take_one (l := l) (i := i) (x := x) (by simpa using h)
    show a :: l.take (i + 1) = (a :: l.take i) ++ [x]
    rw [ih]; rfl
theorem paired_app {α β : Type} {F : α → β → Prop} : ∀ {xs : List α} {ys : List β} {x : α} {y : β}, Paired F xs ys → F x y → Paired F (xs ++ [x]) (ys ++ [y])
  | _, _, _, _, .nil, h => .cons h .nil
  | _, _, _, _, .cons r t, h => .cons r (paired_app t h)
theorem lcinv_step {α : Type} {H1 H H2 : Hp} {D : Addr} {zs : List α} {b : α → Bool} {R : α → V → Hp → Prop} {i : Nat} {z : α} {σ2 : L2.St} {tt : TT} {te : TE}
    (hR : ∀ z v H H', TupS H H' → R z v H → R z v H') (hz : zs.length ≤ 100000) (hi : zs[i]? = some z) (p : LcInv H1 D zs b R i H) (e2 : Same H H2)
    (ht : EvT tt σ2 H2 (b z)) (he : b z = true → ∀ H3, Same H2 H3 → Ev te σ2 H3 (R z)) :
    tt σ2 H2 fun c H3 => if c = true then te σ2 H3 fun y H4 => ∃ acc, H4 D = some (.lst acc) ∧ acc.length < sizeLine ∧ LcInv H1 D zs b R (i + 1) (upd H4 D (.lst (acc ++ [y]))) else LcInv H1 D zs b R (i + 1) H3 := by
  obtain ⟨hD, e, ys, hys, hp⟩ := p
  refine ht _ fun H3 e3 => ?_
  cases hb : b z with
  | false =>
    rw [if_neg (by decide)]
    refine ⟨hD, e.trans (e2.trans e3), ys, e3 _ _ (e2 _ _ hys), ?_⟩
    rw [take_one hi, List.filter_append, List.filter_cons, if_neg (by rw [hb]; decide)]
    show Paired _ ys (_ ++ [])
    rw [List.append_nil]
    exact Paired.mapP hp fun v z r => hR _ _ _ _ (tups_of (e2.trans e3)) r
  | true =>
    rw [if_pos rfl]
    refine he hb H3 e3 _ fun y H4 e4 ry => ?_
    have hD4 : H4 D = some (.lst ys) := e4 _ _ (e3 _ _ (e2 _ _ hys))
    have hlt : ys.length < 100000 := by
      have l1 := Paired.length hp
      have l2 := List.length_filter_le b (zs.take i)
      have l3 := List.length_take_le i zs
      have l4 : i < zs.length := (List.getElem?_eq_some_iff.mp hi).1
      rw [List.length_take] at l2
      omega
    have tu : TupS H4 (upd H4 D (.lst (ys ++ [y]))) := tups_upd hD4 (fun xs z => by cases z)
    refine ⟨ys, hD4, sz_lt hlt, hD, same_mut (e.trans (e2.trans (e3.trans e4))) hD, ys ++ [y], upd_same, ?_⟩
    rw [take_one hi, List.filter_append, List.filter_cons, if_pos hb]
    exact paired_app (Paired.mapP hp fun v z r => hR _ _ _ _ ((tups_of (e2.trans (e3.trans e4))).trans tu) r) (hR _ _ _ _ tu ry)
/-- a list comprehension, over any walk -/
theorem lc_go {α : Type} {J : It} {n : Nat} {G : Hp → Prop} {Y : Nat → Hp → V → Hp → Prop} (w : Walk J n G Y) {g : TG} {tt : TT} {te : TE} {vs : List Nat} {σ : L2.St} {H1 : Hp} {Q : VK}
    (zs : List α) (b : α → Bool) (R : α → V → Hp → Prop) (hn : zs.length = n) (hz : n ≤ 100000) (hR : ∀ z v H H', TupS H H' → R z v H → R z v H') (hG : ∀ H, Same H1 H → G H)
    (hs : ∀ (i : Nat) z x H H', zs[i]? = some z → Same H1 H → Y i H x H' → ∀ Qg : L2.St → Hp → Prop, (∀ σ2 H2, wipe σ2 vs = wipe σ vs → Same H H2 → EvT tt σ2 H2 (b z) → (b z = true → ∀ H3, Same H2 H3 → Ev te σ2 H3 (R z)) → Qg σ2 H2) → g x (wipe σ vs) H' Qg)
    (hq : ∀ p H ys, H1 p = none → Same H1 H → H p = some (.lst ys) → Paired (fun v z => R z v H) ys (zs.filter b) → Q (.ref p) H) :
    ∀ D, H1 D = none → ∃ W : Nat → Nat → Hp → Prop, (∃ m, W 0 m (upd H1 D (.lst []))) ∧ ∀ i m H, W i m H → (J.stop i H ∧ Q (.ref D) H) ∨ (J.go i H ∧ ∃ Nx : Hp → Prop, (∀ H', Nx H' → ∃ m', m' < m ∧ W (i + 1) m' H') ∧
      ∀ x H', J.yld i H x H' → g x (wipe σ vs) H' fun σ2 H2 => wipe σ2 vs = wipe σ vs ∧ tt σ2 H2 fun b H3 => if b = true then te σ2 H3 fun y H4 => ∃ acc, H4 D = some (.lst acc) ∧ acc.length < sizeLine ∧ Nx (upd H4 D (.lst (acc ++ [y]))) else Nx H3) := by
  intro D hD
  refine lc_it w (LcInv H1 D zs b R) ⟨hD, same_new hD, [], upd_same, .nil⟩ (fun i H _ p => hG H p.2.1) (fun i x H H' hi p y => ?_) (fun H p => ?_)
  · obtain ⟨z, hz'⟩ : ∃ z, zs[i]? = some z := ⟨zs[i]'(by omega), List.getElem?_eq_getElem (by omega)⟩
    exact hs i z x H H' hz' p.2.1 y _ fun σ2 H2 hw e2 ht he => ⟨hw, lcinv_step hR (by omega) hz' p e2 ht he⟩
  · obtain ⟨_, e, ys, hys, hp⟩ := p
    rw [← hn, List.take_length] at hp
    exact hq D H ys hD e hys hp
/-- .. each item given to one name -/
theorem lc_name {α : Type} {J : It} {G : Hp → Prop} {Y : Nat → Hp → V → Hp → Prop} {n j : Nat} (w : Walk J n G Y) {tt : TT} {te : TE} {vs : List Nat} {σ : L2.St} {H1 : Hp} {Q : VK}
    (zs : List α) (b : α → Bool) (R : α → V → Hp → Prop) (hn : zs.length = n) (hz : n ≤ 100000) (hw : ∀ x, wipe ((wipe σ vs).set j (some x)) vs = wipe σ vs) (hR : ∀ z v H H', TupS H H' → R z v H → R z v H') (hG : ∀ H, Same H1 H → G H)
    (hY : ∀ i H x H', Y i H x H' → Same H H')
    (hs : ∀ (i : Nat) z x H H', zs[i]? = some z → Same H1 H → Y i H x H' → EvT tt ((wipe σ vs).set j (some x)) H' (b z) ∧ (b z = true → ∀ H3, Same H' H3 → Ev te ((wipe σ vs).set j (some x)) H3 (R z)))
    (hq : ∀ p H ys, H1 p = none → Same H1 H → H p = some (.lst ys) → Paired (fun v z => R z v H) ys (zs.filter b) → Q (.ref p) H) :
    ∀ D, H1 D = none → ∃ W : Nat → Nat → Hp → Prop, (∃ m, W 0 m (upd H1 D (.lst []))) ∧ ∀ i m H, W i m H → (J.stop i H ∧ Q (.ref D) H) ∨ (J.go i H ∧ ∃ Nx : Hp → Prop, (∀ H', Nx H' → ∃ m', m' < m ∧ W (i + 1) m' H') ∧
      ∀ x H', J.yld i H x H' → gName j x (wipe σ vs) H' fun σ2 H2 => wipe σ2 vs = wipe σ vs ∧ tt σ2 H2 fun b H3 => if b = true then te σ2 H3 fun y H4 => ∃ acc, H4 D = some (.lst acc) ∧ acc.length < sizeLine ∧ Nx (upd H4 D (.lst (acc ++ [y]))) else Nx H3) :=
  lc_go w zs b R hn hz hR hG (fun i z x H H' hi e y Qg q => q _ _ (hw x) (hY i H x H' y) (hs i z x H H' hi e y).1 (hs i z x H H' hi e y).2) hq
theorem evt_yes {σ : L2.St} {H : Hp} : EvT tYes σ H true := fun Q q => q H (Same.refl H)
theorem filter_all {α : Type} : ∀ (l : List α), l.filter (fun _ => true) = l
  | [] => rfl
  | a :: l => by rw [List.filter_cons, if_pos rfl, filter_all l]
end Tm
namespace Tm
open PySem PySem.Spec PyProof.Rows L2

/-! ### dict comprehensions over any walk: keys that differ -/
def DcInv {α : Type} (H1 : Hp) (D : Addr) (zs : List α) (b : α → Bool) (key : α → L2.Key) (R : α → V → Hp → Prop) (i : Nat) (H : Hp) : Prop :=
  H1 D = none ∧ Same H1 H ∧ ∃ kvs, H D = some (.dK kvs) ∧ Paired (fun kv z => kv.1 = key z ∧ R z kv.2 H) kvs ((zs.take i).filter b)
theorem valV_no {kvs : List (L2.Key × V)} {k : L2.Key} (h : k ∉ kvs.map (·.1)) : valV kvs k = none := by
  unfold valV
  rw [List.find?_eq_none.mpr fun kv hkv => by
    simp only [decide_eq_true_eq]
    intro e
    exact h (List.mem_map.mpr ⟨kv, hkv, e⟩)]
  rfl
theorem paired_keys {α : Type} {key : α → L2.Key} {F : L2.Key × V → α → Prop} (hF : ∀ kv z, F kv z → kv.1 = key z) : ∀ {kvs : List (L2.Key × V)} {zs : List α}, Paired F kvs zs → kvs.map (·.1) = zs.map key
  | _, _, .nil => rfl
  | _, _, .cons r t => by
    rw [List.map_cons, List.map_cons, paired_keys hF t, hF _ _ r]
theorem nd_split {α : Type} {l : List α} {i : Nat} {x : α} (h : l.Nodup) (hi : l[i]? = some x) : x ∉ l.take i := fun hm => by
  obtain ⟨j, hj, e⟩ := List.mem_iff_getElem.mp hm
  rw [List.length_take] at hj
  rw [List.getElem_take] at e
  obtain ⟨h1, e1⟩ := List.getElem?_eq_some_iff.mp hi
  have := (List.getElem_inj h).mp (e.trans e1.symm)
  omega
theorem dcinv_step {α : Type} {H1 H H2 : Hp} {D : Addr} {zs : List α} {b : α → Bool} {key : α → L2.Key} {R : α → V → Hp → Prop} {i : Nat} {z : α} {σ2 : L2.St} {tt : TT} {tk tv : TE}
    (hR : ∀ z v H H', TupS H H' → R z v H → R z v H') (hz : zs.length ≤ 100000) (nd : (zs.map key).Nodup) (hi : zs[i]? = some z) (p : DcInv H1 D zs b key R i H) (e2 : Same H H2)
    (ht : EvT tt σ2 H2 (b z)) (hk : b z = true → ∀ H3, Same H2 H3 → Ev tk σ2 H3 (fun v _ => v = kV (key z))) (he : b z = true → ∀ H3, Same H2 H3 → Ev tv σ2 H3 (R z)) :
    tt σ2 H2 fun c H3 => if c = true then tk σ2 H3 fun y H4 => tv σ2 H4 fun v H5 => ∃ kvs k, y = kV k ∧ H5 D = some (.dK kvs) ∧ kvs.length < sizeLine ∧ DcInv H1 D zs b key R (i + 1) (upd H5 D (.dK (putK kvs k v))) else DcInv H1 D zs b key R (i + 1) H3 := by
  obtain ⟨hD, e, kvs, hys, hp⟩ := p
  refine ht _ fun H3 e3 => ?_
  cases hb : b z with
  | false =>
    rw [if_neg (by decide)]
    refine ⟨hD, e.trans (e2.trans e3), kvs, e3 _ _ (e2 _ _ hys), ?_⟩
    rw [take_one hi, List.filter_append, List.filter_cons, if_neg (by rw [hb]; decide)]
    show Paired _ kvs (_ ++ [])
    rw [List.append_nil]
    exact Paired.mapP hp fun v z r => ⟨r.1, hR _ _ _ _ (tups_of (e2.trans e3)) r.2⟩
  | true =>
    rw [if_pos rfl]
    refine hk hb H3 e3 _ fun y H4 e4 ey => ?_
    refine he hb H4 (e3.trans e4) _ fun v H5 e5 rv => ?_
    have hD5 : H5 D = some (.dK kvs) := e5 _ _ (e4 _ _ (e3 _ _ (e2 _ _ hys)))
    have hlt : kvs.length < 100000 := by
      have l1 := Paired.length hp
      have l2 := List.length_filter_le b (zs.take i)
      have l4 : i < zs.length := (List.getElem?_eq_some_iff.mp hi).1
      rw [List.length_take] at l2
      omega
    have hno : key z ∉ kvs.map (·.1) := by
      rw [paired_keys (fun kv z h => h.1) hp]
      intro hm
      obtain ⟨z', hz', e'⟩ := List.mem_map.mp hm
      have h1 := (List.mem_filter.mp hz').1
      have h2 : key z ∉ (zs.map key).take i := nd_split nd (by rw [List.getElem?_map, hi]; rfl)
      rw [← List.map_take] at h2
      exact h2 (List.mem_map.mpr ⟨z', h1, e'⟩)
    have ep : putK kvs (key z) v = kvs ++ [(key z, v)] := putK_new _ (valV_no hno)
    have tu : ∀ o, TupS H5 (upd H5 D o) := fun o => tups_upd hD5 (fun xs z => by cases z)
    refine ⟨kvs, key z, ey, hD5, sz_lt hlt, hD, same_mut (e.trans (e2.trans (e3.trans (e4.trans e5)))) hD, kvs ++ [(key z, v)], by rw [ep]; exact upd_same, ?_⟩
    rw [take_one hi, List.filter_append, List.filter_cons, if_pos hb]
    exact paired_app (Paired.mapP hp fun v z r => ⟨r.1, hR _ _ _ _ ((tups_of (e2.trans (e3.trans (e4.trans e5)))).trans (tu _)) r.2⟩) ⟨rfl, hR _ _ _ _ (tu _) rv⟩
theorem dc_go {α : Type} {J : It} {n : Nat} {G : Hp → Prop} {Y : Nat → Hp → V → Hp → Prop} (w : Walk J n G Y) {g : TG} {tt : TT} {tk tv : TE} {vs : List Nat} {σ : L2.St} {H1 : Hp} {Q : VK}
    (zs : List α) (b : α → Bool) (key : α → L2.Key) (R : α → V → Hp → Prop) (hn : zs.length = n) (hz : n ≤ 100000) (nd : (zs.map key).Nodup) (hR : ∀ z v H H', TupS H H' → R z v H → R z v H') (hG : ∀ H, Same H1 H → G H)
    (hs : ∀ (i : Nat) z x H H', zs[i]? = some z → Same H1 H → Y i H x H' → ∀ Qg : L2.St → Hp → Prop, (∀ σ2 H2, wipe σ2 vs = wipe σ vs → Same H H2 → EvT tt σ2 H2 (b z) →
      (b z = true → ∀ H3, Same H2 H3 → Ev tk σ2 H3 (fun v _ => v = kV (key z))) → (b z = true → ∀ H3, Same H2 H3 → Ev tv σ2 H3 (R z)) → Qg σ2 H2) → g x (wipe σ vs) H' Qg)
    (hq : ∀ p H kvs, H1 p = none → Same H1 H → H p = some (.dK kvs) → Paired (fun kv z => kv.1 = key z ∧ R z kv.2 H) kvs (zs.filter b) → Q (.ref p) H) :
    ∀ D, H1 D = none → ∃ W : Nat → Nat → Hp → Prop, (∃ m, W 0 m (upd H1 D (.dK []))) ∧ ∀ i m H, W i m H → (J.stop i H ∧ Q (.ref D) H) ∨ (J.go i H ∧ ∃ Nx : Hp → Prop, (∀ H', Nx H' → ∃ m', m' < m ∧ W (i + 1) m' H') ∧
      ∀ x H', J.yld i H x H' → g x (wipe σ vs) H' fun σ2 H2 => wipe σ2 vs = wipe σ vs ∧ tt σ2 H2 fun b H3 => if b = true then tk σ2 H3 fun y H4 => tv σ2 H4 fun z H5 => ∃ kvs k, y = kV k ∧ H5 D = some (.dK kvs) ∧ kvs.length < sizeLine ∧ Nx (upd H5 D (.dK (putK kvs k z))) else Nx H3) := by
  intro D hD
  refine ⟨fun i m H => m = n - i ∧ i ≤ n ∧ DcInv H1 D zs b key R i H, ⟨n, by simp, Nat.zero_le _, hD, same_new hD, [], upd_same, .nil⟩, ?_⟩
  rintro i m H ⟨em, hi, p⟩
  have q := hG H p.2.1
  by_cases hlt : i < n
  · refine .inr ⟨w.goes i H hlt q, DcInv H1 D zs b key R (i + 1), fun H' p' => ⟨n - (i + 1), by omega, rfl, hlt, p'⟩, fun x H' y => ?_⟩
    obtain ⟨z, hz'⟩ : ∃ z, zs[i]? = some z := ⟨zs[i]'(by omega), List.getElem?_eq_getElem (by omega)⟩
    exact hs i z x H H' hz' p.2.1 (w.yields i H x H' hlt q y) _ fun σ2 H2 hw e2 ht hk he => ⟨hw, dcinv_step hR (by omega) nd hz' p e2 ht hk he⟩
  · have e : i = n := by omega
    subst e
    obtain ⟨_, e, kvs, hys, hp⟩ := p
    rw [← hn, List.take_length] at hp
    exact .inl ⟨w.stops H q, hq D H kvs hD e hys hp⟩
/-! ### a pair unpacked into two names -/
theorem pair_names {K : PySem.W.Frag} {i j : Nat} {σ : L2.St} {H : Hp} {T : Addr} {x y : V} {Q : L2.St → Hp → Prop} (hT : SqT K H T [x, y]) (q : Q ((σ.set i (some x)).set j (some y)) H) :
    gTup K 2 (gCons (gName i) (gCons (gName j) gNil)) (.ref T) σ H Q := ⟨T, [x, y], rfl, hT, rfl, x, [y], rfl, y, [], rfl, rfl, q⟩

/-! ### pairs, rows, tables -/
abbrev Row := List (Int × Int)
abbrev Tab := List (Str × Row)
def PairV (H : Hp) (v : V) (p : Int × Int) : Prop := ∃ a, v = .ref a ∧ H a = some (.tup [.int p.1, .int p.2])
def RowV (H : Hp) (v : V) (r : Row) : Prop := ∃ a vs, v = .ref a ∧ H a = some (.tup vs) ∧ Paired (PairV H) vs r
def TabV (H : Hp) (kvs : List (L2.Key × V)) (t : Tab) : Prop := Paired (fun kv e => kv.1 = Sum.inr e.1 ∧ RowV H kv.2 e.2) kvs t
theorem PairV.mono {H H' : Hp} {v : V} {p : Int × Int} (e : TupS H H') (h : PairV H v p) : PairV H' v p := by
  obtain ⟨a, e1, e2⟩ := h
  exact ⟨a, e1, e a _ e2⟩
theorem RowV.mono {H H' : Hp} {v : V} {r : Row} (e : TupS H H') (h : RowV H v r) : RowV H' v r := by
  obtain ⟨a, vs, e1, e2, e3⟩ := h
  exact ⟨a, vs, e1, e a _ e2, Paired.mapP e3 fun _ _ h => h.mono e⟩
theorem TabV.mono {H H' : Hp} {kvs : List (L2.Key × V)} {t : Tab} (e : TupS H H') (h : TabV H kvs t) : TabV H' kvs t :=
  Paired.mapP h fun _ _ h => ⟨h.1, h.2.mono e⟩
theorem paired_ix {α β : Type} {F : α → β → Prop} : ∀ {xs : List α} {ys : List β} {i : Nat} {y : β}, Paired F xs ys → ys[i]? = some y → ∃ x, xs[i]? = some x ∧ F x y
  | _, _, i, y, .nil, h => by simp at h
  | _, _, 0, y, .cons r t, h => by
    simp at h
    subst h
    exact ⟨_, rfl, r⟩
  | _, _, i + 1, y, .cons r t, h => by
    obtain ⟨x, h1, h2⟩ := paired_ix (i := i) t (by simpa using h)
    exact ⟨x, by simpa using h1, h2⟩
theorem paired_ix2 {α β : Type} {F : α → β → Prop} : ∀ {xs : List α} {ys : List β} {i : Nat} {x : α}, Paired F xs ys → xs[i]? = some x → ∃ y, ys[i]? = some y ∧ F x y
  | _, _, i, y, .nil, h => by simp at h
  | _, _, 0, y, .cons r t, h => by
    simp at h
    subst h
    exact ⟨_, rfl, r⟩
  | _, _, i + 1, y, .cons r t, h => by
    obtain ⟨x, h1, h2⟩ := paired_ix2 (i := i) t (by simpa using h)
    exact ⟨x, by simpa using h1, h2⟩
/-! ### what a right table is -/
def okName (x : Str) : Bool := decide (1 ≤ x.length) && decide (x.length ≤ 8) && x.cps.toList.all fun c => decide (97 ≤ c) && decide (c ≤ 122)
def okPair (n : Nat) (p : Int × Int) : Bool := decide (0 ≤ p.1) && decide (p.1 ≤ (n : Int) - 1) && decide (0 ≤ p.2) && decide (p.2 ≤ 99)
def okRow (n : Nat) (r : Row) : Bool := decide (r.length = n) && r.all (okPair n)
def sizeT (t : Tab) : Nat := match t with
  | [] => 0
  | e :: _ => e.2.length
def okTab (t : Tab) : Bool := decide (1 ≤ t.length) && decide (t.length ≤ 6) && decide (1 ≤ sizeT t) && decide (sizeT t ≤ 12) && t.all fun e => okName e.1 && okRow (sizeT t) e.2
theorem pe_ty {X : Cx} {n : String} {x : Str} {pos : Pos} (hg : Gl X x) (hm : X.mg x = none) (hv : bootBuiltins x = some (.type n)) (hn : x ≠ "__name__" := by decide) (hd : (x == ("__debug__" : Str)) = false := by decide) : PE X (.Name x pos) (tC (.ty n)) := pe_bltn (v := .ty n) hg hm hv rfl hn hd
/-- a constant of the top -/
structure GV (mg : Str → Option Value) (x : Str) (v : V) : Prop where
  ex : ∃ u, mg x = some u ∧ RelV v u
theorem GV.pe {X : Cx} {x : Str} {v : V} {pos : Pos} (g : GV X.mg x v) (hg : Gl X x := by rfl) (hd : (x == ("__debug__" : Str)) = false := by decide) : PE X (.Name x pos) (tC v) := by
  obtain ⟨u, h1, h2⟩ := g.ex
  exact pe_glob hg h1 h2 hd
theorem ifT {c : Bool} {A B : Prop} (hc : c = true) (h : A) : if c = true then A else B := by
  rw [if_pos hc]; exact h
theorem ifF {c : Bool} {A B : Prop} (hc : c = false) (h : B) : if c = true then A else B := by
  rw [hc, if_neg (by decide)]; exact h
/-- constants of the program's own modules -/
structure Gb (mg : Str → Option Value) : Prop where
  MAX_LETTERS : GV mg "MAX_LETTERS" (.int 8)
  MAX_STATES : GV mg "MAX_STATES" (.int 12)
  MAX_OPERATIONS : GV mg "MAX_OPERATIONS" (.int 6)
  MAX_ANSWER : GV mg "MAX_ANSWER" (.int 99)
  ALPHABET : GV mg "ALPHABET" (.str (PySem.Str.ofString "abcdefghijklmnopqrstuvwxyz"))
theorem bools_all {α : Type} (f : α → Bool) : ∀ {ys : List V} {zs : List α}, Paired (fun v z => v = V.bl (f z)) ys zs → ys = (zs.map f).map V.bl
  | _, _, .nil => rfl
  | _, _, .cons r t => by rw [r, bools_all f t]; rfl
theorem all_id_map {α : Type} (f : α → Bool) (zs : List α) : (zs.map f).all id = zs.all f := by
  rw [List.all_map]; rfl
theorem alpha_in {c : Nat} (h : (decide (97 ≤ c) && decide (c ≤ 122)) = true) : decide (c ∈ (PySem.Str.ofString "abcdefghijklmnopqrstuvwxyz").cps.toList) = true := by
  rw [Bool.and_eq_true, decide_eq_true_eq, decide_eq_true_eq] at h
  have e : (PySem.Str.ofString "abcdefghijklmnopqrstuvwxyz").cps.toList = (List.range 26).map (97 + ·) := by decide +kernel
  rw [e, decide_eq_true_eq, List.mem_map]
  exact ⟨c - 97, List.mem_range.mpr (by omega), by omega⟩
theorem same_seqT {K : PySem.W.Frag} {H H' : Hp} {a : Addr} {xs : List V} (e : Same H H') (h : SqT K H a xs) : SqT K H' a xs := by
  rcases h with (h | ⟨o, h⟩) | h
  · exact .inl (.inl (e _ _ h))
  · exact .inl (.inr ⟨o, e _ _ h⟩)
  · exact .inr h
theorem lc_runL {α : Type} {K : PySem.W.Frag} {σ : L2.St} {H : Hp} {Q : VK} {j : Nat} {tt : TT} {te : TE} {vs : List Nat} {tl : TE} {xs : List V} (hl : Ev tl σ H fun v H1 => ∃ a, v = .ref a ∧ SqL K H1 a xs) (zs : List α) (hlen : xs.length = zs.length)
    (b : α → Bool) (R : α → V → Hp → Prop) (hz : zs.length ≤ 100000) (hw : ∀ x, wipe ((wipe σ vs).set j (some x)) vs = wipe σ vs) (hR : ∀ z v H H', TupS H H' → R z v H → R z v H')
    (hs : ∀ (i : Nat) z x H1, zs[i]? = some z → xs[i]? = some x → Same H H1 → EvT tt ((wipe σ vs).set j (some x)) H1 (b z) ∧ (b z = true → ∀ H3, Same H1 H3 → Ev te ((wipe σ vs).set j (some x)) H3 (R z)))
    (hq : ∀ p H1 ys, H p = none → Same H H1 → H1 p = some (.lst ys) → Paired (fun v z => R z v H1) ys (zs.filter b) → Q (.ref p) H1) : tLc (iList K tl) (gName j) tt te vs σ H Q := by
  refine hl _ fun v H1 e h => ?_
  obtain ⟨a, ea, hs'⟩ := h
  refine ⟨a, ea, ⟨xs, hs'⟩, lc_name (Q := Q) (walk_list) zs b R (hlen.symm) (by omega) hw hR (fun H2 e2 => e2.seq hs') (fun i H v H' y => by rw [y.1]; exact Same.refl _) (fun i z x H2 H' hz' e2 y => ?_) (fun p H2 ys hp e2 => hq p H2 ys (e.free hp) (e.trans e2))⟩
  obtain ⟨e3, y⟩ := y
  subst e3
  exact hs i z x _ hz' y (e.trans e2)
theorem lc_runT {α : Type} {K : PySem.W.Frag} {σ : L2.St} {H : Hp} {Q : VK} {j : Nat} {tt : TT} {te : TE} {vs : List Nat} {tl : TE} {xs : List V} (hl : Ev tl σ H fun v H1 => ∃ a, v = .ref a ∧ SqT K H1 a xs) (zs : List α) (hlen : xs.length = zs.length)
    (b : α → Bool) (R : α → V → Hp → Prop) (hz : zs.length ≤ 100000) (hw : ∀ x, wipe ((wipe σ vs).set j (some x)) vs = wipe σ vs) (hR : ∀ z v H H', TupS H H' → R z v H → R z v H')
    (hs : ∀ (i : Nat) z x H1, zs[i]? = some z → xs[i]? = some x → Same H H1 → EvT tt ((wipe σ vs).set j (some x)) H1 (b z) ∧ (b z = true → ∀ H3, Same H1 H3 → Ev te ((wipe σ vs).set j (some x)) H3 (R z)))
    (hq : ∀ p H1 ys, H p = none → Same H H1 → H1 p = some (.lst ys) → Paired (fun v z => R z v H1) ys (zs.filter b) → Q (.ref p) H1) : tLc (iTup K tl) (gName j) tt te vs σ H Q := by
  refine hl _ fun v H1 e h => ?_
  obtain ⟨a, ea, hs'⟩ := h
  refine ⟨a, ea, ⟨xs, hs'⟩, lc_name (Q := Q) (walk_tup) zs b R (hlen.symm) (by omega) hw hR (fun H2 e2 => same_seqT e2 hs') (fun i H v H' y => by rw [y.1]; exact Same.refl _) (fun i z x H2 H' hz' e2 y => ?_) (fun p H2 ys hp e2 => hq p H2 ys (e.free hp) (e.trans e2))⟩
  obtain ⟨e3, y⟩ := y
  subst e3
  exact hs i z x _ hz' y (e.trans e2)
theorem lc_runR {α : Type} {σ : L2.St} {H : Hp} {Q : VK} {j : Nat} {tt : TT} {te : TE} {vs : List Nat} {ta : TA} {n : Int} (h : EvA ta σ H fun l _ => l = [.int n]) (hn : -100000 ≤ n ∧ n ≤ 100000) (zs : List α) (hlen : zs.length = n.toNat)
    (b : α → Bool) (R : α → V → Hp → Prop) (hz : zs.length ≤ 100000) (hw : ∀ x, wipe ((wipe σ vs).set j (some x)) vs = wipe σ vs) (hR : ∀ z v H H', TupS H H' → R z v H → R z v H')
    (hs : ∀ (i : Nat) z x H1, zs[i]? = some z → x = .int (i : Int) → Same H H1 → EvT tt ((wipe σ vs).set j (some x)) H1 (b z) ∧ (b z = true → ∀ H3, Same H1 H3 → Ev te ((wipe σ vs).set j (some x)) H3 (R z)))
    (hq : ∀ p H1 ys, H p = none → Same H H1 → H1 p = some (.lst ys) → Paired (fun v z => R z v H1) ys (zs.filter b) → Q (.ref p) H1) : tLc (iRng1 ta) (gName j) tt te vs σ H Q := by
  refine h _ fun l H1 e el => ⟨n, el, by omega, by omega, lc_name (Q := Q) (walk_range) zs b R (hlen) (by omega) hw hR (fun _ _ => trivial) (fun i H v H' y => by rw [y.1]; exact Same.refl _) (fun i z x H2 H' hz' e2 y => ?_) (fun p H2 ys hp e2 => hq p H2 ys (e.free hp) (e.trans e2))⟩
  obtain ⟨e3, y⟩ := y
  subst e3
  exact hs i z x _ hz' (by rw [y]; show V.int (0 + (i : Int)) = _; rw [Int.zero_add]) (e.trans e2)
theorem lc_runR2 {α : Type} {σ : L2.St} {H : Hp} {Q : VK} {j : Nat} {tt : TT} {te : TE} {vs : List Nat} {ta : TA} {lo n : Int} (h : EvA ta σ H fun l _ => l = [.int lo, .int n]) (hn : -100000 ≤ lo ∧ lo ≤ 100000 ∧ -100000 ≤ n ∧ n ≤ 100000) (zs : List α) (hlen : zs.length = (n - lo).toNat)
    (b : α → Bool) (R : α → V → Hp → Prop) (hz : zs.length ≤ 100000) (hw : ∀ x, wipe ((wipe σ vs).set j (some x)) vs = wipe σ vs) (hR : ∀ z v H H', TupS H H' → R z v H → R z v H')
    (hs : ∀ (i : Nat) z x H1, zs[i]? = some z → x = .int (lo + (i : Int)) → Same H H1 → EvT tt ((wipe σ vs).set j (some x)) H1 (b z) ∧ (b z = true → ∀ H3, Same H1 H3 → Ev te ((wipe σ vs).set j (some x)) H3 (R z)))
    (hq : ∀ p H1 ys, H p = none → Same H H1 → H1 p = some (.lst ys) → Paired (fun v z => R z v H1) ys (zs.filter b) → Q (.ref p) H1) : tLc (iRng2 ta) (gName j) tt te vs σ H Q := by
  refine h _ fun l H1 e el => ⟨lo, n, el, by omega, lc_name (Q := Q) (walk_range) zs b R (hlen) (by omega) hw hR (fun _ _ => trivial) (fun i H v H' y => by rw [y.1]; exact Same.refl _) (fun i z x H2 H' hz' e2 y => ?_) (fun p H2 ys hp e2 => hq p H2 ys (e.free hp) (e.trans e2))⟩
  obtain ⟨e3, y⟩ := y
  subst e3
  exact hs i z x _ hz' y (e.trans e2)
theorem lc_runS {α : Type} {σ : L2.St} {H : Hp} {Q : VK} {j : Nat} {tt : TT} {te : TE} {vs : List Nat} {te0 : TE} {x0 : Str} (h : Ev te0 σ H fun v _ => v = .str x0) (zs : List α) (hlen : zs.length = x0.cps.size)
    (b : α → Bool) (R : α → V → Hp → Prop) (hz : zs.length ≤ 100000) (hw : ∀ x, wipe ((wipe σ vs).set j (some x)) vs = wipe σ vs) (hR : ∀ z v H H', TupS H H' → R z v H → R z v H')
    (hs : ∀ (i : Nat) z x H1, zs[i]? = some z → (∃ c, x0.cps[i]? = some c ∧ x = .str ⟨#[c]⟩) → Same H H1 → EvT tt ((wipe σ vs).set j (some x)) H1 (b z) ∧ (b z = true → ∀ H3, Same H1 H3 → Ev te ((wipe σ vs).set j (some x)) H3 (R z)))
    (hq : ∀ p H1 ys, H p = none → Same H H1 → H1 p = some (.lst ys) → Paired (fun v z => R z v H1) ys (zs.filter b) → Q (.ref p) H1) : tLc (iStr te0) (gName j) tt te vs σ H Q := by
  refine h _ fun v H1 e ev => ⟨x0, ev, lc_name (Q := Q) (walk_str) zs b R (hlen) (by omega) hw hR (fun _ _ => trivial) (fun i H v H' y => by rw [y.1]; exact Same.refl _) (fun i z x H2 H' hz' e2 y => ?_) (fun p H2 ys hp e2 => hq p H2 ys (e.free hp) (e.trans e2))⟩
  obtain ⟨e3, y⟩ := y
  subst e3
  exact hs i z x _ hz' y (e.trans e2)
end Tm
namespace Tm
open PySem PySem.Spec PyProof.Rows L2

section
variable {α : Type} {K : PySem.W.Frag} {σ : L2.St} {H : Hp} {Q : VK} {i j : Nat} {tt : TT} {te tk tv : TE} {vs : List Nat}
/-- a comprehension over the items of a locked dict -/
theorem lc_runI {td : TE} {d : Addr} {o : Obj} {kvs : List (L2.Key × V)} (hd : Ev td σ H fun v _ => v = .ref d) (hf : H d = some (.frz o (.dK kvs))) (zs : List α) (hlen : zs.length = kvs.length) (b : α → Bool) (R : α → V → Hp → Prop) (hz : zs.length ≤ 100000)
    (hw : ∀ x y, wipe (((wipe σ vs).set i (some x)).set j (some y)) vs = wipe σ vs) (hR : ∀ z v H H', TupS H H' → R z v H → R z v H')
    (hs : ∀ (k : Nat) z kv H1, zs[k]? = some z → kvs[k]? = some kv → Same H H1 → EvT tt (((wipe σ vs).set i (some (kV kv.1))).set j (some kv.2)) H1 (b z) ∧ (b z = true → ∀ H3, Same H1 H3 → Ev te (((wipe σ vs).set i (some (kV kv.1))).set j (some kv.2)) H3 (R z)))
    (hq : ∀ p H1 ys, H p = none → Same H H1 → H1 p = some (.lst ys) → Paired (fun v z => R z v H1) ys (zs.filter b) → Q (.ref p) H1) :
    tLc (iItems td) (gTup K 2 (gCons (gName i) (gCons (gName j) gNil))) tt te vs σ H Q := by
  refine hd _ fun v H1 e ev => ⟨d, o, kvs, ev, e _ _ hf, ?_⟩
  refine lc_go (Q := Q) walk_items zs b R hlen (by omega) hR (fun H2 e2 => e2 _ _ (e _ _ hf)) (fun k z x H2 H' hz' e2 y Qg qg => ?_) (fun p H2 ys hp e2 => hq p H2 ys (e.free hp) (e.trans e2))
  obtain ⟨T, x', y', rfl, hT, rfl, hx, hy⟩ := y
  replace hx : kvs[k]?.map (fun kv => kV kv.1) = some x' := hx
  replace hy : kvs[k]?.map Prod.snd = some y' := hy
  cases hk : kvs[k]? with
  | none =>
    rw [hk] at hx
    cases hx
  | some kv =>
    rw [hk] at hx hy
    have ex : kV kv.1 = x' := Option.some.inj hx
    have ey : kv.2 = y' := Option.some.inj hy
    subst ex ey
    have e3 : Same H2 (upd H2 T (.tup [kV kv.1, kv.2])) := same_new hT
    refine pair_names (SqT.of upd_same) (qg _ _ (hw _ _) e3 (hs k z kv _ hz' hk (e.trans (e2.trans e3))).1 (hs k z kv _ hz' hk (e.trans (e2.trans e3))).2)
/-- a dict comprehension over a list, one name -/
theorem dc_runL {tl : TE} {xs : List V} (hl : Ev tl σ H fun v H1 => ∃ a, v = .ref a ∧ SqL K H1 a xs) (zs : List α) (hlen : xs.length = zs.length) (b : α → Bool) (key : α → L2.Key) (R : α → V → Hp → Prop) (hz : zs.length ≤ 100000) (nd : (zs.map key).Nodup)
    (hw : ∀ x, wipe ((wipe σ vs).set j (some x)) vs = wipe σ vs) (hR : ∀ z v H H', TupS H H' → R z v H → R z v H')
    (hs : ∀ (k : Nat) z x H1, zs[k]? = some z → xs[k]? = some x → Same H H1 → EvT tt ((wipe σ vs).set j (some x)) H1 (b z) ∧ (b z = true → ∀ H3, Same H1 H3 → Ev tk ((wipe σ vs).set j (some x)) H3 (fun v _ => v = kV (key z))) ∧ (b z = true → ∀ H3, Same H1 H3 → Ev tv ((wipe σ vs).set j (some x)) H3 (R z)))
    (hq : ∀ p H1 kvs, H p = none → Same H H1 → H1 p = some (.dK kvs) → Paired (fun kv z => kv.1 = key z ∧ R z kv.2 H1) kvs (zs.filter b) → Q (.ref p) H1) : tDc (iList K tl) (gName j) tt tk tv vs σ H Q := by
  refine hl _ fun v H1 e h => ?_
  obtain ⟨a, ea, hs'⟩ := h
  refine ⟨a, ea, ⟨xs, hs'⟩, dc_go (Q := Q) walk_list zs b key R hlen.symm (by omega) nd hR (fun H2 e2 => e2.seq hs') (fun k z x H2 H' hz' e2 y Qg qg => ?_) (fun p H2 ys hp e2 => hq p H2 ys (e.free hp) (e.trans e2))⟩
  obtain ⟨e3, y⟩ := y
  subst e3
  obtain ⟨h1, h2, h3⟩ := hs k z x _ hz' y (e.trans e2)
  exact qg _ _ (hw x) (Same.refl _) h1 h2 h3
/-- .. over enumerate of a list -/
theorem dc_runE {ta : TA} {xs : List V} (hl : EvA ta σ H fun l H1 => ∃ a, l = [.ref a] ∧ SqL K H1 a xs) (zs : List α) (hlen : xs.length = zs.length) (b : α → Bool) (key : α → L2.Key) (R : α → V → Hp → Prop) (hz : zs.length ≤ 100000) (nd : (zs.map key).Nodup)
    (hw : ∀ x y, wipe (((wipe σ vs).set i (some x)).set j (some y)) vs = wipe σ vs) (hR : ∀ z v H H', TupS H H' → R z v H → R z v H')
    (hs : ∀ (k : Nat) z x H1, zs[k]? = some z → xs[k]? = some x → Same H H1 → EvT tt (((wipe σ vs).set i (some (.int (k : Int)))).set j (some x)) H1 (b z) ∧ (b z = true → ∀ H3, Same H1 H3 → Ev tk (((wipe σ vs).set i (some (.int (k : Int)))).set j (some x)) H3 (fun v _ => v = kV (key z))) ∧
      (b z = true → ∀ H3, Same H1 H3 → Ev tv (((wipe σ vs).set i (some (.int (k : Int)))).set j (some x)) H3 (R z)))
    (hq : ∀ p H1 kvs, H p = none → Same H H1 → H1 p = some (.dK kvs) → Paired (fun kv z => kv.1 = key z ∧ R z kv.2 H1) kvs (zs.filter b) → Q (.ref p) H1) : tDc (iEnum K ta) (gTup K 2 (gCons (gName i) (gCons (gName j) gNil))) tt tk tv vs σ H Q := by
  refine hl _ fun v H1 e h => ?_
  obtain ⟨a, ea, hs'⟩ := h
  refine ⟨a, xs, ea, hs', dc_go (Q := Q) walk_enum zs b key R hlen.symm (by omega) nd hR (fun H2 e2 => e2.seq hs') (fun k z x H2 H' hz' e2 y Qg qg => ?_) (fun p H2 ys hp e2 => hq p H2 ys (e.free hp) (e.trans e2))⟩
  obtain ⟨T, x', y', rfl, hT, rfl, hx, hy⟩ := y
  have ex : V.int (k : Int) = x' := Option.some.inj hx
  subst ex
  have e3 : Same H2 (upd H2 T (.tup [V.int (k : Int), y'])) := same_new hT
  obtain ⟨h1, h2, h3⟩ := hs k z y' _ hz' hy (e.trans (e2.trans e3))
  exact pair_names (SqT.of upd_same) (qg _ _ (hw _ _) e3 h1 h2 h3)
/-- .. over the items of a locked dict -/
theorem dc_runI {td : TE} {d : Addr} {o : Obj} {kvs : List (L2.Key × V)} (hd : Ev td σ H fun v _ => v = .ref d) (hf : H d = some (.frz o (.dK kvs))) (zs : List α) (hlen : zs.length = kvs.length) (b : α → Bool) (key : α → L2.Key) (R : α → V → Hp → Prop) (hz : zs.length ≤ 100000) (nd : (zs.map key).Nodup)
    (hw : ∀ x y, wipe (((wipe σ vs).set i (some x)).set j (some y)) vs = wipe σ vs) (hR : ∀ z v H H', TupS H H' → R z v H → R z v H')
    (hs : ∀ (k : Nat) z kv H1, zs[k]? = some z → kvs[k]? = some kv → Same H H1 → EvT tt (((wipe σ vs).set i (some (kV kv.1))).set j (some kv.2)) H1 (b z) ∧ (b z = true → ∀ H3, Same H1 H3 → Ev tk (((wipe σ vs).set i (some (kV kv.1))).set j (some kv.2)) H3 (fun v _ => v = kV (key z))) ∧
      (b z = true → ∀ H3, Same H1 H3 → Ev tv (((wipe σ vs).set i (some (kV kv.1))).set j (some kv.2)) H3 (R z)))
    (hq : ∀ p H1 kvs', H p = none → Same H H1 → H1 p = some (.dK kvs') → Paired (fun kv z => kv.1 = key z ∧ R z kv.2 H1) kvs' (zs.filter b) → Q (.ref p) H1) :
    tDc (iItems td) (gTup K 2 (gCons (gName i) (gCons (gName j) gNil))) tt tk tv vs σ H Q := by
  refine hd _ fun v H1 e ev => ⟨d, o, kvs, ev, e _ _ hf, ?_⟩
  refine dc_go (Q := Q) walk_items zs b key R hlen (by omega) nd hR (fun H2 e2 => e2 _ _ (e _ _ hf)) (fun k z x H2 H' hz' e2 y Qg qg => ?_) (fun p H2 ys hp e2 => hq p H2 ys (e.free hp) (e.trans e2))
  obtain ⟨T, x', y', rfl, hT, rfl, hx, hy⟩ := y
  replace hx : kvs[k]?.map (fun kv => kV kv.1) = some x' := hx
  replace hy : kvs[k]?.map Prod.snd = some y' := hy
  cases hk : kvs[k]? with
  | none =>
    rw [hk] at hx
    cases hx
  | some kv =>
    rw [hk] at hx hy
    have ex : kV kv.1 = x' := Option.some.inj hx
    have ey : kv.2 = y' := Option.some.inj hy
    subst ex ey
    have e3 : Same H2 (upd H2 T (.tup [kV kv.1, kv.2])) := same_new hT
    obtain ⟨h1, h2, h3⟩ := hs k z kv _ hz' hk (e.trans (e2.trans e3))
    exact pair_names (SqT.of upd_same) (qg _ _ (hw _ _) e3 h1 h2 h3)
end
/-! ### a locked dict: what is within, what is behind -/
theorem lock_in {H : Hp} {d : Addr} {u : HO} {o : Obj} (h : H d = some u) (hu : ∀ xs, u ≠ .tup xs) : TupS H (upd H d (.frz o u)) := tups_upd h hu
theorem lock_out {H H' : Hp} {d : Addr} {u : HO} {o : Obj} (h : H d = some u) (e : Same (upd H d (.frz o u)) H') : Same H (upd H' d u) := fun b v hb => by
  by_cases hd : b = d
  · subst hd
    rw [upd_same, ← h]
    exact hb
  · rw [upd_ne hd]
    exact e b v (by rw [upd_ne hd]; exact hb)
/-! ### rules whose reading speaks of the written part, the same in a comprehension's block -/
section
variable {X : Cx} {K : PySem.W.Frag}
theorem lenK (hK : X.K = K := by rfl) : CallR X (.builtin "len") (fun xs H Q => ∃ p ys, xs = [.ref p] ∧ (SqL K H p ys ∨ SqT K H p ys) ∧ Q (.int ys.length) H) := by subst hK; exact call_len_seq
theorem ixTK (hK : X.K = K := by rfl) : IxR X (rIxT K) := by subst hK; exact ix_tup
theorem ixLK (hK : X.K = K := by rfl) : IxR X (rIxL K) := by subst hK; exact ix_list
theorem allK (hc : X.calm = true := by rfl) (hK : X.K = K := by rfl) : CallR X (.builtin "all") (rAll K) := by subst hK; exact cr_all hc
theorem tupleK (hK : X.K = K := by rfl) : CallR X (.type "tuple") (fun xs H Q => ∃ p ys, xs = [.ref p] ∧ ((SqL K H p ys ∧ ∀ l, H l = none → Q (.ref l) (upd H l (.tup ys))) ∨ (SqT K H p ys ∧ Q (.ref p) H))) := by subst hK; exact call_tuple_of
theorem isiK (hK : X.K = K := by rfl) : CallR X (.builtin "isinstance") (rIsi K) := by subst hK; exact call_isi
theorem repTK (hK : X.K = K := by rfl) : OpR X (binaryOp .Mult) (rRepT K) := by subst hK; exact op_repT
theorem pa_starK {e : Expr} {es : List Expr} {te : TE} {t : TA} {p : Pos} (he : PE X e te) (hr : PA X es t) (hK : X.K = K := by rfl) (hs : starEach (.Starred e p :: es) X.env = (true, eval e X.env) :: starEach es X.env := by rfl) : PA X (.Starred e p :: es) (StX.tStar K te t) := by subst hK; exact StX.pa_star he hr hs
theorem indexK (hK : X.K = K := by rfl) (hu : X.A.units + 65 < cLine) : MtR X "list.index" (rIndexD K) := by subst hK; exact mt_indexD hu
end
/-! ### what is walked, made first -/
section
variable {K : PySem.W.Frag} {tl : TE} {g : TG} {tt : TT} {te tk tv : TE} {vs : List Nat} {σ : L2.St} {H : Hp} {Q : VK} {P : V → Hp → Prop}
theorem dc_bind (hl : Ev tl σ H P) (k : ∀ v H1, Same H H1 → P v H1 → tDc (iList K (tC v)) g tt tk tv vs σ H1 Q) : tDc (iList K tl) g tt tk tv vs σ H Q := hl _ fun v H1 e p => k v H1 e p
theorem lc_bind (hl : Ev tl σ H P) (k : ∀ v H1, Same H H1 → P v H1 → tLc (iList K (tC v)) g tt te vs σ H1 Q) : tLc (iList K tl) g tt te vs σ H Q := hl _ fun v H1 e p => k v H1 e p
theorem lc_bindT (hl : Ev tl σ H P) (k : ∀ v H1, Same H H1 → P v H1 → tLc (iTup K (tC v)) g tt te vs σ H1 Q) : tLc (iTup K tl) g tt te vs σ H Q := hl _ fun v H1 e p => k v H1 e p
end
end Tm
namespace Tm
open PySem PySem.Spec PyProof.Rows L2
local macro_rules | `(tactic| walk_at "x") => `(tactic| dsimp only [tNext, tRet, tSeq, tCB, tCons, tNil, tAsg, tDrop])
def top (i : Nat) : Stmt := PySem.Challenge.pw_teamtells_k07_whole_machines_of_made_kin.main.body.getD i (.Pass ⟨0, 0, 0, 0⟩)
/-- names of the built-in things, that the top leaves alone -/
structure Bt (mg : Str → Option Value) : Prop where
  isinstance : mg "isinstance" = none
  int : mg "int" = none
  bool : mg "bool" = none
  str : mg "str" = none
  tuple : mg "tuple" = none
  list : mg "list" = none
  dict : mg "dict" = none
  len : mg "len" = none
  all : mg "all" = none
  range : mg "range" = none
  enumerate : mg "enumerate" = none
  sorted : mg "sorted" = none
  min : mg "min" = none
  max : mg "max" = none
  abs : mg "abs" = none
/-- a def of the top -/
structure Df (K : PySem.W.Frag) (mg : Str → Option Value) (x : Str) (st : Stmt) (ps : List Str) : Prop where
  ex : ∃ (f : Addr) (fd : FuncData), mg x = some (.ref f) ∧ PySem.W.keepIn K (.ref f) = true ∧ Fun K x x st f fd ∧ Binds K fd ps []
section
variable {P : Program} {w : World} {K : PySem.W.Frag} {mg : Str → Option Value} {base : Heap}
theorem Df.ok {x : Str} {st : Stmt} {ps N : List Str} {k : Nat} {sp : Sp} (D : Df K mg x st ps) (S : FnScope N ps (defScope st)) (len : ∀ vs H Q E, sp vs H Q E → vs.length = ps.length)
    (hb : ∀ (f : Addr) (cdv : Value) (A : Around) (outer : List Env) (s : Shared) (H : Hp) (vs : List V) (Q : VK) (E : XK), Room k (A.deeper (envOfC x (defScope st) s.heap.objs.size f cdv)) → sp vs H Q E →
      ∃ t, PSs (cxOf CX0 P w K mg base N x (defScope st) f cdv A outer s H E).nox (defBody st) t ∧ t { nx := fun _ H' => Q .non H', rt := Q } (start N vs) H) : Ok P w K mg base x (k + 1) ps sp := by
  obtain ⟨f, fd, h1, h2, h3, h4⟩ := D.ex
  exact ⟨f, fd, h1, h2, h3.ok S len (fun cdv A outer s H vs Q E hr h => hb f cdv A outer s H vs Q E hr h), h4⟩
/-! ### is_number_in, need_number -/
abbrev s_num : Stmt := top 7
theorem sc_num : FnScope ["value", "least", "most"] ["value", "least", "most"] (defScope s_num) := ⟨rfl, rfl, rfl, by decide +kernel, rfl, by decide +kernel, by decide +kernel⟩
def sp_num : Sp := fun vs H Q _ => ∃ n lo hi : Int, vs = [.int n, .int lo, .int hi] ∧ Q (.bl (decide (lo ≤ n) && decide (n ≤ hi))) H
theorem ok_num (B : Bt mg) (D : Df K mg "is_number_in" s_num ["value", "least", "most"]) : Ok P w K mg base "is_number_in" 1 ["value", "least", "most"] sp_num := by
  refine D.ok sc_num (fun vs H Q E h => ?_) (fun f cdv A outer s H vs Q E hr h => ?_)
  · obtain ⟨n, lo, hi, rfl, _⟩ := h
    rfl
  · obtain ⟨n, lo, hi, rfl, q⟩ := h
    refine ⟨_, pss_one (ps_ret (pe_and (pe_callB call_isi (by rfl) B.isinstance (by decide +kernel) (pa_cons (pv 0) (pa_cons (pe_ty (n := "int") (by rfl) B.int (by decide +kernel)) (pa_nil)))) (pe_and (pe_not (pe_callB call_isi (by rfl) B.isinstance (by decide +kernel) (pa_cons (pv 0) (pa_cons (pe_ty (n := "bool") (by rfl) B.bool (by decide +kernel)) (pa_nil))))) (pe_one (pe_chain op_le op_le (pv 1) (pv 0) (pv 2)))))), ?_⟩
    refine ⟨_, rfl, .int n, .ty "int", _, _, true, rfl, .ty "int", .base (.int n), kit_ty (by decide +kernel), ?_⟩
    refine ⟨_, rfl, ?_⟩; refine iteT ?_
    refine ⟨_, rfl, .int n, .ty "bool", _, _, false, rfl, .ty "bool", .base (.int n), kit_ty (by decide +kernel), ?_⟩
    refine ⟨_, rfl, true, rfl, ?_⟩; refine iteT ?_
    refine ⟨_, rfl, _, rfl, _, _, rfl, rfl, _, rfl, ite2 (fun h1 => ?_) (fun h1 => ?_)⟩
    · refine ⟨_, rfl, _, _, rfl, rfl, ?_⟩
      rw [show decide (lo ≤ n) = true from h1, Bool.true_and] at q
      exact q
    · have e : decide (lo ≤ n) = false := by simpa using h1
      rw [e, Bool.false_and] at q
      exact q
abbrev s_need : Stmt := top 8
theorem sc_need : FnScope ["value", "least", "most"] ["value", "least", "most"] (defScope s_need) := ⟨rfl, rfl, rfl, by decide +kernel, rfl, by decide +kernel, by decide +kernel⟩
/-- the number is let -/
def sp_need : Sp := fun vs H Q _ => ∃ n lo hi : Int, vs = [.int n, .int lo, .int hi] ∧ lo ≤ n ∧ n ≤ hi ∧ Q .non H
theorem ok_need (O_num : Ok P w K mg base "is_number_in" 1 ["value", "least", "most"] sp_num) (D : Df K mg "need_number" s_need ["value", "least", "most"]) : Ok P w K mg base "need_number" 2 ["value", "least", "most"] sp_need := by
  refine D.ok sc_need (fun vs H Q E h => ?_) (fun f cdv A outer s H vs Q E hr h => ?_)
  · obtain ⟨n, lo, hi, rfl, _⟩ := h
    rfl
  · obtain ⟨n, lo, hi, rfl, h1, h2, q⟩ := h
    refine ⟨_, pss_one (ps_if (pt_not (pt_val (O_num.call hr (ha := pa_cons (pv 0) (pa_cons (pv 1) (pa_cons (pv 2) pa_nil)))))) (pss_one ps_never) pss_nil), ?_⟩
    refine ⟨_, rfl, _, rfl, _, rfl, n, lo, hi, rfl, _, rfl, ?_⟩
    rw [decide_eq_true h1, decide_eq_true h2]
    exact iteF q
/-! ### is_name -/
abbrev s_name : Stmt := top 15
theorem sc_name : FnScope ["value", "letter"] ["value"] (defScope s_name) := ⟨rfl, rfl, rfl, by decide +kernel, rfl, by decide +kernel, by decide +kernel⟩
def sp_name : Sp := fun vs H Q _ => ∃ x : Str, vs = [.str x] ∧ okName x = true ∧ ∀ H', Same H H' → Q (.bl true) H'
theorem ok_name (B : Bt mg) (G : Gb mg) (D : Df K mg "is_name" s_name ["value"]) : Ok P w K mg base "is_name" 1 ["value"] sp_name := by
  refine D.ok sc_name (fun vs H Q E h => ?_) (fun f cdv A outer s H vs Q E hr h => ?_)
  · obtain ⟨x, rfl, _⟩ := h
    rfl
  · obtain ⟨x, rfl, hx, q⟩ := h
    unfold okName at hx
    simp only [Bool.and_eq_true, decide_eq_true_eq] at hx
    obtain ⟨⟨h1, h8⟩, ha⟩ := hx
    refine ⟨_, pss_cons (ps_if (PW.pt (pw_or (pt_not (pt_val (pe_callB call_isi (by rfl) B.isinstance (by decide +kernel) (pa_cons (pv 0) (pa_cons (pe_ty (n := "str") (by rfl) B.str (by decide +kernel)) pa_nil))))) (pw_or1 (pt_not (pt_chain op_le op_le pe_int (pe_callB call_len_str (by rfl) B.len (by decide +kernel) (pa_cons (pv 0) pa_nil)) G.MAX_LETTERS.pe)))))
        (pss_one (ps_ret pe_bl)) pss_nil)
      (pss_one (ps_ret (pe_callB (cr_all rfl) (by rfl) B.all (by decide +kernel) (pa_cons (pe_lc (own := [("letter", 1)]) (g := gName 1) (tt := tYes) rfl sc_name.nd (pi_str (pv 0)) (blkOk_by (own := [("letter", 1)]) (N := ["value", "letter"]) (sc := defScope s_name) (by decide +kernel)) (fun _ _ _ _ _ => pg_name (i := 1) sc_name.nd rfl (.inl rfl)) (fun _ _ _ _ _ => pts_nil) (fun _ _ _ _ _ => pe_cmpR op_in_sign (pv 1) G.ALPHABET.pe rfl)) pa_nil)))), ?_⟩
    refine ⟨_, rfl, .str x, .ty "str", _, _, true, rfl, .ty "str", .base (.str x), kit_ty (by decide +kernel), _, rfl, ?_⟩
    refine ifF rfl ?_
    refine ⟨_, rfl, x, rfl, sz_le (by omega), _, _, rfl, rfl, _, rfl, ?_⟩
    refine ifT (decide_eq_true (by omega)) ?_
    refine ⟨_, _, rfl, rfl, _, rfl, ?_⟩
    refine ifF (by rw [decide_eq_true (show (x.length : Int) ≤ 8 by omega)]; rfl) ?_
    walk_at "x"
    refine lc_runS (x0 := x) (ev_is rfl rfl) x.cps.toList (Array.length_toList ..) (fun _ => true) (fun c v _ => v = V.bl (decide (c ∈ (PySem.Str.ofString "abcdefghijklmnopqrstuvwxyz").cps.toList))) (by rw [Array.length_toList]; show x.length ≤ 100000; omega) (by intro _; rfl) (fun _ _ _ _ _ h => h)
      (fun i z v H hi y e => ⟨evt_yes, fun _ H3 e3 Q q => ?_⟩) (fun p H ys hp e hl hP => ?_)
    · obtain ⟨c, hc, rfl⟩ := y
      have ez : c = z := by
        rw [Array.getElem?_toList, hc] at hi
        exact Option.some.inj hi
      subst ez
      exact ⟨_, rfl, c, _, rfl, rfl, q _ _ (Same.refl _) rfl⟩
    · rw [filter_all] at hP
      have ey := bools_all _ hP
      rw [ey] at hl
      refine ⟨p, _, rfl, SqL.of hl, ?_⟩
      rw [all_id_map, List.all_eq_true.mpr fun c hc => alpha_in (List.all_eq_true.mp ha c hc)]
      exact q H e
/-! ### _is_pair, _is_row -/
abbrev s_pair : Stmt := top 16
theorem sc_pair : FnScope ["value", "size"] ["value", "size"] (defScope s_pair) := ⟨rfl, rfl, rfl, by decide +kernel, rfl, by decide +kernel, by decide +kernel⟩
def sp_pair : Sp := fun vs H Q _ => ∃ (v : V) (p : Int × Int) (n : Nat), vs = [v, .int n] ∧ PairV H v p ∧ okPair n p = true ∧ Q (.bl true) H
theorem ok_pair (B : Bt mg) (G : Gb mg) (O_is_number_in : Ok P w K mg base "is_number_in" 1 ["value", "least", "most"] sp_num) (D : Df K mg "_is_pair" s_pair ["value", "size"]) : Ok P w K mg base "_is_pair" 2 ["value", "size"] sp_pair := by
  refine D.ok sc_pair (fun vs H Q E h => ?_) (fun f cdv A outer s H vs Q E hr h => ?_)
  · obtain ⟨v, p, n, rfl, _⟩ := h
    rfl
  · obtain ⟨v, p, n, rfl, ⟨a, rfl, ha⟩, hp, q⟩ := h
    unfold okPair at hp
    simp only [Bool.and_eq_true, decide_eq_true_eq] at hp
    obtain ⟨⟨⟨h1, h2⟩, h3⟩, h4⟩ := hp
    refine ⟨_, pss_cons (ps_if (PW.pt (pw_or (pt_not (pt_val (pe_callB call_isi (by rfl) B.isinstance (by decide +kernel) (pa_cons (pv 0) (pa_cons (pe_ty (n := "tuple") (by rfl) B.tuple (by decide +kernel)) (pa_nil)))))) (pw_or1 (pt_cmpR op_ne (pe_callB (lenK (K := K)) (by rfl) B.len (by decide +kernel) (pa_cons (pv 0) (pa_nil))) (pe_int) (nomark _)))))
        (pss_one (ps_ret (pe_bl)))
        (pss_nil))
      (pss_one (ps_ret (pe_and (O_is_number_in.call hr (ha := pa_cons (pe_ix ix_tup (pv 0) (pe_int) (fun _ _ => rfl)) (pa_cons (pe_int) (pa_cons (pe_op op_sub (pv 1) (pe_int)) (pa_nil))))) (pe_one (O_is_number_in.call hr (ha := pa_cons (pe_ix ix_tup (pv 0) (pe_int) (fun _ _ => rfl)) (pa_cons (pe_int) (pa_cons (G.MAX_ANSWER.pe) (pa_nil))))))))), ?_⟩
    refine ⟨_, rfl, .ref a, .ty "tuple", _, _, true, rfl, .ty "tuple", .base (.tup ha), kit_ty (by decide +kernel), _, rfl, ?_⟩
    refine ifF rfl ?_
    refine ⟨_, rfl, a, _, rfl, .inr (SqT.of ha), rfl, _, rfl, ?_⟩
    refine ifF (by simp) ?_
    refine ⟨_, rfl, a, _, 0, _, rfl, rfl, SqT.of ha, rfl, _, rfl, n, 1, rfl, rfl, p.1, 0, (n : Int) - 1, rfl, _, rfl, ?_⟩
    refine ifT (by rw [decide_eq_true h1, decide_eq_true h2]; rfl) ?_
    refine ⟨_, rfl, a, _, 1, _, rfl, rfl, SqT.of ha, rfl, p.2, 0, 99, rfl, ?_⟩
    rw [decide_eq_true h3, decide_eq_true h4]
    exact q
abbrev s_row : Stmt := top 17
theorem sc_row : FnScope ["value", "size", "pair"] ["value", "size"] (defScope s_row) := ⟨rfl, rfl, rfl, by decide +kernel, rfl, by decide +kernel, by decide +kernel⟩
def sp_row : Sp := fun vs H Q _ => ∃ (v : V) (r : Row) (n : Nat), vs = [v, .int n] ∧ RowV H v r ∧ okRow n r = true ∧ n ≤ 12 ∧ ∀ H', Same H H' → Q (.bl true) H'
theorem ok_row (B : Bt mg) (G : Gb mg) (O_is_pair : Ok P w K mg base "_is_pair" 2 ["value", "size"] sp_pair) (D : Df K mg "_is_row" s_row ["value", "size"]) : Ok P w K mg base "_is_row" 3 ["value", "size"] sp_row := by
  refine D.ok sc_row (fun vs H Q E h => ?_) (fun f cdv A outer s H vs Q E hr h => ?_)
  · obtain ⟨v, p, n, rfl, _⟩ := h
    rfl
  · obtain ⟨v, r, n, rfl, ⟨a, xs, rfl, ha, hx⟩, hp, h12, q⟩ := h
    unfold okRow at hp
    simp only [Bool.and_eq_true, decide_eq_true_eq] at hp
    obtain ⟨hl, hall⟩ := hp
    have hlx := Paired.length hx
    refine ⟨_, pss_cons (ps_if (PW.pt (pw_or (pt_not (pt_val (pe_callB call_isi (by rfl) B.isinstance (by decide +kernel) (pa_cons (pv 0) (pa_cons (pe_ty (n := "tuple") (by rfl) B.tuple (by decide +kernel)) (pa_nil)))))) (pw_or1 (pt_cmpR op_ne (pe_callB (lenK (K := K)) (by rfl) B.len (by decide +kernel) (pa_cons (pv 0) (pa_nil))) (pv 1) (nomark _)))))
        (pss_one (ps_ret (pe_bl)))
        (pss_nil))
      (pss_one (ps_ret (pe_callB (cr_all rfl) (by rfl) B.all (by decide +kernel) (pa_cons (pe_lc (own := [("pair", 2)]) (g := gName 2) (tt := tYes) rfl sc_row.nd (pi_tup (pv 0)) (blkOk_by (own := [("pair", 2)]) (N := ["value", "size", "pair"]) (sc := defScope s_row) (by decide +kernel)) (fun _ _ _ _ _ => pg_name (i := 2) sc_row.nd rfl (.inl rfl)) (fun _ _ _ _ _ => pts_nil) (fun _ _ _ _ _ => O_is_pair.call hr (ha := pa_cons (pv 2) (pa_cons (pv 1) (pa_nil))))) (pa_nil))))), ?_⟩
    refine ⟨_, rfl, .ref a, .ty "tuple", _, _, true, rfl, .ty "tuple", .base (.tup ha), kit_ty (by decide +kernel), _, rfl, ?_⟩
    refine ifF rfl ?_
    refine ⟨_, rfl, a, _, rfl, .inr (SqT.of ha), _, rfl, rfl, _, rfl, ?_⟩
    refine ifF (by rw [hlx, hl]; simp) ?_
    walk_at "x"
    refine lc_runT (K := K) (xs := xs) (ev_is rfl ⟨a, rfl, SqT.of ha⟩) r hlx (fun _ => true) (fun z v _ => v = V.bl (okPair n z)) (by omega) (by intro _; rfl) (fun _ _ _ _ _ h => h)
      (fun i z v H1 hi y e => ⟨evt_yes, fun _ H3 e3 Q q => ?_⟩) (fun p H1 ys hp e hl' hP => ?_)
    · obtain ⟨z', hz', hpz⟩ := paired_ix2 hx y
      rw [hi] at hz'
      cases hz'
      have hok : okPair n z = true := List.all_eq_true.mp hall z (List.mem_of_getElem? hi)
      exact ⟨_, rfl, _, rfl, v, z, n, rfl, hpz.mono (tups_of (e.trans e3)), hok, q _ _ (Same.refl _) (by rw [hok])⟩
    · rw [filter_all] at hP
      have ey := bools_all _ hP
      rw [ey] at hl'
      refine ⟨p, _, rfl, SqL.of hl', ?_⟩
      rw [all_id_map, hall]
      exact q H1 e
/-! ### _is_table -/
abbrev s_table : Stmt := top 18
theorem sc_table : FnScope ["value", "first", "name", "row"] ["value"] (defScope s_table) := ⟨rfl, rfl, rfl, by decide +kernel, rfl, by decide +kernel, by decide +kernel⟩
def sp_table : Sp := fun vs H Q _ => ∃ (a : Addr) (kvs : List (L2.Key × V)) (t : Tab), vs = [.ref a] ∧ H a = some (.dK kvs) ∧ TabV H kvs t ∧ okTab t = true ∧ ∀ H', Same H H' → Q (.bl true) H'
theorem ok_table (B : Bt mg) (G : Gb mg) (O_is_name : Ok P w K mg base "is_name" 1 ["value"] sp_name) (O_is_row : Ok P w K mg base "_is_row" 3 ["value", "size"] sp_row) (D : Df K mg "_is_table" s_table ["value"]) : Ok P w K mg base "_is_table" 4 ["value"] sp_table := by
  refine D.ok sc_table (fun vs H Q E h => ?_) (fun f cdv A outer s H vs Q E hr h => ?_)
  · obtain ⟨a, kvs, t, rfl, _⟩ := h
    rfl
  · obtain ⟨a, kvs, t, rfl, ha, ht, hok, q⟩ := h
    unfold okTab at hok
    simp only [Bool.and_eq_true, decide_eq_true_eq] at hok
    obtain ⟨⟨⟨⟨h1, h6⟩, hs1⟩, hs12⟩, hall⟩ := hok
    have hlen := Paired.length ht
    obtain ⟨e0, t', rfl⟩ : ∃ e0 t', t = e0 :: t' := by
      cases t with
      | nil => simp at h1
      | cons e0 t' => exact ⟨e0, t', rfl⟩
    obtain ⟨kv0, kvs', rfl⟩ : ∃ kv0 kvs', kvs = kv0 :: kvs' := by
      cases kvs with
      | nil => simp at hlen
      | cons kv0 kvs' => exact ⟨kv0, kvs', rfl⟩
    have hz : kv0.1 = Sum.inr e0.1 ∧ RowV H kv0.2 e0.2 := by
      cases ht with
      | cons r _ => exact r
    obtain ⟨_, b, rs, eb, hb, hrs⟩ := hz
    have hrl := Paired.length hrs
    have hsz : sizeT (e0 :: t') = e0.2.length := rfl
    refine ⟨_, pss_cons (ps_if (PW.pt (pw_or (pt_not (pt_val (pe_callB call_isi (by rfl) B.isinstance (by decide +kernel) (pa_cons (pv 0) (pa_cons (pe_ty (n := "dict") (by rfl) B.dict (by decide +kernel)) (pa_nil)))))) (pw_or1 (pt_not (pt_chain op_le op_le (pe_int) (pe_callB call_lenD (by rfl) B.len (by decide +kernel) (pa_cons (pv 0) (pa_nil))) (G.MAX_OPERATIONS.pe))))))
        (pss_one (ps_ret (pe_bl)))
        (pss_nil))
      (pss_cons (ps_set (i := 1) sc_table.nd rfl (.inr rfl) (pe_ix ix_list (pe_listVals rfl (pv 0) (by rfl) B.list) (pe_int) (fun _ _ => rfl)))
      (pss_cons (ps_if (PW.pt (pw_or (pt_not (pt_val (pe_callB call_isi (by rfl) B.isinstance (by decide +kernel) (pa_cons (pv 1) (pa_cons (pe_ty (n := "tuple") (by rfl) B.tuple (by decide +kernel)) (pa_nil)))))) (pw_or1 (pt_not (pt_chain op_le op_le (pe_int) (pe_callB (lenK (K := K)) (by rfl) B.len (by decide +kernel) (pa_cons (pv 1) (pa_nil))) (G.MAX_STATES.pe))))))
        (pss_one (ps_ret (pe_bl)))
        (pss_nil))
      (pss_one (ps_ret (pe_callB (cr_all rfl) (by rfl) B.all (by decide +kernel) (pa_cons (pe_lock (pe_lc (own := [("name", 2), ("row", 3)]) (g := gTup K 2 (gCons (gName 2) (gCons (gName 3) (gNil)))) (tt := tYes) rfl sc_table.nd (pi_items (pv 0)) (blkOk_by (own := [("name", 2), ("row", 3)]) (N := ["value", "first", "name", "row"]) (sc := defScope s_table) (by decide +kernel)) (fun _ _ _ _ _ => pg_tup (by rfl) (pgs_cons (pg_name (i := 2) sc_table.nd rfl (.inl rfl)) (pgs_cons (pg_name (i := 3) sc_table.nd rfl (.inl rfl)) (pgs_nil)))) (fun _ _ _ _ _ => pts_nil) (fun _ _ _ _ _ => pe_and (O_is_name.call hr (ha := pa_cons (pv 2) (pa_nil))) (pe_one (O_is_row.call hr (ha := pa_cons (pv 3) (pa_cons (pe_callB (lenK (K := K)) (by rfl) B.len (by decide +kernel) (pa_cons (pv 1) (pa_nil))) (pa_nil)))))))) (pa_nil))))))), ?_⟩
    refine ⟨_, rfl, .ref a, .ty "dict", _, _, true, rfl, .ty "dict", .base (.dK ha), kit_ty (by decide +kernel), _, rfl, ?_⟩
    refine ifF rfl ?_
    refine ⟨_, rfl, a, _, rfl, ha, _, _, rfl, rfl, _, rfl, ?_⟩
    refine ifT (decide_eq_true (by rw [hlen]; omega)) ?_
    refine ⟨_, _, rfl, rfl, _, rfl, ?_⟩
    refine ifF (by rw [decide_eq_true (by rw [hlen]; omega)]; rfl) ?_
    refine ⟨_, rfl, a, _, rfl, ha, fun p hp => ?_⟩
    refine ⟨p, _, 0, kv0.2, rfl, rfl, SqL.of upd_same, at_of (j := 0) rfl rfl, ?_⟩
    rw [eb]
    have e1 : Same H (upd H p (.lst (List.map (·.2) (kv0 :: kvs')))) := same_new hp
    generalize upd H p (.lst (List.map (·.2) (kv0 :: kvs'))) = H1 at e1 ⊢
    refine ⟨_, rfl, .ref b, .ty "tuple", _, _, true, rfl, .ty "tuple", .base (.tup (e1 _ _ hb)), kit_ty (by decide +kernel), _, rfl, ?_⟩
    refine ifF rfl ?_
    refine ⟨_, rfl, b, _, rfl, .inr (SqT.of (e1 _ _ hb)), _, _, rfl, rfl, _, rfl, ?_⟩
    refine ifT (decide_eq_true (by rw [hrl]; omega)) ?_
    refine ⟨_, _, rfl, rfl, _, rfl, ?_⟩
    refine ifF (by rw [decide_eq_true (by rw [hrl]; omega)]; rfl) ?_
    walk_at "x"
    refine ⟨a, .dK (kv0 :: kvs'), e1 _ _ ha, trivial, fun od => ?_⟩
    have tu : TupS H1 (upd H1 a (.frz od (.dK (kv0 :: kvs')))) := lock_in (e1 _ _ ha) (fun xs z => by cases z)
    refine lc_runI (K := K) (o := od) (kvs := kv0 :: kvs') (ev_is rfl rfl) upd_same (e0 :: t') hlen.symm (fun _ => true) (fun z v _ => v = V.bl true) (by omega) (by intro _ _; rfl) (fun _ _ _ _ _ h => h)
      (fun i z kv H2 hi hk e => ⟨evt_yes, fun _ H3 e3 Q q => ?_⟩) (fun p2 H2 ys hp2 e2 hl' hP => ?_)
    · obtain ⟨z', hz', hk1, hk2⟩ := paired_ix2 ht hk
      rw [hi] at hz'
      cases hz'
      have hin := List.all_eq_true.mp hall z (List.mem_of_getElem? hi)
      rw [Bool.and_eq_true] at hin
      have t3 : TupS H H3 := ((tups_of e1).trans tu).trans (tups_of (e.trans e3))
      refine ⟨_, rfl, z.1, by rw [hk1]; rfl, hin.1, fun H4 e4 => ⟨_, rfl, ?_⟩⟩
      refine ifT rfl ?_
      refine ⟨_, rfl, _, rfl, b, _, rfl, .inr (SqT.of (e4 _ _ (t3 _ _ hb))), kv.2, z.2, e0.2.length, by rw [hrl]; rfl, hk2.mono (t3.trans (tups_of e4)), hin.2, hs12, fun H5 e5 => q _ _ (e4.trans e5) rfl⟩
    · rw [filter_all] at hP
      have ey := bools_all (fun _ => true) hP
      rw [ey] at hl'
      have np : p2 ≠ a := fun z => by rw [z, upd_same] at hp2; cases hp2
      refine ⟨e2 _ _ upd_same, p2, _, rfl, SqL.of (by rw [upd_ne np]; exact hl'), ?_⟩
      rw [all_id_map, List.all_eq_true.mpr fun _ _ => rfl]
      exact q _ (e1.trans (lock_out (e1 _ _ ha) e2))
end
end Tm
namespace Tm
open PySem PySem.Spec PyProof.Rows L2
local macro_rules | `(tactic| walk_at "x") => `(tactic| dsimp only [tNext, tRet, tSeq, tCB, tCons, tNil, tAsg, tDrop])
/-! ### the class -/
structure DfM (K : PySem.W.Frag) (C : Addr) (m q : Str) (st : Stmt) (ps : List Str) : Prop where
  ex : ∃ (f : Addr) (fd : FuncData), Meth K C m f ∧ Fun K m q st f fd ∧ Binds K fd ps []
structure DfP (K : PySem.W.Frag) (C : Addr) (m q : Str) (st : Stmt) : Prop where
  ex : ∃ (p g : Addr) (fd : FuncData), PropOf K C m p g ∧ Fun K m q st g fd ∧ Binds K fd ["self"] []
structure DfC (K : PySem.W.Frag) (mg : Str → Option Value) (x : Str) (C : Addr) (q : Str) (st : Stmt) (ps : List Str) : Prop where
  ex : ∃ (f : Addr) (fd : FuncData), mg x = some (.ref C) ∧ Mk K C f ∧ Fun K "__init__" q st f fd ∧ Binds K fd ps []
structure DfIn (K : PySem.W.Frag) (C : Addr) (q : Str) (st : Stmt) (ps : List Str) : Prop where
  ex : ∃ (f : Addr) (fd : FuncData), InM K C f ∧ Fun K "__contains__" q st f fd ∧ Binds K fd ps []
/-- a body of the text keeps its promise -/
def BodyOk (P : Program) (w : World) (K : PySem.W.Frag) (mg : Str → Option Value) (base : Heap) (q : Str) (st : Stmt) (N : List Str) (k : Nat) (sp : Sp) : Prop :=
  ∀ (f : Addr) (cdv : Value) (A : Around) (outer : List Env) (s : Shared) (H : Hp) (vs : List V) (Q : VK) (E : XK), Room k (A.deeper (envOfC q (defScope st) s.heap.objs.size f cdv)) → sp vs H Q E →
      ∃ t, PSs (cxOf CX0 P w K mg base N q (defScope st) f cdv A outer s H E).nox (defBody st) t ∧ t { nx := fun _ H' => Q .non H', rt := Q } (start N vs) H
section
variable {P : Program} {w : World} {K : PySem.W.Frag} {mg : Str → Option Value} {base : Heap} {C : Addr} {m q x : Str} {st : Stmt} {ps N : List Str} {k : Nat} {sp : Sp}
theorem DfM.ok (D : DfM K C m q st ps) (S : FnScope N ps (defScope st)) (len : ∀ vs H Q E, sp vs H Q E → vs.length = ps.length) (hb : BodyOk P w K mg base q st N k sp) : OkM P w K mg base C m (k + 1) ps sp := by
  obtain ⟨f, fd, h1, h2, h3⟩ := D.ex
  exact ⟨f, fd, h1, h2.ok S len (fun cdv A outer s H vs Q E hr h => hb f cdv A outer s H vs Q E hr h), h3⟩
theorem DfP.ok (D : DfP K C m q st) (S : FnScope N ["self"] (defScope st)) (len : ∀ vs H Q E, sp vs H Q E → vs.length = 1) (hb : BodyOk P w K mg base q st N k sp) : OkP P w K mg base C m (k + 1) sp := by
  obtain ⟨p, g, fd, h1, h2, h3⟩ := D.ex
  exact ⟨p, g, fd, h1, h2.ok S len (fun cdv A outer s H vs Q E hr h => hb g cdv A outer s H vs Q E hr h), h3⟩
theorem DfC.ok (D : DfC K mg x C q st ps) (S : FnScope N ps (defScope st)) (len : ∀ vs H Q E, sp vs H Q E → vs.length = ps.length) (hb : BodyOk P w K mg base q st N k sp) : OkC P w K mg base x C (k + 1) ps sp := by
  obtain ⟨f, fd, h0, h1, h2, h3⟩ := D.ex
  exact ⟨f, fd, h0, h1, h2.ok S len (fun cdv A outer s H vs Q E hr h => hb f cdv A outer s H vs Q E hr h), h3⟩
theorem DfIn.ok (D : DfIn K C q st ps) (S : FnScope N ps (defScope st)) (len : ∀ vs H Q E, sp vs H Q E → vs.length = ps.length) (hb : BodyOk P w K mg base q st N k sp) : OkIn P w K mg base C (k + 1) ps sp := by
  obtain ⟨f, fd, h1, h2, h3⟩ := D.ex
  exact ⟨f, fd, h1, h2.ok S len (fun cdv A outer s H vs Q E hr h => hb f cdv A outer s H vs Q E hr h), h3⟩
end
/-- what is true of the class Kind -/
structure Kc (K : PySem.W.Frag) (C : Addr) : Prop where
  cl : Cls K C
  nT : NoAttr K C "_table"
  nS : NoAttr K C "_size"
def kflds (d : Addr) (n : Int) : List (Str × V) := [("_table", .ref d), ("_size", .int n)]
theorem kT_ne : ¬ (("_table" : Str) = "_size") := by decide +kernel
theorem kf_put (d : Addr) (n : Int) : putF "_size" (.int n) (putF "_table" (.ref d) []) = kflds d n := by
  show (if ("_table" : Str) = "_size" then _ else (("_table" : Str), V.ref d) :: putF "_size" (V.int n) []) = _
  rw [if_neg kT_ne]
  rfl
theorem kf_T (d : Addr) (n : Int) : (kflds d n).lookup ("_table" : Str) = some (.ref d) := by simp [kflds, List.lookup]
theorem kf_S (d : Addr) (n : Int) : (kflds d n).lookup ("_size" : Str) = some (.int n) := by
  have h : (("_size" : Str) == ("_table" : Str)) = false := by decide +kernel
  simp [kflds, List.lookup, h]
theorem kf_no (d : Addr) (n : Int) {m : Str} (h1 : (m == ("_table" : Str)) = false := by decide +kernel) (h2 : (m == ("_size" : Str)) = false := by decide +kernel) : (kflds d n).lookup m = none := by
  simp [kflds, List.lookup, h1, h2]
def namesT (t : Tab) : List Str := t.map (·.1)
/-- at v a kind with the table t -/
def KindV (C : Addr) (H : Hp) (v : V) (t : Tab) : Prop := ∃ a dx d kvs, v = .ref a ∧ H a = some (.ins C dx (kflds d (sizeT t))) ∧ H d = some (.dK kvs) ∧ TabV H kvs t ∧ okTab t = true ∧ (namesT t).Nodup ∧ sortedS (namesT t) = true
theorem KindV.mono {C : Addr} {H H' : Hp} {v : V} {t : Tab} (e : Same H H') (h : KindV C H v t) : KindV C H' v t := by
  obtain ⟨a, dx, d, kvs, e1, e2, e3, e4, e5⟩ := h
  exact ⟨a, dx, d, kvs, e1, e _ _ e2, e _ _ e3, e4.mono (tups_of e), e5⟩
/-! ### look-ups in a table -/
theorem tabV_keys {H : Hp} {kvs : List (L2.Key × V)} {t : Tab} (h : TabV H kvs t) : kvs.map (·.1) = (namesT t).map Sum.inr := by
  unfold namesT
  rw [paired_keys (key := fun e : Str × Row => Sum.inr e.1) (fun kv z h => h.1) h, List.map_map]
  rfl
theorem valV_cons {kv : L2.Key × V} {kvs : List (L2.Key × V)} {k : L2.Key} : valV (kv :: kvs) k = if kv.1 = k then some kv.2 else valV kvs k := by
  unfold valV
  rw [List.find?_cons]
  by_cases h : kv.1 = k
  · rw [if_pos h, decide_eq_true h]; rfl
  · rw [if_neg h, decide_eq_false h]
theorem tab_look {H : Hp} : ∀ {kvs : List (L2.Key × V)} {t : Tab} {x : Str} {r : Row}, TabV H kvs t → (namesT t).Nodup → (x, r) ∈ t → ∃ v, valV kvs (Sum.inr x) = some v ∧ RowV H v r
  | _, _, x, r, .nil, _, hm => by simp at hm
  | kv :: kvs, e :: t, x, r, .cons h ht, nd, hm => by
    have nd' := List.nodup_cons.mp (show (e.1 :: namesT t).Nodup from nd)
    rw [valV_cons, h.1]
    rcases List.mem_cons.mp hm with e1 | hm
    · subst e1
      exact ⟨kv.2, if_pos rfl, h.2⟩
    · have hne : e.1 ≠ x := fun z => nd'.1 (by rw [z]; exact List.mem_map.mpr ⟨(x, r), hm, rfl⟩)
      rw [if_neg (fun z => hne (Sum.inr.inj z))]
      exact tab_look ht nd'.2 hm
theorem row_unique {t : Tab} {x : Str} {r r' : Row} (nd : (namesT t).Nodup) (h : (x, r) ∈ t) (h' : (x, r') ∈ t) : r = r' := by
  obtain ⟨i, hi, e⟩ := List.mem_iff_getElem.mp h
  obtain ⟨j, hj, e'⟩ := List.mem_iff_getElem.mp h'
  have q : (namesT t)[i]'(by simpa [namesT] using hi) = (namesT t)[j]'(by simpa [namesT] using hj) := by simp [namesT, e, e']
  have ij := (List.getElem_inj nd).mp q
  subst ij
  rw [e] at e'
  exact (Prod.mk.inj e').2
/-- from names with rows to a table -/
theorem tab_of {H : Hp} {t : Tab} : ∀ {kvs : List (L2.Key × V)} {ys : List Str}, Paired (fun kv z => kv.1 = Sum.inr z ∧ ∃ r, (z, r) ∈ t ∧ RowV H kv.2 r) kvs ys → ∃ t', TabV H kvs t' ∧ namesT t' = ys ∧ ∀ e ∈ t', e ∈ t
  | _, _, .nil => ⟨[], .nil, rfl, fun _ h => by simp at h⟩
  | kv :: kvs, z :: ys, .cons h ht => by
    obtain ⟨t', h1, h2, h3⟩ := tab_of ht
    obtain ⟨r, hr, hv⟩ := h.2
    refine ⟨(z, r) :: t', .cons ⟨h.1, hv⟩ h1, by show z :: namesT t' = _; rw [h2], fun e he => ?_⟩
    rcases List.mem_cons.mp he with z | z
    · rw [z]; exact hr
    · exact h3 e z
theorem nd_of_map {α β : Type} {l : List α} {f : α → β} (h : (l.map f).Nodup) : l.Nodup :=
  (List.pairwise_map.mp h).imp fun h e => h (congrArg f e)
theorem perm_of_names {t t' : Tab} (nd : (namesT t).Nodup) (hn : (namesT t').Perm (namesT t)) (hs : ∀ e ∈ t', e ∈ t) : t'.Perm t := by
  have nd' : (namesT t').Nodup := hn.nodup_iff.mpr nd
  have n1 : t.Nodup := nd_of_map nd
  have n2 : t'.Nodup := nd_of_map nd'
  refine (List.perm_ext_iff_of_nodup n2 n1).mpr fun e => ⟨hs e, fun he => ?_⟩
  have hm : e.1 ∈ namesT t' := hn.mem_iff.mpr (List.mem_map.mpr ⟨e, he, rfl⟩)
  obtain ⟨e', he', q⟩ := List.mem_map.mp hm
  have hr : e'.2 = e.2 := row_unique nd (x := e.1) (by rw [← q]; exact hs e' he') he
  have : e' = e := Prod.ext q hr
  rw [← this]; exact he'
theorem size_of_ok {t : Tab} (h : okTab t = true) : ∀ e ∈ t, e.2.length = sizeT t := fun e he => by
  unfold okTab at h
  simp only [Bool.and_eq_true] at h
  have q := List.all_eq_true.mp h.2 e he
  simp only [Bool.and_eq_true, okRow, decide_eq_true_eq] at q
  exact q.2.1
theorem size_perm {t t' : Tab} (h : okTab t = true) (p : t'.Perm t) : sizeT t' = sizeT t := by
  cases t' with
  | nil =>
    have := p.length_eq
    cases t with
    | nil => rfl
    | cons => simp at this
  | cons e t' =>
    show e.2.length = _
    exact size_of_ok h e (p.mem_iff.mp List.mem_cons_self)
theorem ok_perm {t t' : Tab} (h : okTab t = true) (p : t'.Perm t) : okTab t' = true := by
  have hs := size_perm h p
  unfold okTab at h ⊢
  rw [hs, p.length_eq]
  simp only [Bool.and_eq_true] at h ⊢
  refine ⟨h.1, List.all_eq_true.mpr fun e he => ?_⟩
  have := List.all_eq_true.mp h.2 e (p.mem_iff.mp he)
  simpa using this
end Tm
namespace Tm
open PySem PySem.Spec PyProof.Rows L2
local macro_rules | `(tactic| walk_at "x") => `(tactic| dsimp only [tNext, tRet, tSeq, tCB, tCons, tNil, tAsg, tDrop, sFld])
section
variable {P : Program} {w : World} {K : PySem.W.Frag} {mg : Str → Option Value} {base : Heap} {C : Addr}
/-! ### Kind(operations) -/
abbrev s_init : Stmt := inClass (top 19) 0
theorem sc_init : FnScope ["self", "operations", "name"] ["self", "operations"] (defScope s_init) := ⟨rfl, rfl, rfl, by decide +kernel, rfl, by decide +kernel, by decide +kernel⟩
def sp_init (C : Addr) : Sp := fun vs H Q _ => ∃ (p dx a : Addr) (kvs : List (L2.Key × V)) (t : Tab), vs = [.ref p, .ref a] ∧ H p = some (.ins C dx []) ∧ H a = some (.dK kvs) ∧ TabV H kvs t ∧ okTab t = true ∧ (namesT t).Nodup ∧
  ∀ H' t', t'.Perm t → KindV C H' (.ref p) t' → (∀ b o, b ≠ p → H b = some o → H' b = some o) → Q .non H'
theorem ok_init (B : Bt mg) (T : Kc K C) (O_is_table : Ok P w K mg base "_is_table" 4 ["value"] sp_table) (D : DfC K mg "Kind" C "Kind.__init__" s_init ["self", "operations"]) : OkC P w K mg base "Kind" C 5 ["self", "operations"] (sp_init C) := by
  refine D.ok sc_init (fun vs H Q E h => ?_) (fun f cdv A outer s H vs Q E hr h => ?_)
  · obtain ⟨p, dx, a, kvs, t, rfl, _⟩ := h
    rfl
  · obtain ⟨p, dx, a, kvs, t, rfl, hp, ha, ht, hok, nd, q⟩ := h
    have hu := hu_of hr
    have hkeys := tabV_keys ht
    have h6 : (namesT t).length ≤ 6 := by
      have := hok
      unfold okTab at this
      simp only [Bool.and_eq_true, decide_eq_true_eq] at this
      unfold namesT
      rw [List.length_map]
      exact this.1.1.1.2
    refine ⟨_, pss_cons (ps_if (pt_not (pt_val (O_is_table.call hr (ha := pa_cons (pv 1) (pa_nil)))))
        (pss_one (ps_never))
        (pss_nil))
      (pss_cons (ps_fld (pv 0) (pe_dc (own := [("name", 2)]) (g := gName 2) (tt := tYes) rfl sc_init.nd (pi_list (pe_callB (call_sortedD rfl) (by rfl) B.sorted (by decide +kernel) (pa_cons (pv 1) (pa_nil)))) (blkOk_by (own := [("name", 2)]) (N := ["self", "operations", "name"]) (sc := defScope s_init) (by decide +kernel)) (fun _ _ _ _ _ => pg_name (i := 2) sc_init.nd rfl (.inl rfl)) (fun _ _ _ _ _ => pts_nil) (fun _ _ _ _ _ => pv 2) (fun _ _ _ _ _ => pe_dget hu (pv 1) (pv 2) (fun _ _ => rfl))) rfl)
      (pss_one (ps_fld (pv 0) (pe_callB (lenK (K := K)) (by rfl) B.len (by decide +kernel) (pa_cons (pe_ix (ixLK (K := K)) (pe_listVals rfl (pe_fld (pv 0) rfl) (by rfl) B.list) (pe_int) (fun _ _ => rfl)) (pa_nil))) rfl))), ?_⟩
    refine ⟨_, rfl, a, kvs, t, rfl, ha, ht, hok, fun H1 e1 => ⟨_, rfl, ?_⟩⟩
    refine ifF rfl ?_
    walk_at "x"
    refine dc_bind (P := fun v H2 => ∃ (b : Addr) (ys : List Str), v = .ref b ∧ H2 b = some (.lst (ys.map V.str)) ∧ ys.Perm (namesT t) ∧ sortedS ys = true) (fun Q q => ?_) (fun v H2 e2 hv => ?_)
    · exact ⟨_, rfl, a, kvs, namesT t, rfl, .inl (e1 _ _ ha), hkeys, by omega, fun ys b hpm hst hb => q _ _ (same_new hb) ⟨b, ys, rfl, upd_same, hpm, hst⟩⟩
    · obtain ⟨b, ys, rfl, hb, hpm, hst⟩ := hv
      have e12 := e1.trans e2
      have ndy : ys.Nodup := hpm.nodup_iff.mpr nd
      refine dc_runL (K := K) (xs := ys.map V.str) (ev_c ⟨b, rfl, SqL.of hb⟩) ys (List.length_map ..) (fun _ => true) Sum.inr (fun z v H => ∃ r, (z, r) ∈ t ∧ RowV H v r) (by rw [hpm.length_eq]; omega)
        (by rw [List.nodup_iff_pairwise_ne, List.pairwise_map]; exact (List.nodup_iff_pairwise_ne.mp ndy).imp fun h z => h (Sum.inr.inj z)) (by intro _; rfl)
        (fun z v H H' e h => by obtain ⟨r, h1, h2⟩ := h; exact ⟨r, h1, h2.mono e⟩) (fun i z x H3 hi hx e3 => ⟨evt_yes, fun _ H4 e4 => ?_, fun _ H4 e4 => ?_⟩) (fun d H3 kvs' hd e3 hdk hP => ?_)
      · rw [List.getElem?_map, hi] at hx
        have ex : V.str z = x := Option.some.inj hx
        subst ex
        exact ev_is rfl rfl
      · rw [List.getElem?_map, hi] at hx
        have ex : V.str z = x := Option.some.inj hx
        subst ex
        have hz : z ∈ namesT t := hpm.mem_iff.mp (List.mem_of_getElem? hi)
        obtain ⟨⟨x', r⟩, hr', exx⟩ := List.mem_map.mp hz
        have ex2 : x' = z := exx
        subst ex2
        obtain ⟨v, hv, hrow⟩ := tab_look ht nd hr'
        have hSame : Same H H4 := e12.trans (e3.trans e4)
        intro Q q
        refine ⟨_, rfl, _, rfl, a, v, rfl, ?_, q v H4 (Same.refl _) ⟨r, hr', hrow.mono (tups_of hSame)⟩⟩
        have := DGet.k (k := Sum.inr x') (hSame _ _ ha)
        rw [hv] at this
        exact this
      · rw [filter_all] at hP
        obtain ⟨t', ht', hn', hs'⟩ := tab_of hP
        have pm : t'.Perm t := perm_of_names nd (by rw [hn']; exact hpm) hs'
        have e13 := e12.trans e3
        have npd : p ≠ d := ne_of_none (e12 _ _ hp) hd
        refine ⟨_, rfl, p, C, dx, [], rfl, e13 _ _ hp, T.cl, T.nT, (by show 0 < 1000; decide), ?_⟩
        generalize hH4 : upd H3 p (.ins C dx (putF "_table" (.ref d) [])) = H4
        have hp4 : H4 p = some (.ins C dx (putF "_table" (.ref d) [])) := by rw [← hH4]; exact upd_same
        have hd4 : H4 d = some (.dK kvs') := by rw [← hH4, upd_ne npd.symm]; exact hdk
        have t4 : TupS H3 H4 := by rw [← hH4]; exact tups_upd (e13 _ _ hp) (fun xs z => by cases z)
        have hlk : (putF "_table" (V.ref d) []).lookup ("_table" : Str) = some (.ref d) := by simp [putF, List.lookup]
        obtain ⟨e0, t0, rfl⟩ : ∃ e0 t0, t' = e0 :: t0 := by
          cases t' with
          | nil =>
            have := ok_perm hok pm
            simp [okTab] at this
          | cons e0 t0 => exact ⟨e0, t0, rfl⟩
        obtain ⟨kv0, kvs0, rfl⟩ : ∃ kv0 kvs0, kvs' = kv0 :: kvs0 := by
          cases kvs' with
          | nil => cases ht'
          | cons kv0 kvs0 => exact ⟨kv0, kvs0, rfl⟩
        obtain ⟨b0, rs, eb, hb0, hrs⟩ : RowV H3 kv0.2 e0.2 := by
          cases ht' with
          | cons r _ => exact r.2
        refine ⟨_, rfl, p, C, dx, _, _, rfl, hp4, T.cl, T.nT, hlk, d, _, rfl, hd4, fun l hl => ?_⟩
        refine ⟨l, _, 0, kv0.2, rfl, rfl, SqL.of upd_same, at_of (j := 0) rfl rfl, ?_⟩
        rw [eb]
        have e5 : Same H4 (upd H4 l (.lst (List.map (·.2) (kv0 :: kvs0)))) := same_new hl
        generalize upd H4 l (.lst (List.map (·.2) (kv0 :: kvs0))) = H5 at e5 ⊢
        refine ⟨b0, rs, rfl, .inr (SqT.of (e5 _ _ (t4 _ _ hb0))), _, rfl, p, C, dx, _, rfl, e5 _ _ hp4, T.cl, T.nS, (by show 1 < 1000; decide), ?_⟩
        have hsz : (rs.length : Int) = (sizeT (e0 :: t0) : Int) := by rw [Paired.length hrs]; rfl
        refine q _ (e0 :: t0) pm ⟨p, dx, d, kv0 :: kvs0, rfl, ?_, ?_, ?_, ok_perm hok pm, ?_, ?_⟩ ?_
        · rw [upd_same, hsz, kf_put]
        · rw [upd_ne npd.symm]
          exact e5 _ _ hd4
        · exact ht'.mono (t4.trans ((tups_of e5).trans (tups_upd (e5 _ _ hp4) (fun xs z => by cases z))))
        · rw [hn']; exact ndy
        · rw [hn']; exact hst
        · intro c o hc hco
          rw [upd_ne hc]
          refine e5 _ _ ?_
          rw [← hH4, upd_ne hc]
          exact e13 _ _ hco
end
end Tm
namespace Tm
open PySem PySem.Spec PyProof.Rows L2
local macro_rules | `(tactic| walk_at "x") => `(tactic| dsimp only [tNext, tRet, tSeq, tCB, tCons, tNil, tAsg, tDrop, sFld])
/-- a kind is made of a dict -/
theorem mk_kind {C : Addr} {H1 : Hp} {a : Addr} {kvs : List (L2.Key × V)} {t : Tab} {Q : VK} {E : XK} (ha : H1 a = some (.dK kvs)) (ht : TabV H1 kvs t) (hok : okTab t = true) (nd : (namesT t).Nodup)
    (q : ∀ v H' t', Same H1 H' → KindV C H' v t' → t'.Perm t → Q v H') :
    ∀ x dx, H1 x = none → H1 dx = none → dx ≠ x → sp_init C (.ref x :: ([V.ref a] ++ [])) (upd (upd H1 dx (.own x)) x (.ins C dx [])) (fun v H2 => v = .non ∧ Q (.ref x) H2) E := by
  intro x dx hx hdx hne
  have e : Same H1 (upd (upd H1 dx (.own x)) x (.ins C dx [])) := fun b o hb => by
    rw [upd_ne (ne_of_none hb hx), upd_ne (ne_of_none hb hdx)]; exact hb
  refine ⟨x, dx, a, kvs, t, rfl, upd_same, e _ _ ha, ht.mono (tups_of e), hok, nd, fun H' t' pm hk hkeep => ⟨rfl, q _ H' t' (fun b o hb => ?_) hk pm⟩⟩
  exact hkeep b o (ne_of_none hb hx) (e _ _ hb)
section
variable {P : Program} {w : World} {K : PySem.W.Frag} {mg : Str → Option Value} {base : Heap} {C : Addr}
/-! ### in, _need_operation, after, names -/
abbrev s_cont : Stmt := inClass (top 19) 14
theorem sc_cont : FnScope ["self", "x"] ["self", "x"] (defScope s_cont) := ⟨rfl, rfl, rfl, by decide +kernel, rfl, by decide +kernel, by decide +kernel⟩
def sp_cont (C : Addr) : Sp := fun vs H Q _ => ∃ (v : V) (t : Tab) (x : Str), vs = [v, .str x] ∧ KindV C H v t ∧ Q (.bl (decide (x ∈ namesT t))) H
theorem tab_isSome {H : Hp} : ∀ {kvs : List (L2.Key × V)} {t : Tab} (x : Str), TabV H kvs t → (valV kvs (Sum.inr x)).isSome = decide (x ∈ namesT t)
  | _, _, x, .nil => by simp [valV, namesT]
  | kv :: kvs, e :: t, x, .cons h ht => by
    rw [valV_cons, h.1]
    by_cases hx : e.1 = x
    · rw [if_pos (by rw [hx])]
      have : x ∈ namesT (e :: t) := by rw [← hx]; exact List.mem_cons_self
      rw [decide_eq_true this]; rfl
    · rw [if_neg (fun z => hx (Sum.inr.inj z)), tab_isSome x ht]
      have hiff : x ∈ namesT (e :: t) ↔ x ∈ namesT t := by
        show x ∈ e.1 :: namesT t ↔ _
        rw [List.mem_cons]
        exact ⟨fun z => z.resolve_left (fun y => hx y.symm), .inr⟩
      exact decide_eq_decide.mpr hiff.symm
theorem ok_cont (B : Bt mg) (T : Kc K C) (D : DfIn K C "Kind.__contains__" s_cont ["self", "x"]) : OkIn P w K mg base C 1 ["self", "x"] (sp_cont C) := by
  refine D.ok sc_cont (fun vs H Q E h => ?_) (fun f cdv A outer s H vs Q E hr h => ?_)
  · obtain ⟨v, t, x, rfl, _⟩ := h
    rfl
  · obtain ⟨v, t, x, rfl, ⟨a, dx, d, kvs, rfl, ha, hd, ht, hok, nd, hst⟩, q⟩ := h
    have hu := hu_of hr
    refine ⟨_, pss_one (ps_ret (pe_and (pe_callB (isiK (K := K)) (by rfl) B.isinstance (by decide +kernel) (pa_cons (pv 1) (pa_cons (pe_ty (n := "str") (by rfl) B.str (by decide +kernel)) (pa_nil)))) (pe_one (pe_cmp (pc_din hu (pv 1) (pe_fld (pv 0) rfl)) rfl)))), ?_⟩
    refine ⟨_, rfl, .str x, .ty "str", _, _, true, rfl, .ty "str", .base (.str x), kit_ty (by decide +kernel), _, rfl, ?_⟩
    refine ifT rfl ?_
    refine ⟨_, rfl, _, rfl, a, C, dx, _, _, rfl, ha, T.cl, T.nT, kf_T _ _, d, _, rfl, DGet.k (k := Sum.inr x) hd, ?_⟩
    rw [tab_isSome x ht]
    exact q
abbrev s_needop : Stmt := inClass (top 19) 12
theorem sc_needop : FnScope ["self", "name"] ["self", "name"] (defScope s_needop) := ⟨rfl, rfl, rfl, by decide +kernel, rfl, by decide +kernel, by decide +kernel⟩
def sp_needop (C : Addr) : Sp := fun vs H Q _ => ∃ (v : V) (t : Tab) (x : Str), vs = [v, .str x] ∧ KindV C H v t ∧ x ∈ namesT t ∧ Q .non H
theorem ok_needop (O_in : OkIn P w K mg base C 1 ["self", "x"] (sp_cont C)) (D : DfM K C "_need_operation" "Kind._need_operation" s_needop ["self", "name"]) : OkM P w K mg base C "_need_operation" 2 ["self", "name"] (sp_needop C) := by
  refine D.ok sc_needop (fun vs H Q E h => ?_) (fun f cdv A outer s H vs Q E hr h => ?_)
  · obtain ⟨v, t, x, rfl, _⟩ := h
    rfl
  · obtain ⟨v, t, x, rfl, hk, hx, q⟩ := h
    obtain ⟨a, dx, d, kvs, rfl, ha, _⟩ := id hk
    refine ⟨_, pss_one (ps_if (pt_cmpR (O_in.notIn hr) (pv 1) (pv 0) rfl) (pss_one ps_never) pss_nil), ?_⟩
    refine ⟨_, rfl, _, rfl, a, dx, _, rfl, ha, _, t, x, rfl, hk, _, rfl, _, rfl, ?_⟩
    refine ifF (by rw [decide_eq_true hx]; rfl) q
abbrev s_after : Stmt := inClass (top 19) 4
theorem sc_after : FnScope ["self", "state", "name"] ["self", "state", "name"] (defScope s_after) := ⟨rfl, rfl, rfl, by decide +kernel, rfl, by decide +kernel, by decide +kernel⟩
def sp_after (C : Addr) : Sp := fun vs H Q _ => ∃ (v : V) (t : Tab) (s : Nat) (x : Str) (r : Row) (p : Int × Int), vs = [v, .int (s : Int), .str x] ∧ KindV C H v t ∧ (x, r) ∈ t ∧ r[s]? = some p ∧ ∀ u, PairV H u p → Q u H
theorem ok_after (B : Bt mg) (T : Kc K C) (O_need_number : Ok P w K mg base "need_number" 2 ["value", "least", "most"] sp_need) (OM_need_operation : OkM P w K mg base C "_need_operation" 2 ["self", "name"] (sp_needop C))
    (D : DfM K C "after" "Kind.after" s_after ["self", "state", "name"]) : OkM P w K mg base C "after" 3 ["self", "state", "name"] (sp_after C) := by
  refine D.ok sc_after (fun vs H Q E h => ?_) (fun f cdv A outer s H vs Q E hr h => ?_)
  · obtain ⟨v, t, s, x, r, p, rfl, _⟩ := h
    rfl
  · obtain ⟨v, t, st, x, r, p, rfl, hk, hm, hp, q⟩ := h
    obtain ⟨a, dx, d, kvs, rfl, ha, hd, ht, hok, nd, hst⟩ := id hk
    have hu := hu_of hr
    have hlt : st < r.length := (List.getElem?_eq_some_iff.mp hp).1
    have hsz : r.length = sizeT t := size_of_ok hok _ hm
    have hin : x ∈ namesT t := List.mem_map.mpr ⟨_, hm, rfl⟩
    obtain ⟨rv, hv, b, rs, rfl, hb, hrs⟩ := tab_look ht nd hm
    obtain ⟨u, hu', hpu⟩ := paired_ix hrs hp
    refine ⟨_, pss_cons (ps_expr (O_need_number.call hr (ha := pa_cons (pv 1) (pa_cons (pe_int) (pa_cons (pe_op op_sub (pe_fld (pv 0) rfl) (pe_int)) (pa_nil))))))
      (pss_cons (ps_expr (OM_need_operation.call hr T.cl (he := pv 0) (ha := pa_cons (pv 2) (pa_nil))))
      (pss_one (ps_ret (pe_ix (ixTK (K := K)) (pe_dget hu (pe_fld (pv 0) rfl) (pv 2) (fun _ _ => rfl)) (pv 1) (fun _ _ => rfl))))), ?_⟩
    refine ⟨_, rfl, _, rfl, a, C, dx, _, _, rfl, ha, T.cl, T.nS, kf_S _ _, _, _, rfl, rfl, st, 0, (sizeT t : Int) - 1, rfl, by omega, by omega, ?_⟩
    refine ⟨_, rfl, a, dx, _, rfl, ha, kf_no _ _, _, rfl, _, t, x, rfl, hk, hin, ?_⟩
    have hg := DGet.k (k := Sum.inr x) hd
    rw [hv] at hg
    refine ⟨_, rfl, a, C, dx, _, _, rfl, ha, T.cl, T.nT, kf_T _ _, _, rfl, d, _, rfl, hg, _, rfl, b, rs, st, u, rfl, rfl, SqT.of hb, atI_nat hu', q u hpu⟩
abbrev s_names : Stmt := inClass (top 19) 2
theorem sc_names : FnScope ["self"] ["self"] (defScope s_names) := ⟨rfl, rfl, rfl, by decide +kernel, rfl, by decide +kernel, by decide +kernel⟩
def sp_names (C : Addr) : Sp := fun vs H Q _ => ∃ (v : V) (t : Tab), vs = [v] ∧ KindV C H v t ∧ ∀ p, H p = none → Q (.ref p) (upd H p (.tup ((namesT t).map V.str)))
end
end Tm
/-! tuple(d), d a dict: its keys -/
namespace TmD
open PySem PySem.Spec PyProof.Rows PySem.W
section
variable {prog : Program} {w : World} {A : Around} {E : Value → Shared → Prop} {s : Shared} {T : String} {r d : Addr} {n : Nat} {Pd : Nat → Value → Prop} {OK : Heap → Prop}
abbrev emptyL : Obj := { cls := .type "list", data := .seq ([] : List Value).toArray }
theorem gather (K : KdlSrc prog w T r d n Pd OK) (hh : A.handled = none) (hok : OK s.heap) (hn : n ≤ sizeLine) {Q : List Value → Shared → Prop}
    (hQ : ∀ (h' : Heap) (tk : Nat) (acc : Array Value), (∀ b o, s.heap.get? b = some o → h'.get? b = some o) → ItemsOf Pd acc n → Q acc.toList { s with heap := h', toks := tk }) :
    wpAny (model prog w) A (collect (.ref r)) Q E s := by
  unfold collect
  refine wpAny_bind (wpAny_runValue (codeAny_builtin F.entry_proto_collect ?_))
  rw [Around.under_plainId F.plain_proto_collect _]
  show wpAny _ A.in1 (newList [] >>= fun l => again (.builtin "list.__iadd__" ⟨[l, .ref r], []⟩)) _ _ s
  refine wpAny_bind (wpAny_newObj_type ?_)
  refine wpAny_pure ⟨plainId_quiet F.plain_list_iadd _, codeAny_builtin F.entry_list_iadd ?_⟩
  rw [Around.under_plainId F.plain_list_iadd _]
  generalize hs1 : ({ s with heap := s.heap.push emptyL } : Shared) = s1
  have e1 : s1.heap = s.heap.push emptyL := by rw [← hs1]
  have old : ∀ b o, s.heap.get? b = some o → s1.heap.get? b = some o := fun b o q => by rw [e1]; exact Heap.get?_push_of_some _ q
  have lt := K.there _ hok
  have hS : s1.heap.get? s.heap.objs.size = some { cls := .type "list", data := .seq #[] 0 } := by rw [e1]; exact Heap.get?_push_size _ rfl
  have run := kdl_extend (A := A) (s := s1) (R := fun rr s' => rr = .ok (.ret (.ref s.heap.objs.size)) ∧ ∃ (h' : Heap) (tk : Nat) (acc : Array Value) (c' : Nat), s' = { s with heap := h', toks := tk } ∧
      (∀ b o, s.heap.get? b = some o → h'.get? b = some o) ∧ h'.get? s.heap.objs.size = some { cls := .type "list", dict := none, data := .seq acc c', slots := #[] } ∧ ItemsOf Pd acc n)
    K hh (K.keep _ _ hok fun b _ o q => old b o q) s.heap.objs.size (Nat.ne_of_gt lt.1) (Nat.ne_of_gt lt.2) (.ref s.heap.objs.size) 0 hS
    (fun h' tk acc c' hk e hi => ⟨rfl, h', tk, acc, c', by rw [← hs1], fun b o q => hk b o (Nat.ne_of_lt (Heap.lt_size q)) (old b o q), e, hi⟩) hn
  refine wpAny_mono run (fun fin s' h => ?_) (fun e s' h => absurd h.1 (by simp))
  cases fin with
  | done f =>
    obtain ⟨e, h', tk, acc, c', rfl, hk, hS', hi⟩ := h
    cases e
    show wpAny _ A (load s.heap.objs.size >>= _) _ _ _
    exact wpAny_bind (wpAny_load hS' (wpAny_pure (hQ h' tk acc hk hi)))
  | again c' =>
    refine ⟨h.1, codeAny_mono h.2 fun rr s'' z => ?_⟩
    obtain ⟨rfl, h', tk, acc, c', rfl, hk, hS', hi⟩ := z
    show wpAny _ A (load s.heap.objs.size >>= _) _ _ _
    exact wpAny_bind (wpAny_load hS' (wpAny_pure (hQ h' tk acc hk hi)))
theorem new_tuple (K : KdlSrc prog w T r d n Pd OK) (hh : A.handled = none) (hok : OK s.heap) (hn : n ≤ sizeLine) {Q₁ : Value → Shared → Prop}
    (hq : ∀ (h' : Heap) (tk : Nat) (acc : Array Value), (∀ b o, s.heap.get? b = some o → h'.get? b = some o) → ItemsOf Pd acc n → Q₁ (.ref h'.objs.size) { s with heap := h'.push { cls := .type "tuple", data := .seq acc }, toks := tk }) :
    codeAny (model prog w) A (.call (.builtin "tuple.__new__") ⟨[.type "tuple", .ref r], []⟩) (wants Q₁ E) s := by
  refine codeAny_of_tree ?_
  show wpAny _ A.in1 (do checkBuiltinCall "tuple.__new__" ⟨[.type "tuple", .ref r], []⟩; again (.builtin "tuple.__new__" ⟨[.type "tuple", .ref r], []⟩)) _ _ s
  refine wpAny_bind (wpAny_of_eq (F.newCall_tuple_1 _) (wpAny_pure ⟨plainId_quiet F.plain_tuple_new _, codeAny_builtin F.entry_tuple_new ?_⟩))
  rw [Around.under_plainId F.plain_tuple_new _]
  have a1 := sub_tuple_self
  have a2 := init_tuple_lookup
  have a3 := madeHere_tuple
  have a4 : s.TypeIs (.ref r) T := K.type s hok
  have a5 : A.in1.handled = none := hh
  wp_walk using wpAny_typeOf a4, gather (A := A.in1) K a5 hok hn
  rw [if_neg (by rw [K.notTuple]; decide)]
  wp_walk using gather (A := A.in1) K a5 hok hn
  intro h' tk acc hk hacc
  have ea : acc.toList.toArray = acc := by simp
  have hz : acc.size ≤ sizeLine := by rw [hacc.1]; exact hn
  show wpAny _ _ (Builtin.Tuple.tupleExact acc.toList.toArray >>= fun v => ret v) _ _ _
  rw [ea]
  unfold Builtin.Tuple.tupleExact
  exact wpAny_bind (wpAny_newObj_type (wpAny_pure (hq h' tk acc hk hacc)) hz)
theorem call_tuple_src (K : KdlSrc prog w T r d n Pd OK) (hh : A.handled = none) (hok : OK s.heap) (hn : n ≤ sizeLine) {Q : Value → Shared → Prop}
    (hq : ∀ (h' : Heap) (tk : Nat) (acc : Array Value), (∀ b o, s.heap.get? b = some o → h'.get? b = some o) → ItemsOf Pd acc n → Q (.ref h'.objs.size) { s with heap := h'.push { cls := .type "tuple", data := .seq acc }, toks := tk }) :
    wpAny (model prog w) A (call (.type "tuple") [.ref r]) Q E s := by
  have made := new_tuple (A := A.in1) (E := E) K hh hok hn (Q₁ := fun obj s₁ => s₁.TypeIs obj "tuple" ∧ Q obj s₁) fun h' tk acc hk hacc => ⟨⟨_, Heap.get?_push_size _ rfl, rfl⟩, hq h' tk acc hk hacc⟩
  refine callType_codes F.called_tuple (F.typeCall_tuple_1 _) F.entry_object_init made fun obj s₁ z => ?_
  exact ⟨z.1, F.args_object_init_2 obj _, object_init_meets F.called_tuple.init.lookup F.called_tuple.made (by decide) prog w A.in1 _ s₁ ⟨z.1, rfl, z.2⟩⟩
end
end TmD
namespace Tm
open PySem PySem.Spec PyProof.Rows L2
theorem vals_keys {prog : Program} {w : World} {kvs : List (L2.Key × V)} {vs : List (L2.Key × Value)} (kv : KV kvs vs) (acc : List Value) (hl : acc.length = vs.length) (h : ∀ (i : Nat) (v : Value), acc[i]? = some v → ∃ k x, vs[i]? = some (k, x) ∧ (mixKind prog w).is k v = true) :
    Vals (kvs.map fun e => kV e.1) acc := by
  induction kv generalizing acc with
  | nil =>
    cases acc with
    | nil => exact .nil
    | cons a r => simp at hl
  | cons r t ih =>
    cases acc with
    | nil => simp at hl
    | cons a r' =>
      obtain ⟨k, x, e, hk⟩ := h 0 a rfl
      simp only [List.getElem?_cons_zero, Option.some.injEq] at e
      refine .cons ?_ (ih r' (by simpa using hl) fun i v hv => by simpa using h (i + 1) v (by simpa using hv))
      show RelV (kV _) a
      rw [r.1, e]
      exact relV_key (show keyIs k a = true from hk)
/-- tuple(d) -/
theorem tupleD {X : Cx} (hc : X.calm = true := by rfl) : CallR X (.type "tuple") (fun xs H Q => ∃ (d : Addr) (kvs : List (L2.Key × V)), xs = [.ref d] ∧ H d = some (.dK kvs) ∧ ∀ p, H p = none → Q (.ref p) (upd H p (.tup (kvs.map fun e => kV e.1)))) := by
  intro pins s σ H xs us Q I r h
  obtain ⟨d, kvs, rfl, hd, q⟩ := h
  obtain ⟨u, rfl, ru⟩ := vals1 r
  have eu : u = Value.ref d := ru
  subst eu
  obtain ⟨hz, sys, vs, kv, hdo⟩ := I.hok d _ hd
  obtain ⟨ep, hat⟩ := hdo.dictAt
  have lk : kvs.length = vs.length := Paired.length kv
  refine TmD.call_tuple_src (PySem.W.kdl_dict (knd := mixKind X.prog X.w) (kvs := vs) (ep := ep) sys) (I.ok.hd hc) hat (by rw [← lk]; exact hz) fun h' tk acc hk hacc => ?_
  have I1 : Inv X pins σ H { s with heap := h', toks := tk } := I.kept hk
  have hv : Vals (kvs.map fun e => kV e.1) acc.toList := vals_keys kv acc.toList (by rw [Array.length_toList]; exact hacc.1) fun i v hv => hacc.2 i v (by rw [← Array.getElem?_toList]; exact hv)
  have ea : acc.toList.toArray = acc := by simp
  have I2 : Inv X pins σ (upd H h'.objs.size (.tup (kvs.map fun e => kV e.1))) { s with heap := h'.push { cls := .type "tuple", data := .seq acc.toList.toArray }, toks := tk } :=
    I1.laid (t' := tk) (fun b o e => Heap.get?_push_of_some _ e) (Nat.le_refl _) (show ObjOk X.prog X.w _ _ _ (.tup _) from ⟨by rw [List.length_map]; exact hz, acc.toList, hv, IsTup.new _ _⟩)
  rw [ea] at I2
  exact ⟨.ref h'.objs.size, _, I2, rfl, q _ (I1.hok.fresh (Nat.le_refl _))⟩
local macro_rules | `(tactic| walk_at "x") => `(tactic| dsimp only [tNext, tRet, tSeq, tCB, tCons, tNil, tAsg, tDrop, sFld])
section
variable {P : Program} {w : World} {K : PySem.W.Frag} {mg : Str → Option Value} {base : Heap} {C : Addr}
theorem ok_names (B : Bt mg) (T : Kc K C) (D : DfP K C "names" "Kind.names" s_names) : OkP P w K mg base C "names" 1 (sp_names C) := by
  refine D.ok sc_names (fun vs H Q E h => ?_) (fun f cdv A outer s H vs Q E hr h => ?_)
  · obtain ⟨v, t, rfl, _⟩ := h
    rfl
  · obtain ⟨v, t, rfl, ⟨a, dx, d, kvs, rfl, ha, hd, ht, hok, nd, hst⟩, q⟩ := h
    refine ⟨_, pss_one (ps_ret (pe_callTy tupleD (by rfl) B.tuple (by decide +kernel) (pa_cons (pe_fld (pv 0) rfl) pa_nil))), ?_⟩
    refine ⟨_, rfl, a, C, dx, _, _, rfl, ha, T.cl, T.nT, kf_T _ _, d, kvs, rfl, hd, fun p hp => ?_⟩
    have e : (kvs.map fun e => kV e.1) = (namesT t).map V.str := by
      have h1 := congrArg (List.map kV) (tabV_keys ht)
      rw [List.map_map, List.map_map] at h1
      exact h1
    rw [e]
    exact q p hp
end
end Tm
namespace Tm
open PySem PySem.Spec PyProof.Rows L2
local macro_rules | `(tactic| walk_at "x") => `(tactic| dsimp only [tNext, tRet, tSeq, tCB, tCons, tNil, tAsg, tDrop, sFld])
/-! ### the tables of the made kinds -/
def letr (word : Str) (i : Nat) : Str := word ++ (⟨#[97 + i]⟩ : Str)
def letT (word : Str) (rows : List Row) : Tab := rows.zipIdx.map fun z => (letr word z.2, z.1)
def cellT (n : Nat) : Tab := letT "put" ((List.range n).map fun (v : Nat) => List.replicate n ((v : Int), (0 : Int)))
def swapT (n : Nat) : Tab := letT "swap" ((List.range n).map fun (v : Nat) => (List.range n).map fun (s : Nat) => ((v : Int), (s : Int)))
def highT (n : Nat) : Tab := letT "raise" ((List.range n).map fun (l : Nat) => (List.range n).map fun (s : Nat) => ((if (l : Int) > (s : Int) then (l : Int) else (s : Int)), (0 : Int)))
def keptR (n : Nat) : Row := (List.range n).map fun (i : Nat) => (1 + (i : Int), 1 + (i : Int))
def slotT (n : Nat) : Tab := letT "set" ((keptR n).map fun p => p :: keptR n)
def fadeS (s n : Int) : Int := if s = n then 2 * n + 1 else if 2 * n + 1 < s + 1 then 2 * n + 1 else s + 1
def laterR (n : Nat) : Row := (List.range (2 * n + 1)).map fun (i : Nat) => (fadeS (1 + (i : Int)) n, (0 : Int))
def fadeT (n : Nat) : Tab := letT "set" [(1, 0) :: laterR n, ((n : Int) + 1, 0) :: laterR n]
def adderT (n : Nat) : Tab := [("add", (List.range n).map fun (s : Nat) => (((s : Int) + 1) % (n : Int), (s : Int)))]
def flagT : Tab := [("set", [(1, 0), (1, 1)])]
structure Gm (mg : Str → Option Value) : Prop where
  LETTERS : GV mg "LETTERS" (.str (PySem.Str.ofString "abcdefgh"))
theorem letters_at : ∀ k, k < 8 → (PySem.Str.ofString "abcdefgh").cps.toList[k]? = some (97 + k) := by decide +kernel
theorem paired_mapR {α β γ : Type} {F : α → γ → Prop} (f : β → γ) : ∀ {xs : List α} {ys : List β}, Paired (fun x y => F x (f y)) xs ys → Paired F xs (ys.map f)
  | _, _, .nil => .nil
  | _, _, .cons r t => .cons r (paired_mapR f t)
theorem paired_unmapR {α β γ : Type} {F : α → γ → Prop} (f : β → γ) : ∀ {xs : List α} {ys : List β}, Paired F xs (ys.map f) → Paired (fun x y => F x (f y)) xs ys
  | [], [], _ => .nil
  | _ :: _, [], h => by cases h
  | [], _ :: _, h => by cases h
  | _ :: _, _ :: _, .cons r t => .cons r (paired_unmapR f t)
/-! ### tuples made on the way -/
section
variable {α : Type} {K : PySem.W.Frag} {σ : L2.St} {H : Hp} {ta tb te : TE} {vs : List Nat} {j : Nat}
theorem ev_pair {x y : Int} (ha : Ev ta σ H fun v _ => v = .int x) (hb : ∀ H1, Same H H1 → Ev tb σ H1 fun v _ => v = .int y) : Ev (tTup (tCons ta (tCons tb tNil))) σ H (fun v H1 => PairV H1 v (x, y)) := fun Q q =>
  ha _ fun v H1 e1 h1 => hb H1 e1 _ fun u H2 e2 h2 => ⟨by show 2 ≤ sizeLine; decide, fun p hp => q _ _ (e1.trans (e2.trans (same_new hp))) ⟨p, rfl, by rw [upd_same, h1, h2]⟩⟩
/-- tuple(a new list of pairs) -/
theorem ev_rowOf {zs : List α} {f : α → Int × Int} (h : Ev te σ H fun v H1 => ∃ p ys, v = .ref p ∧ H1 p = some (.lst ys) ∧ Paired (fun v z => PairV H1 v (f z)) ys zs) :
    Ev (tCB (fun xs H Q => ∃ p ys, xs = [.ref p] ∧ ((SqL K H p ys ∧ ∀ l, H l = none → Q (.ref l) (upd H l (.tup ys))) ∨ (SqT K H p ys ∧ Q (.ref p) H))) (tCons te tNil)) σ H (fun v H1 => RowV H1 v (zs.map f)) := fun Q q =>
  h _ fun v H1 e1 hv => by
    obtain ⟨p, ys, rfl, hl, hP⟩ := hv
    exact ⟨p, ys, rfl, .inl ⟨SqL.of hl, fun l hl' => q _ _ (e1.trans (same_new hl')) ⟨l, ys, rfl, upd_same, paired_mapR f (Paired.mapP hP fun _ _ r => r.mono (tups_of (same_new hl')))⟩⟩⟩
theorem range_at {n i : Nat} {z : Nat} (h : (List.range n)[i]? = some z) : z = i ∧ i < n := by
  have hl := (List.getElem?_eq_some_iff.mp h).1
  rw [List.length_range] at hl
  rw [List.getElem?_range hl] at h
  exact ⟨(Option.some.inj h).symm, hl⟩
/-- [e for x in range(n)], a row of pairs -/
theorem ev_lcR {ta' : TA} {n : Nat} (h : EvA ta' σ H fun l _ => l = [.int (n : Int)]) (hn : n ≤ 1000) (R : Nat → V → Hp → Prop) (hw : ∀ x, wipe ((wipe σ vs).set j (some x)) vs = wipe σ vs) (hR : ∀ z v H H', TupS H H' → R z v H → R z v H')
    (hs : ∀ (i : Nat) H1, i < n → Same H H1 → Ev te ((wipe σ vs).set j (some (.int (i : Int)))) H1 (R i)) :
    Ev (tLc (iRng1 ta') (gName j) tYes te vs) σ H (fun v H1 => ∃ p ys, v = .ref p ∧ H1 p = some (.lst ys) ∧ Paired (fun v z => R z v H1) ys (List.range n)) := fun Q q =>
  lc_runR h (by omega) (List.range n) (by rw [List.length_range]; omega) (fun _ => true) R (by rw [List.length_range]; omega) hw hR
    (fun i z x H1 hi hx e => ⟨evt_yes, fun _ H3 e3 => by
      obtain ⟨rfl, hlt⟩ := range_at hi
      rw [hx]
      exact hs z H3 hlt (e.trans e3)⟩)
    (fun p H1 ys hp e hl hP => q _ _ e ⟨p, ys, rfl, hl, by rw [filter_all] at hP; exact hP⟩)
theorem ev_lcR2 {ta' : TA} {lo m : Int} {n : Nat} (h : EvA ta' σ H fun l _ => l = [.int lo, .int m]) (hlo : 0 ≤ lo ∧ lo ≤ 1000) (hm : m = lo + n) (hn : n ≤ 1000) (R : Nat → V → Hp → Prop) (hw : ∀ x, wipe ((wipe σ vs).set j (some x)) vs = wipe σ vs) (hR : ∀ z v H H', TupS H H' → R z v H → R z v H')
    (hs : ∀ (i : Nat) H1, i < n → Same H H1 → Ev te ((wipe σ vs).set j (some (.int (lo + (i : Int))))) H1 (R i)) :
    Ev (tLc (iRng2 ta') (gName j) tYes te vs) σ H (fun v H1 => ∃ p ys, v = .ref p ∧ H1 p = some (.lst ys) ∧ Paired (fun v z => R z v H1) ys (List.range n)) := fun Q q =>
  lc_runR2 h (by omega) (List.range n) (by rw [List.length_range]; omega) (fun _ => true) R (by rw [List.length_range]; omega) hw hR
    (fun i z x H1 hi hx e => ⟨evt_yes, fun _ H3 e3 => by
      obtain ⟨rfl, hlt⟩ := range_at hi
      rw [hx]
      exact hs z H3 hlt (e.trans e3)⟩)
    (fun p H1 ys hp e hl hP => q _ _ e ⟨p, ys, rfl, hl, by rw [filter_all] at hP; exact hP⟩)
theorem lcR_go {Q : VK} {ta' : TA} {n : Nat} (h : EvA ta' σ H fun l _ => l = [.int (n : Int)]) (hn : n ≤ 1000) (R : Nat → V → Hp → Prop) (hw : ∀ x, wipe ((wipe σ vs).set j (some x)) vs = wipe σ vs) (hR : ∀ z v H H', TupS H H' → R z v H → R z v H')
    (hs : ∀ (i : Nat) H1, i < n → Same H H1 → Ev te ((wipe σ vs).set j (some (.int (i : Int)))) H1 (R i))
    (hq : ∀ p H1 ys, Same H H1 → H1 p = some (.lst ys) → Paired (fun v z => R z v H1) ys (List.range n) → Q (.ref p) H1) : tLc (iRng1 ta') (gName j) tYes te vs σ H Q :=
  ev_lcR h hn R hw hR hs Q fun v H1 e hv => by
    obtain ⟨p, ys, rfl, hl, hP⟩ := hv
    exact hq p H1 ys e hl hP
theorem lcR2_go {Q : VK} {ta' : TA} {lo m : Int} {n : Nat} (h : EvA ta' σ H fun l _ => l = [.int lo, .int m]) (hlo : 0 ≤ lo ∧ lo ≤ 1000) (hm : m = lo + n) (hn : n ≤ 1000) (R : Nat → V → Hp → Prop) (hw : ∀ x, wipe ((wipe σ vs).set j (some x)) vs = wipe σ vs) (hR : ∀ z v H H', TupS H H' → R z v H → R z v H')
    (hs : ∀ (i : Nat) H1, i < n → Same H H1 → Ev te ((wipe σ vs).set j (some (.int (lo + (i : Int))))) H1 (R i))
    (hq : ∀ p H1 ys, Same H H1 → H1 p = some (.lst ys) → Paired (fun v z => R z v H1) ys (List.range n) → Q (.ref p) H1) : tLc (iRng2 ta') (gName j) tYes te vs σ H Q :=
  ev_lcR2 h hlo hm hn R hw hR hs Q fun v H1 e hv => by
    obtain ⟨p, ys, rfl, hl, hP⟩ := hv
    exact hq p H1 ys e hl hP
end
section
variable {P : Program} {w : World} {K : PySem.W.Frag} {mg : Str → Option Value} {base : Heap} {C : Addr}
/-! ### _lettered -/
abbrev s_lettered : Stmt := top 23
theorem sc_lettered : FnScope ["word", "rows", "index", "row"] ["word", "rows"] (defScope s_lettered) := ⟨rfl, rfl, rfl, by decide +kernel, rfl, by decide +kernel, by decide +kernel⟩
def sp_lettered (C : Addr) : Sp := fun vs H Q _ => ∃ (word : Str) (a : Addr) (xs : List V) (rows : List Row), vs = [.str word, .ref a] ∧ H a = some (.lst xs) ∧ Paired (RowV H) xs rows ∧ word.length ≤ 100 ∧ okTab (letT word rows) = true ∧ (namesT (letT word rows)).Nodup ∧
  ∀ v H' t', Same H H' → KindV C H' v t' → t'.Perm (letT word rows) → Q v H'
theorem zip_at {rows : List Row} {k : Nat} {z : Row × Nat} (h : rows.zipIdx[k]? = some z) : z.2 = k ∧ rows[k]? = some z.1 := by
  rw [List.getElem?_zipIdx] at h
  cases e : rows[k]? with
  | none => rw [e] at h; cases h
  | some r =>
    rw [e] at h
    have := Option.some.inj h
    rw [← this]
    exact ⟨Nat.zero_add _, rfl⟩
theorem ok_lettered (B : Bt mg) (G : Gm mg) (OC_Kind : OkC P w K mg base "Kind" C 5 ["self", "operations"] (sp_init C)) (D : Df K mg "_lettered" s_lettered ["word", "rows"]) : Ok P w K mg base "_lettered" 7 ["word", "rows"] (sp_lettered C) := by
  refine D.ok sc_lettered (fun vs H Q E h => ?_) (fun f cdv A outer s H vs Q E hr h => ?_)
  · obtain ⟨word, a, xs, rows, rfl, _⟩ := h
    rfl
  · obtain ⟨word, a, xs, rows, rfl, ha, hx, hwl, hok, nd, q⟩ := h
    have hlen := Paired.length hx
    have h6 : rows.length ≤ 6 := by
      have := hok
      unfold okTab at this
      simp only [Bool.and_eq_true, decide_eq_true_eq] at this
      have h2 := this.1.1.1.2
      unfold letT at h2
      rw [List.length_map, List.length_zipIdx] at h2
      exact h2
    refine ⟨_, pss_one (ps_ret (OC_Kind.make hr (ha := pa_cons (pe_dc (own := [("index", 2), ("row", 3)]) (g := gTup K 2 (gCons (gName 2) (gCons (gName 3) (gNil)))) (tt := tYes) rfl sc_lettered.nd (pi_enum (by rfl) B.enumerate (pa_cons (pv 1) (pa_nil))) (blkOk_by (own := [("index", 2), ("row", 3)]) (N := ["word", "rows", "index", "row"]) (sc := defScope s_lettered) (by decide +kernel)) (fun _ _ _ _ _ => pg_tup (by rfl) (pgs_cons (pg_name (i := 2) sc_lettered.nd rfl (.inl rfl)) (pgs_cons (pg_name (i := 3) sc_lettered.nd rfl (.inl rfl)) (pgs_nil)))) (fun _ _ _ _ _ => pts_nil) (fun _ _ _ _ _ => pe_op op_add_str (pv 0) (pe_ix ix_str (G.LETTERS.pe) (pv 2) (fun _ _ => rfl))) (fun _ _ _ _ _ => pv 3)) (pa_nil)))), ?_⟩
    dsimp only [tRet, tMake, tCons, tNil]
    refine dc_runE (K := K) (xs := xs) (fun Q q => ⟨_, rfl, q _ _ (Same.refl _) ⟨a, rfl, SqL.of ha⟩⟩) rows.zipIdx (by rw [List.length_zipIdx]; exact hlen) (fun _ => true) (fun z => Sum.inr (letr word z.2)) (fun z v H => RowV H v z.1) (by rw [List.length_zipIdx]; omega)
      (by
        have h1 : (rows.zipIdx.map fun z => (Sum.inr (letr word z.2) : L2.Key)) = (namesT (letT word rows)).map Sum.inr := by
          unfold namesT letT
          rw [List.map_map, List.map_map]
          rfl
        rw [h1, List.nodup_iff_pairwise_ne, List.pairwise_map]
        exact (List.nodup_iff_pairwise_ne.mp nd).imp fun h z => h (Sum.inr.inj z)) (by intro _ _; rfl)
      (fun z v H H' e h => h.mono e) (fun k z x H1 hk hx' e => ⟨evt_yes, fun _ H3 e3 => ?_, fun _ H3 e3 => ?_⟩) (fun p H1 kvs hp e hd hP => ?_)
    · obtain ⟨ez, hr'⟩ := zip_at hk
      have hk8 : k < 8 := by have := (List.getElem?_eq_some_iff.mp hr').1; omega
      intro Q q
      refine ⟨_, rfl, _, rfl, _, (k : Int), 97 + k, rfl, rfl, sz_le (by decide), atI_nat (letters_at k hk8), word, _, rfl, rfl, sz_le (by show word.length + 1 ≤ 100000; omega), ?_⟩
      refine q _ _ (Same.refl _) ?_
      rw [ez]
      rfl
    · obtain ⟨ez, hr'⟩ := zip_at hk
      obtain ⟨r, hr2, hrow⟩ := paired_ix2 hx hx'
      rw [hr'] at hr2
      cases hr2
      exact ev_is rfl (hrow.mono (tups_of (e.trans e3)))
    · rw [filter_all] at hP
      have ht : TabV H1 kvs (letT word rows) := paired_mapR _ hP
      exact mk_kind hd ht hok nd fun v H' t' e' hk pm => q v H' t' (e.trans e') hk pm
end
end Tm
namespace Tm
open PySem PySem.Spec PyProof.Rows L2
local macro_rules | `(tactic| walk_at "x") => `(tactic| dsimp only [tNext, tRet, tSeq, tCall, tC, tCons, tNil, tAsg, tDrop, sFld])
theorem cell_ok : ∀ n, n < 7 → 2 ≤ n → okTab (cellT n) = true ∧ (namesT (cellT n)).Nodup := by decide +kernel
theorem swap_ok : ∀ n, n < 7 → 2 ≤ n → okTab (swapT n) = true ∧ (namesT (swapT n)).Nodup := by decide +kernel
theorem high_ok : ∀ n, n < 7 → 2 ≤ n → okTab (highT n) = true ∧ (namesT (highT n)).Nodup := by decide +kernel
theorem slot_ok : ∀ n, n < 7 → 1 ≤ n → okTab (slotT n) = true ∧ (namesT (slotT n)).Nodup := by decide +kernel
theorem fade_ok : ∀ n, n < 6 → 1 ≤ n → okTab (fadeT n) = true ∧ (namesT (fadeT n)).Nodup := by decide +kernel
theorem adder_ok : ∀ n, n < 13 → 2 ≤ n → okTab (adderT n) = true ∧ (namesT (adderT n)).Nodup := by decide +kernel
theorem flag_ok : okTab flagT = true ∧ (namesT flagT).Nodup := by decide +kernel
/-- x = tuple(a new list of pairs), then the rest -/
theorem asg_row {α : Type} {K : PySem.W.Frag} {D : Ends} {σ : L2.St} {H : Hp} {te : TE} {i : Nat} {rest : TS} {zs : List α} {f : α → Int × Int} (h : Ev te σ H fun v H1 => ∃ p ys, v = .ref p ∧ H1 p = some (.lst ys) ∧ Paired (fun v z => PairV H1 v (f z)) ys zs)
    (k : ∀ v H1, Same H H1 → RowV H1 v (zs.map f) → rest D (σ.set i (some v)) H1) :
    tSeq (tAsg (tCB (fun xs H Q => ∃ p ys, xs = [.ref p] ∧ ((SqL K H p ys ∧ ∀ l, H l = none → Q (.ref l) (upd H l (.tup ys))) ∨ (SqT K H p ys ∧ Q (.ref p) H))) (tCons te tNil)) (gName i)) rest D σ H :=
  ev_rowOf (K := K) h _ fun v H1 e hv => k v H1 e hv
theorem paired_rep {α β : Type} {F : α → β → Prop} {x : α} {y : β} (h : F x y) : ∀ n, Paired F (List.replicate n x) (List.replicate n y)
  | 0 => .nil
  | n + 1 => .cons h (paired_rep h n)
section
variable {P : Program} {w : World} {K : PySem.W.Frag} {mg : Str → Option Value} {base : Heap} {C : Addr}
def sp_made (C : Addr) (lo hi : Nat) (T : Nat → Tab) : Sp := fun vs H Q _ => ∃ n : Nat, vs = [.int (n : Int)] ∧ lo ≤ n ∧ n ≤ hi ∧ ∀ v H' t', Same H H' → KindV C H' v t' → t'.Perm (T n) → Q v H'
abbrev NeedNum (P : Program) (w : World) (K : PySem.W.Frag) (mg : Str → Option Value) (base : Heap) := Ok P w K mg base "need_number" 2 ["value", "least", "most"] sp_need
abbrev Lett (P : Program) (w : World) (K : PySem.W.Frag) (mg : Str → Option Value) (base : Heap) (C : Addr) := Ok P w K mg base "_lettered" 7 ["word", "rows"] (sp_lettered C)
/-! ### cells -/
abbrev s_cell : Stmt := top 24
theorem sc_cell_kind : FnScope ["many", "value"] ["many"] (defScope s_cell) := ⟨rfl, rfl, rfl, by decide +kernel, rfl, by decide +kernel, by decide +kernel⟩
theorem ok_cell (B : Bt mg) (O_need_number : NeedNum P w K mg base) (O_lettered : Lett P w K mg base C) (D : Df K mg "cell_kind" s_cell ["many"]) : Ok P w K mg base "cell_kind" 8 ["many"] (sp_made C 2 6 cellT) := by
  refine D.ok sc_cell_kind (fun vs H Q E h => ?_) (fun f cdv A outer s H vs Q E hr h => ?_)
  · obtain ⟨n, rfl, _⟩ := h
    rfl
  · obtain ⟨n, rfl, h2, h6, q⟩ := h
    have hT := cell_ok n (by omega) h2
    refine ⟨_, pss_cons (ps_expr (O_need_number.call hr (ha := pa_cons (pv 0) (pa_cons (pe_int) (pa_cons (pe_int) (pa_nil))))))
      (pss_one (ps_ret (O_lettered.call hr (ha := pa_cons (pe_str) (pa_cons (pe_lc (own := [("value", 1)]) (g := gName 1) (tt := tYes) rfl sc_cell_kind.nd (pi_range1 (by rfl) B.range (pa_cons (pv 0) (pa_nil))) (blkOk_by (own := [("value", 1)]) (N := ["many", "value"]) (sc := defScope s_cell) (by decide +kernel)) (fun _ _ _ _ _ => pg_name (i := 1) sc_cell_kind.nd rfl (.inl rfl)) (fun _ _ _ _ _ => pts_nil) (fun _ _ _ _ _ => pe_op (repTK (K := K)) (pe_tup (pa_cons (pe_tup (pa_cons (pv 1) (pa_cons (pe_int) (pa_nil)))) (pa_nil))) (pv 0))) (pa_nil)))))), ?_⟩
    refine ⟨_, rfl, n, 1, 6, rfl, by omega, by omega, ?_⟩
    walk_at "x"
    refine lcR_go (n := n) (fun Q q => ⟨_, rfl, q _ _ (Same.refl _) rfl⟩) (by omega) (fun i v H => RowV H v (List.replicate n ((i : Int), (0 : Int)))) (by intro _; rfl) (fun z v H H' e h => h.mono e) (fun i H1 hi e Q q => ?_) fun p H1 ys e hl hP => ?_
    · refine ⟨_, rfl, by show 2 ≤ sizeLine; decide, fun p hp => ⟨by show 1 ≤ sizeLine; decide, fun p2 hp2 => ⟨_, rfl, p2, (n : Int), [.ref p], rfl, rfl, SqT.of upd_same, by simp, by omega, by omega, by simp, fun p3 hp3 => ?_⟩⟩⟩
      have hp3' : p3 ≠ p := fun z => by rw [z, upd_ne (fun y => by rw [y, upd_same] at hp2; cases hp2), upd_same] at hp3; cases hp3
      have np2 : p2 ≠ p := fun y => by rw [y, upd_same] at hp2; cases hp2
      refine q _ _ ?_ ⟨p3, _, rfl, upd_same, ?_⟩
      · exact (same_new hp).trans ((same_new hp2).trans (same_new hp3))
      · have er : (List.replicate (n : Int).toNat [V.ref p]).flatten = List.replicate n (V.ref p) := by simp
        rw [er]
        have hpair : PairV (upd (upd (upd H1 p (.tup [.int (i : Int), .int 0])) p2 (.tup [.ref p])) p3 (.tup (List.replicate n (V.ref p)))) (.ref p) ((i : Int), 0) :=
          ⟨p, rfl, by rw [upd_ne hp3'.symm, upd_ne np2.symm, upd_same]⟩
        generalize upd (upd (upd H1 p (.tup [.int (i : Int), .int 0])) p2 (.tup [.ref p])) p3 (.tup (List.replicate n (V.ref p))) = Hn at hpair
        exact paired_rep hpair n
    · exact ⟨"put", p, ys, _, rfl, hl, paired_mapR _ hP, by decide, hT.1, hT.2, fun v H' t' e' hk pm => q v H' t' (e.trans e') hk pm⟩
/-! ### swap and highest kinds: rows of rows -/
abbrev s_swap : Stmt := top 27
theorem sc_swap_kind : FnScope ["many", "value", "state"] ["many"] (defScope s_swap) := ⟨rfl, rfl, rfl, by decide +kernel, rfl, by decide +kernel, by decide +kernel⟩
theorem ok_swap (B : Bt mg) (O_need_number : NeedNum P w K mg base) (O_lettered : Lett P w K mg base C) (D : Df K mg "swap_kind" s_swap ["many"]) : Ok P w K mg base "swap_kind" 8 ["many"] (sp_made C 2 6 swapT) := by
  refine D.ok sc_swap_kind (fun vs H Q E h => ?_) (fun f cdv A outer s H vs Q E hr h => ?_)
  · obtain ⟨n, rfl, _⟩ := h
    rfl
  · obtain ⟨n, rfl, h2, h6, q⟩ := h
    have hT := swap_ok n (by omega) h2
    refine ⟨_, pss_cons (ps_expr (O_need_number.call hr (ha := pa_cons (pv 0) (pa_cons (pe_int) (pa_cons (pe_int) (pa_nil))))))
      (pss_one (ps_ret (O_lettered.call hr (ha := pa_cons (pe_str) (pa_cons (pe_lc (own := [("value", 1)]) (g := gName 1) (tt := tYes) rfl sc_swap_kind.nd (pi_range1 (by rfl) B.range (pa_cons (pv 0) (pa_nil))) (blkOk_by (own := [("value", 1)]) (N := ["many", "value", "state"]) (sc := defScope s_swap) (by decide +kernel)) (fun _ _ _ _ _ => pg_name (i := 1) sc_swap_kind.nd rfl (.inr rfl)) (fun _ _ _ _ _ => pts_nil) (fun _ _ _ _ _ => pe_callTy (tupleK (K := K)) (by rfl) B.tuple (by decide +kernel) (pa_cons (pe_lc (own := [("state", 2)]) (g := gName 2) (tt := tYes) rfl sc_swap_kind.nd (pi_range1 (by rfl) B.range (pa_cons (pv 0) (pa_nil))) (blkOk_by (own := [("state", 2)]) (N := ["many", "value", "state"]) (by rfl)) (fun _ _ _ _ _ => pg_name (i := 2) sc_swap_kind.nd rfl (.inl rfl)) (fun _ _ _ _ _ => pts_nil) (fun _ _ _ _ _ => pe_tup (pa_cons (pv 1) (pa_cons (pv 2) (pa_nil))))) (pa_nil)))) (pa_nil)))))), ?_⟩
    refine ⟨_, rfl, n, 2, 6, rfl, by omega, by omega, ?_⟩
    walk_at "x"
    refine lcR_go (n := n) (fun Q q => ⟨_, rfl, q _ _ (Same.refl _) rfl⟩) (by omega) (fun i v H => RowV H v ((List.range n).map fun s : Nat => ((i : Int), (s : Int)))) (by intro _; rfl) (fun z v H H' e h => h.mono e) (fun i H1 hi e => ?_) fun p H1 ys e hl hP => ?_
    · refine ev_rowOf (f := fun s : Nat => ((i : Int), (s : Int))) ?_
      exact ev_lcR (n := n) (fun Q q => ⟨_, rfl, q _ _ (Same.refl _) rfl⟩) (by omega) _ (by intro _; rfl) (fun z v H H' e h => h.mono e) (fun s H2 hs e2 => ev_pair (ev_is rfl rfl) fun _ _ => ev_is rfl rfl)
    · exact ⟨"swap", p, ys, _, rfl, hl, paired_mapR _ hP, by decide, hT.1, hT.2, fun v H' t' e' hk pm => q v H' t' (e.trans e') hk pm⟩
abbrev s_high : Stmt := top 33
theorem sc_highest_kind : FnScope ["many", "least", "state"] ["many"] (defScope s_high) := ⟨rfl, rfl, rfl, by decide +kernel, rfl, by decide +kernel, by decide +kernel⟩
theorem ok_high (B : Bt mg) (O_need_number : NeedNum P w K mg base) (O_lettered : Lett P w K mg base C) (D : Df K mg "highest_kind" s_high ["many"]) : Ok P w K mg base "highest_kind" 8 ["many"] (sp_made C 2 6 highT) := by
  refine D.ok sc_highest_kind (fun vs H Q E h => ?_) (fun f cdv A outer s H vs Q E hr h => ?_)
  · obtain ⟨n, rfl, _⟩ := h
    rfl
  · obtain ⟨n, rfl, h2, h6, q⟩ := h
    have hT := high_ok n (by omega) h2
    refine ⟨_, pss_cons (ps_expr (O_need_number.call hr (ha := pa_cons (pv 0) (pa_cons (pe_int) (pa_cons (pe_int) (pa_nil))))))
      (pss_one (ps_ret (O_lettered.call hr (ha := pa_cons (pe_str) (pa_cons (pe_lc (own := [("least", 1)]) (g := gName 1) (tt := tYes) rfl sc_highest_kind.nd (pi_range1 (by rfl) B.range (pa_cons (pv 0) (pa_nil))) (blkOk_by (own := [("least", 1)]) (N := ["many", "least", "state"]) (sc := defScope s_high) (by decide +kernel)) (fun _ _ _ _ _ => pg_name (i := 1) sc_highest_kind.nd rfl (.inr rfl)) (fun _ _ _ _ _ => pts_nil) (fun _ _ _ _ _ => pe_callTy (tupleK (K := K)) (by rfl) B.tuple (by decide +kernel) (pa_cons (pe_lc (own := [("state", 2)]) (g := gName 2) (tt := tYes) rfl sc_highest_kind.nd (pi_range1 (by rfl) B.range (pa_cons (pv 0) (pa_nil))) (blkOk_by (own := [("state", 2)]) (N := ["many", "least", "state"]) (by rfl)) (fun _ _ _ _ _ => pg_name (i := 2) sc_highest_kind.nd rfl (.inl rfl)) (fun _ _ _ _ _ => pts_nil) (fun _ _ _ _ _ => pe_tup (pa_cons (pe_callB (call_max2 rfl) (by rfl) B.max (by decide +kernel) (pa_cons (pv 2) (pa_cons (pv 1) (pa_nil)))) (pa_cons (pe_int) (pa_nil))))) (pa_nil)))) (pa_nil)))))), ?_⟩
    refine ⟨_, rfl, n, 2, 6, rfl, by omega, by omega, ?_⟩
    walk_at "x"
    refine lcR_go (n := n) (fun Q q => ⟨_, rfl, q _ _ (Same.refl _) rfl⟩) (by omega) (fun i v H => RowV H v ((List.range n).map fun s : Nat => ((if (i : Int) > (s : Int) then (i : Int) else (s : Int)), (0 : Int)))) (by intro _; rfl) (fun z v H H' e h => h.mono e) (fun i H1 hi e => ?_) fun p H1 ys e hl hP => ?_
    · refine ev_rowOf (f := fun s : Nat => ((if (i : Int) > (s : Int) then (i : Int) else (s : Int)), (0 : Int))) ?_
      exact ev_lcR (n := n) (fun Q q => ⟨_, rfl, q _ _ (Same.refl _) rfl⟩) (by omega) _ (by intro _; rfl) (fun z v H H' e h => h.mono e) (fun s H2 hs e2 => ev_pair (fun Q q => ⟨_, rfl, _, rfl, _, _, rfl, q _ _ (Same.refl _) rfl⟩) fun _ _ => ev_c rfl)
    · exact ⟨"raise", p, ys, _, rfl, hl, paired_mapR _ hP, by decide, hT.1, hT.2, fun v H' t' e' hk pm => q v H' t' (e.trans e') hk pm⟩
/-! ### slots -/
abbrev s_slot : Stmt := top 28
theorem sc_slot_kind : FnScope ["many", "kept", "state", "pair"] ["many"] (defScope s_slot) := ⟨rfl, rfl, rfl, by decide +kernel, rfl, by decide +kernel, by decide +kernel⟩
theorem ok_slot (B : Bt mg) (O_need_number : NeedNum P w K mg base) (O_lettered : Lett P w K mg base C) (D : Df K mg "slot_kind" s_slot ["many"]) : Ok P w K mg base "slot_kind" 8 ["many"] (sp_made C 1 6 slotT) := by
  refine D.ok sc_slot_kind (fun vs H Q E h => ?_) (fun f cdv A outer s H vs Q E hr h => ?_)
  · obtain ⟨n, rfl, _⟩ := h
    rfl
  · obtain ⟨n, rfl, h2, h6, q⟩ := h
    have hT := slot_ok n (by omega) h2
    refine ⟨_, pss_cons (ps_expr (O_need_number.call hr (ha := pa_cons (pv 0) (pa_cons (pe_int) (pa_cons (pe_int) (pa_nil))))))
      (pss_cons (ps_set (i := 1) sc_slot_kind.nd rfl (.inr rfl) (pe_callTy (tupleK (K := K)) (by rfl) B.tuple (by decide +kernel) (pa_cons (pe_lc (own := [("state", 2)]) (g := gName 2) (tt := tYes) rfl sc_slot_kind.nd (pi_range2 (by rfl) B.range (pa_cons (pe_int) (pa_cons (pe_op op_add (pv 0) (pe_int)) (pa_nil)))) (blkOk_by (own := [("state", 2)]) (N := ["many", "kept", "state", "pair"]) (sc := defScope s_slot) (by decide +kernel)) (fun _ _ _ _ _ => pg_name (i := 2) sc_slot_kind.nd rfl (.inl rfl)) (fun _ _ _ _ _ => pts_nil) (fun _ _ _ _ _ => pe_tup (pa_cons (pv 2) (pa_cons (pv 2) (pa_nil))))) (pa_nil))))
      (pss_one (ps_ret (O_lettered.call hr (ha := pa_cons (pe_str) (pa_cons (pe_lc (own := [("pair", 3)]) (g := gName 3) (tt := tYes) rfl sc_slot_kind.nd (pi_tup (pv 1)) (blkOk_by (own := [("pair", 3)]) (N := ["many", "kept", "state", "pair"]) (sc := defScope s_slot) (by decide +kernel)) (fun _ _ _ _ _ => pg_name (i := 3) sc_slot_kind.nd rfl (.inl rfl)) (fun _ _ _ _ _ => pts_nil) (fun _ _ _ _ _ => pe_tup (pa_cons (pv 3) (pa_starK (K := K) (pv 1) (pa_nil))))) (pa_nil))))))), ?_⟩
    refine ⟨_, rfl, n, 1, 6, rfl, by omega, by omega, ?_⟩
    dsimp only
    refine asg_row (f := fun i : Nat => (1 + (i : Int), 1 + (i : Int))) (zs := List.range n) ?_ fun v H1 e1 hv => ?_
    · exact ev_lcR2 (n := n) (lo := 1) (m := (n : Int) + 1) (fun Q q => ⟨_, rfl, _, _, rfl, rfl, q _ _ (Same.refl _) rfl⟩) (by omega) (by omega) (by omega) _ (by intro _; rfl) (fun z v H H' e h => h.mono e) (fun s H2 hs e2 => ev_pair (ev_is rfl rfl) fun _ _ => ev_is rfl rfl)
    obtain ⟨a, xs, rfl, ha, hx⟩ := hv
    have hkl : (keptR n).length = n := by simp [keptR]
    have hlen := Paired.length hx
    rw [List.length_map, List.length_range] at hlen
    walk_at "x"
    refine lc_runT (K := K) (xs := xs) (ev_is rfl ⟨a, rfl, SqT.of ha⟩) (keptR n) (by rw [hkl]; exact hlen) (fun _ => true) (fun z v H => RowV H v (z :: keptR n)) (by rw [hkl]; omega) (by intro _; rfl) (fun z v H H' e h => h.mono e)
      (fun i z v H2 hi y e => ⟨evt_yes, fun _ H3 e3 Q q => ?_⟩) (fun p H2 ys hp e2 hl hP => ?_)
    · obtain ⟨z', hz', hpz⟩ := paired_ix2 hx y
      have hz2 : z' = z := by
        have h0 : (keptR n)[i]? = some z' := hz'
        rw [hi] at h0
        exact (Option.some.inj h0).symm
      subst hz2
      have s3 : Same H1 H3 := e.trans e3
      refine ⟨_, rfl, _, rfl, a, xs, rfl, .inl (SqT.of (s3 _ _ ha)), by show (v :: (xs ++ [])).length ≤ sizeLine; exact sz_le (by simp; omega), fun p hp => q _ _ (same_new hp) ⟨p, _, rfl, upd_same, ?_⟩⟩
      rw [List.append_nil]
      have t4 := (tups_of s3).trans (tups_of (same_new (o := .tup (v :: xs)) hp))
      exact .cons (hpz.mono t4) (Paired.mapP hx fun _ _ r => r.mono t4)
    · rw [filter_all] at hP
      exact ⟨"set", p, ys, _, rfl, hl, paired_mapR _ hP, by decide, hT.1, hT.2, fun v H' t' e' hk pm => q v H' t' (e1.trans (e2.trans e')) hk pm⟩
end
end Tm
namespace Tm
open PySem PySem.Spec PyProof.Rows L2
local macro_rules | `(tactic| walk_at "x") => `(tactic| dsimp only [tNext, tRet, tSeq, tCall, tCB, tC, tCons, tNil, tAsg, tDrop, sFld])
/-! ### the place of a text in a list -/
def idxS : List Str → Str → Nat
  | [], _ => 0
  | w :: ws, x => if w = x then 0 else idxS ws x + 1
theorem idx_ok : ∀ {ws : List Str} {x : Str}, x ∈ ws → ws[idxS ws x]? = some x ∧ ∀ (m : Nat) (z : Str), m < idxS ws x → ws[m]? = some z → z ≠ x
  | [], _, h => by simp at h
  | w :: ws, x, h => by
    by_cases hw : w = x
    · have e : idxS (w :: ws) x = 0 := if_pos hw
      rw [e]
      exact ⟨by simp [hw], fun m z hm => absurd hm (Nat.not_lt_zero _)⟩
    · have e : idxS (w :: ws) x = idxS ws x + 1 := if_neg hw
      have hm : x ∈ ws := (List.mem_cons.mp h).resolve_left (fun z => hw z.symm)
      obtain ⟨h1, h2⟩ := idx_ok hm
      rw [e]
      refine ⟨by simpa using h1, fun m z hlt hz => ?_⟩
      cases m with
      | zero =>
        simp at hz
        rw [← hz]; exact hw
      | succ m => exact h2 m z (by omega) (by simpa using hz)
theorem indexFK {X : Cx} {K : PySem.W.Frag} (hK : X.K = K := by rfl) : MtR X "list.index" (rIndex K) := by subst hK; exact mt_index
theorem pe_bmK {X : Cx} {K : PySem.W.Frag} {T id : String} {r : V → List V → Hp → VK → Prop} {o e : Expr} {es : List Expr} {to : TE} {t : TA} {name : Str} {apos cpos : Pos} (pa : PlainAttrs T) (slot : Slot T name id) (hty : typeOf (.builtin id) = pure (.type "method_descriptor")) (hm : MtR X id r) (ho : PE X o to) (ha : PA X (e :: es) t)
    (hK : X.K = K := by rfl) (hbase : attributeBase o name X.env (eval o X.env) = eval o X.env := by rfl)
    (hfew : ((backTo cpos (starEach (e :: es) X.env)).all (fun x => !x.1) && (backToKw cpos (keywordEach [] X.env)).all (fun x => x.1.isSome) &&
      decide ((e :: es).length + ([] : List Keyword).length + (if ([] : List Keyword).isEmpty then 0 else 1) < 30)) = true := by rfl)
    (hline : (apos.endLine == cpos.line) = true := by rfl) (hs : starEach (e :: es) X.env = (false, eval e X.env) :: starEach es X.env := by rfl) (hp : (backTo cpos (starEach es X.env)).any (·.1) = false := by rfl) :
    PE X (.Call (.Attribute o name apos) (e :: es) [] cpos) (tBM K T r to t) := by subst hK; exact pe_bm pa slot hty hm ho ha hbase hfew hline hs hp
theorem ev_index {K : PySem.W.Frag} {σ : L2.St} {H : Hp} {i : Nat} {te : TE} {a : Addr} {ws : List Str} {x : Str} (hi : σ[i]? = some (some (.ref a))) (ha : H a = some (.lst (ws.map V.str))) (hx : x ∈ ws) (he : Ev te σ H fun v _ => v = .str x) :
    Ev (tBM K "list" (rIndex K) (tVar i) (tCons te tNil)) σ H (fun v _ => v = .int (idxS ws x : Nat)) := fun Q q => by
  refine ⟨_, hi, .inl ⟨rfl, _, SqL.of ha⟩, he _ fun v H1 e1 ev => ?_⟩
  subst ev
  obtain ⟨h1, h2⟩ := idx_ok hx
  refine ⟨a, ws.map V.str, .str x, idxS ws x, .str x, rfl, rfl, SqL.of (e1 _ _ ha), rfl, by simp [List.all_map, flatV], by rw [List.getElem?_map, h1]; rfl, by simp [eqV], fun m z' hm hz => ?_, q _ _ e1 rfl⟩
  rw [List.getElem?_map] at hz
  cases hw : ws[m]? with
  | none => rw [hw] at hz; cases hz
  | some z =>
    rw [hw] at hz
    have ez : V.str z = z' := Option.some.inj hz
    subst ez
    have := h2 m z hm hw
    simp [eqV, this]
/-! ### queues -/
def QW : List Str := ["", "a", "b", "aa", "ab", "ba", "bb"]
def qwords (n : Nat) : List Str := QW.filter fun w => decide (w.length ≤ n)
def longS (n : Nat) (l w : Str) : Str := if w.length < n then w ++ l else w
def joinR (n : Nat) (l : Str) : Row := (qwords n).map fun w => ((idxS (qwords n) (longS n l w) : Nat), (0 : Int))
def leaveR (n : Nat) : Row := (qwords n).map fun w => ((idxS (qwords n) (cutS w (some 1) none) : Nat), (idxS (qwords n) (cutS w none (some 1)) : Nat))
def queueT (n : Nat) : Tab := [("joina", joinR n "a"), ("joinb", joinR n "b"), ("leave", leaveR n)]
theorem queue_ok : ∀ n, n < 3 → 1 ≤ n → okTab (queueT n) = true ∧ (namesT (queueT n)).Nodup := by decide +kernel
theorem q_long : ∀ n, n < 3 → 1 ≤ n → ∀ l ∈ (["a", "b"] : List Str), ∀ w ∈ qwords n, longS n l w ∈ qwords n := by decide +kernel
theorem q_cut : ∀ n, n < 3 → 1 ≤ n → ∀ w ∈ qwords n, cutS w (some 1) none ∈ qwords n ∧ cutS w none (some 1) ∈ qwords n ∧ w.length ≤ 2 := by decide +kernel
theorem q_short : ∀ w ∈ QW, w.length ≤ 2 := by decide +kernel
theorem q_len : ∀ n, n < 3 → (qwords n).length ≤ 7 := by decide +kernel
section
variable {P : Program} {w : World} {K : PySem.W.Frag} {mg : Str → Option Value} {base : Heap} {C : Addr}
abbrev s_join : Stmt := top 32
theorem sc_join_row : FnScope ["words", "many", "letter", "longer", "word"] ["words", "many", "letter"] (defScope s_join) := ⟨rfl, rfl, rfl, by decide +kernel, rfl, by decide +kernel, by decide +kernel⟩
def sp_join : Sp := fun vs H Q _ => ∃ (a : Addr) (n : Nat) (l : Str), vs = [.ref a, .int (n : Int), .str l] ∧ H a = some (.lst ((qwords n).map V.str)) ∧ 1 ≤ n ∧ n ≤ 2 ∧ l ∈ (["a", "b"] : List Str) ∧ ∀ v H', Same H H' → RowV H' v (joinR n l) → Q v H'
theorem ok_join (B : Bt mg) (D : Df K mg "_join_row" s_join ["words", "many", "letter"]) : Ok P w K mg base "_join_row" 1 ["words", "many", "letter"] sp_join := by
  refine D.ok sc_join_row (fun vs H Q E h => ?_) (fun f cdv A outer s H vs Q E hr h => ?_)
  · obtain ⟨a, n, l, rfl, _⟩ := h
    rfl
  · obtain ⟨a, n, l, rfl, ha, h1, h2, hl, q⟩ := h
    have hlong := q_long n (by omega) h1 l hl
    have hsh : ∀ w ∈ qwords n, w.length ≤ 2 := fun w hw => q_short w (List.mem_filter.mp hw).1
    have hl1 : l.length = 1 := by
      rcases List.mem_cons.mp hl with z | z
      · rw [z]; decide +kernel
      · rcases List.mem_cons.mp z with z | z
        · rw [z]; decide +kernel
        · simp at z
    have hql := q_len n (by omega)
    refine ⟨_, pss_cons (ps_setLc (i := 3) (own := [("word", 4)]) (g := gName 4) (tt := tYes) rfl sc_join_row.nd rfl rfl (sw_true rfl rfl rfl (by decide +kernel)) (pi_list (pv 0)) (blkOk_by (own := [("word", 4)]) (N := ["words", "many", "letter", "longer", "word"]) (sc := defScope s_join) (by decide +kernel)) (fun _ _ _ _ _ => pg_name (i := 4) sc_join_row.nd rfl (.inl rfl)) (fun _ _ _ _ _ => pts_nil) (fun _ _ _ _ _ => pe_ifExp (pt_cmpR op_lt (pe_callB call_len_str (by rfl) B.len (by decide +kernel) (pa_cons (pv 4) (pa_nil))) (pv 1) (nomark _)) (pe_op op_add_str (pv 4) (pv 2)) (pv 4)))
      (pss_one (ps_ret (pe_callTy (tupleK (K := K)) (by rfl) B.tuple (by decide +kernel) (pa_cons (pe_lc (own := [("word", 4)]) (g := gName 4) (tt := tYes) rfl sc_join_row.nd (pi_list (pv 3)) (blkOk_by (own := [("word", 4)]) (N := ["words", "many", "letter", "longer", "word"]) (sc := defScope s_join) (by decide +kernel)) (fun _ _ _ _ _ => pg_name (i := 4) sc_join_row.nd rfl (.inl rfl)) (fun _ _ _ _ _ => pts_nil) (fun _ _ _ _ _ => pe_tup (pa_cons (pe_bmK (K := K) PySem.F.plainAttrs_list PySem.F.slot_list_index PySem.F.type_list_index (indexFK (K := K)) (pv 0) (pa_cons (pv 4) (pa_nil))) (pa_cons (pe_int) (pa_nil))))) (pa_nil))))), ?_⟩
    dsimp only [tSeq, tAsg]
    refine lc_runL (K := K) (xs := (qwords n).map V.str) (ev_is rfl ⟨a, rfl, SqL.of ha⟩) (qwords n) (List.length_map ..) (fun _ => true) (fun w v _ => v = V.str (longS n l w)) (by omega) (by intro _; rfl) (fun _ _ _ _ _ h => h)
      (fun i w v H1 hi hx e => ⟨evt_yes, fun _ H3 e3 Q q => ?_⟩) (fun p H1 ys hp e hls hP => ?_)
    · rw [List.getElem?_map, hi] at hx
      have ex : V.str w = v := Option.some.inj hx
      subst ex
      have hw2 := hsh w (List.mem_of_getElem? hi)
      refine ⟨_, rfl, w, rfl, sz_le (by omega), _, rfl, _, _, rfl, rfl, _, rfl, ?_⟩
      by_cases hc : w.length < n
      · refine ifT (decide_eq_true (by omega)) ?_
        refine ⟨_, rfl, _, rfl, _, _, rfl, rfl, sz_le (by omega), q _ _ (Same.refl _) ?_⟩
        rw [longS, if_pos hc]
      · refine ifF (decide_eq_false (by omega)) ?_
        refine ⟨_, rfl, q _ _ (Same.refl _) ?_⟩
        rw [longS, if_neg hc]
    · rw [filter_all] at hP
      have ey : ys = ((qwords n).map (longS n l)).map V.str := by
        clear hls
        generalize qwords n = ws at hP
        induction hP with
        | nil => rfl
        | cons r t ih => rw [r, ih]; rfl
      rw [ey] at hls
      dsimp only [gName]
      walk_at "x"

      refine lc_runL (K := K) (xs := ((qwords n).map (longS n l)).map V.str) (ev_is rfl ⟨p, rfl, SqL.of hls⟩) (qwords n) (by simp) (fun _ => true) (fun w v H => PairV H v ((idxS (qwords n) (longS n l w) : Nat), (0 : Int))) (by omega) (by intro _; rfl) (fun _ _ _ _ e h => h.mono e)
        (fun i w v H2 hi hx e2 => ⟨evt_yes, fun _ H3 e3 => ?_⟩) (fun p2 H2 ys2 hp2 e2 hl2 hP2 => ?_)
      · rw [List.getElem?_map, List.getElem?_map, hi] at hx
        have ex : V.str (longS n l w) = v := Option.some.inj hx
        subst ex
        refine ev_pair ?_ fun _ _ => ev_c rfl
        exact ev_index (ws := qwords n) rfl ((e.trans (e2.trans e3)) _ _ ha) (hlong w (List.mem_of_getElem? hi)) (ev_is rfl rfl)
      · rw [filter_all] at hP2
        refine ⟨p2, ys2, rfl, .inl ⟨SqL.of hl2, fun l3 hl3 => q _ _ (e.trans (e2.trans (same_new hl3))) ⟨l3, ys2, rfl, upd_same, ?_⟩⟩⟩
        exact paired_mapR _ (Paired.mapP hP2 fun _ _ r => r.mono (tups_of (same_new hl3)))
end
end Tm
namespace Tm
open PySem PySem.Spec PyProof.Rows L2
local macro_rules | `(tactic| walk_at "x") => `(tactic| dsimp only [tNext, tRet, tSeq, tCall, tCB, tC, tCons, tNil, tAsg, tDrop, sFld])
/-- a constant tuple of texts of the top -/
structure GT (K : PySem.W.Frag) (mg : Str → Option Value) (x : Str) (ws : List Str) : Prop where
  ex : ∃ a, mg x = some (.ref a) ∧ ∀ H, SqT K H a (ws.map V.str)
theorem merge1 (k : L2.Key) (v : V) : mergeK [] [(k, v)] = [(k, v)] := rfl
section
variable {P : Program} {w : World} {K : PySem.W.Frag} {mg : Str → Option Value} {base : Heap} {C : Addr}
abbrev s_faded : Stmt := top 30
theorem sc_faded : FnScope ["state", "many", "forgotten"] ["state", "many"] (defScope s_faded) := ⟨rfl, rfl, rfl, by decide +kernel, rfl, by decide +kernel, by decide +kernel⟩
def sp_faded : Sp := fun vs H Q _ => ∃ s n : Int, vs = [.int s, .int n] ∧ Q (.int (fadeS s n)) H
theorem ok_faded (B : Bt mg) (D : Df K mg "_faded" s_faded ["state", "many"]) : Ok P w K mg base "_faded" 1 ["state", "many"] sp_faded := by
  refine D.ok sc_faded (fun vs H Q E h => ?_) (fun f cdv A outer s H vs Q E hr h => ?_)
  · obtain ⟨s, n, rfl, _⟩ := h
    rfl
  · obtain ⟨s, n, rfl, q⟩ := h
    refine ⟨_, pss_cons (ps_set (i := 2) sc_faded.nd rfl (.inl rfl) (pe_op op_add (pe_op op_mul (pe_int) (pv 1)) (pe_int)))
      (pss_cons (ps_if (pt_cmpR op_eq (pv 0) (pv 1) (nomark _))
        (pss_one (ps_ret (pv 2)))
        (pss_nil))
      (pss_one (ps_ret (pe_callB (call_min2 rfl) (by rfl) B.min (by decide +kernel) (pa_cons (pe_op op_add (pv 0) (pe_int)) (pa_cons (pv 2) (pa_nil))))))), ?_⟩
    refine ⟨_, rfl, _, _, rfl, rfl, .inl ⟨by decide, by decide⟩, _, _, rfl, rfl, ?_⟩
    refine ⟨_, rfl, _, rfl, rfl, _, rfl, ?_⟩
    by_cases hc : s = n
    · refine ifT (by simp [hc]) ?_
      refine ⟨_, rfl, ?_⟩
      have e : fadeS s n = 2 * n + 1 := if_pos hc
      rw [e] at q
      exact q
    · refine ifF (by simp [hc]) ?_
      refine ⟨_, rfl, _, _, rfl, rfl, _, rfl, _, _, rfl, ?_⟩
      have e : fadeS s n = if 2 * n + 1 < s + 1 then 2 * n + 1 else s + 1 := if_neg hc
      rw [e] at q
      exact q
abbrev s_fading : Stmt := top 29
theorem sc_fading_kind : FnScope ["many", "later", "state"] ["many"] (defScope s_fading) := ⟨rfl, rfl, rfl, by decide +kernel, rfl, by decide +kernel, by decide +kernel⟩
theorem ok_fading (B : Bt mg) (O_need_number : NeedNum P w K mg base) (O_faded : Ok P w K mg base "_faded" 1 ["state", "many"] sp_faded) (O_lettered : Lett P w K mg base C) (D : Df K mg "fading_kind" s_fading ["many"]) : Ok P w K mg base "fading_kind" 8 ["many"] (sp_made C 1 5 fadeT) := by
  refine D.ok sc_fading_kind (fun vs H Q E h => ?_) (fun f cdv A outer s H vs Q E hr h => ?_)
  · obtain ⟨n, rfl, _⟩ := h
    rfl
  · obtain ⟨n, rfl, h2, h6, q⟩ := h
    have hT := fade_ok n (by omega) h2
    refine ⟨_, pss_cons (ps_expr (O_need_number.call hr (ha := pa_cons (pv 0) (pa_cons (pe_int) (pa_cons (pe_int) (pa_nil))))))
      (pss_cons (ps_set (i := 1) sc_fading_kind.nd rfl (.inl rfl) (pe_callTy (tupleK (K := K)) (by rfl) B.tuple (by decide +kernel) (pa_cons (pe_lc (own := [("state", 2)]) (g := gName 2) (tt := tYes) rfl sc_fading_kind.nd (pi_range2 (by rfl) B.range (pa_cons (pe_int) (pa_cons (pe_op op_add (pe_op op_mul (pe_int) (pv 0)) (pe_int)) (pa_nil)))) (blkOk_by (own := [("state", 2)]) (N := ["many", "later", "state"]) (sc := defScope s_fading) (by decide +kernel)) (fun _ _ _ _ _ => pg_name (i := 2) sc_fading_kind.nd rfl (.inl rfl)) (fun _ _ _ _ _ => pts_nil) (fun _ _ _ _ _ => pe_tup (pa_cons (O_faded.call hr (ha := pa_cons (pv 2) (pa_cons (pv 0) (pa_nil)))) (pa_cons (pe_int) (pa_nil))))) (pa_nil))))
      (pss_one (ps_ret (O_lettered.call hr (ha := pa_cons (pe_str) (pa_cons (pe_lst (pa_cons (pe_tup (pa_cons (pe_tup (pa_cons (pe_int) (pa_cons (pe_int) (pa_nil)))) (pa_starK (K := K) (pv 1) (pa_nil)))) (pa_cons (pe_tup (pa_cons (pe_tup (pa_cons (pe_op op_add (pv 0) (pe_int)) (pa_cons (pe_int) (pa_nil)))) (pa_starK (K := K) (pv 1) (pa_nil)))) (pa_nil)))) (pa_nil))))))), ?_⟩
    refine ⟨_, rfl, n, 1, 5, rfl, by omega, by omega, ?_⟩
    dsimp only
    refine asg_row (f := fun i : Nat => (fadeS (1 + (i : Int)) n, (0 : Int))) (zs := List.range (2 * n + 1)) ?_ fun v H1 e1 hv => ?_
    · exact ev_lcR2 (n := 2 * n + 1) (lo := 1) (m := 2 * (n : Int) + 2) (fun Q q => ⟨_, rfl, _, _, rfl, rfl, .inl ⟨by decide, by decide⟩, _, _, rfl, rfl, q _ _ (Same.refl _) rfl⟩) (by omega) (by omega) (by omega) _ (by intro _; rfl) (fun z v H H' e h => h.mono e)
        (fun s H2 hs e2 => ev_pair (fun Q q => ⟨_, rfl, _, rfl, _, _, rfl, q _ _ (Same.refl _) rfl⟩) fun _ _ => ev_c rfl)
    obtain ⟨a, xs, rfl, ha, hx⟩ := hv
    have hlen := Paired.length hx
    rw [List.length_map, List.length_range] at hlen
    refine ⟨by show 2 ≤ sizeLine; decide, fun p1 hp1 => ?_⟩
    refine ⟨_, rfl, a, xs, rfl, .inl (SqT.of ((same_new hp1) _ _ ha)), by show (V.ref p1 :: (xs ++ [])).length ≤ sizeLine; exact sz_le (by simp; omega), fun p2 hp2 => ?_⟩
    rw [List.append_nil]
    have e2 : Same H1 (upd (upd H1 p1 (.tup [.int 1, .int 0])) p2 (.tup (.ref p1 :: xs))) := (same_new hp1).trans (same_new hp2)
    have r1 : RowV (upd (upd H1 p1 (.tup [.int 1, .int 0])) p2 (.tup (.ref p1 :: xs))) (.ref p2) ((1, 0) :: laterR n) := by
      refine ⟨p2, _, rfl, upd_same, .cons ⟨p1, rfl, ?_⟩ (Paired.mapP hx fun _ _ r => r.mono (tups_of e2))⟩
      rw [upd_ne (fun z => by rw [z, upd_same] at hp2; cases hp2), upd_same]
    generalize upd (upd H1 p1 (.tup [.int 1, .int 0])) p2 (.tup (.ref p1 :: xs)) = H2 at e2 r1
    refine ⟨_, rfl, _, _, rfl, rfl, by show 2 ≤ sizeLine; decide, fun p3 hp3 => ?_⟩
    refine ⟨_, rfl, a, xs, rfl, .inl (SqT.of ((same_new hp3) _ _ (e2 _ _ ha))), by show (V.ref p3 :: (xs ++ [])).length ≤ sizeLine; exact sz_le (by simp; omega), fun p4 hp4 => ?_⟩
    rw [List.append_nil]
    have e3 : Same H2 (upd (upd H2 p3 (.tup [.int ((n : Int) + 1), .int 0])) p4 (.tup (.ref p3 :: xs))) := (same_new hp3).trans (same_new hp4)
    have r2 : RowV (upd (upd H2 p3 (.tup [.int ((n : Int) + 1), .int 0])) p4 (.tup (.ref p3 :: xs))) (.ref p4) (((n : Int) + 1, 0) :: laterR n) := by
      refine ⟨p4, _, rfl, upd_same, .cons ⟨p3, rfl, ?_⟩ (Paired.mapP hx fun _ _ r => r.mono (tups_of (e2.trans e3)))⟩
      rw [upd_ne (fun z => by rw [z, upd_same] at hp4; cases hp4), upd_same]
    generalize upd (upd H2 p3 (.tup [.int ((n : Int) + 1), .int 0])) p4 (.tup (.ref p3 :: xs)) = H3 at e3 r2
    refine ⟨by show 2 ≤ sizeLine; decide, fun l hl => ?_⟩
    refine ⟨"set", l, _, [(1, 0) :: laterR n, ((n : Int) + 1, 0) :: laterR n], rfl, upd_same, .cons ((r1.mono (tups_of e3)).mono (tups_of (same_new hl))) (.cons (r2.mono (tups_of (same_new hl))) .nil), by decide, hT.1, hT.2, fun v H' t' e' hk pm => q v H' t' ((e1.trans (e2.trans (e3.trans (same_new hl)))).trans e') hk pm⟩
/-! ### flags, adders -/
abbrev s_flag : Stmt := top 25
theorem sc_flag_kind : FnScope [] [] (defScope s_flag) := ⟨rfl, rfl, rfl, by decide +kernel, rfl, by decide +kernel, by decide +kernel⟩
def sp_flag (C : Addr) : Sp := fun vs H Q _ => vs = [] ∧ ∀ v H' t', Same H H' → KindV C H' v t' → t'.Perm flagT → Q v H'
theorem ok_flag (OC_Kind : OkC P w K mg base "Kind" C 5 ["self", "operations"] (sp_init C)) (D : Df K mg "flag_kind" s_flag []) : Ok P w K mg base "flag_kind" 7 [] (sp_flag C) := by
  refine D.ok sc_flag_kind (fun vs H Q E h => ?_) (fun f cdv A outer s H vs Q E hr h => ?_)
  · obtain ⟨rfl, _⟩ := h
    rfl
  · obtain ⟨rfl, q⟩ := h
    refine ⟨_, pss_one (ps_ret (OC_Kind.make hr (ha := pa_cons (pe_disp (pps_cons (pe_str) (pe_tup (pa_cons (pe_tup (pa_cons (pe_int) (pa_cons (pe_int) (pa_nil)))) (pa_cons (pe_tup (pa_cons (pe_int) (pa_cons (pe_int) (pa_nil)))) (pa_nil)))) (pps_nil)) (by rfl) (by rfl) (fun z => by cases z) (by decide)) (pa_nil)))), ?_⟩
    intro d hd
    refine ⟨by show 2 ≤ sizeLine; decide, fun p1 hp1 => ⟨by show 2 ≤ sizeLine; decide, fun p2 hp2 => ⟨by show 2 ≤ sizeLine; decide, fun p3 hp3 => ?_⟩⟩⟩
    have e1 : Same (upd H d (.dK [])) (upd (upd (upd (upd H d (.dK [])) p1 (.tup [.int 1, .int 0])) p2 (.tup [.int 1, .int 1])) p3 (.tup [.ref p1, .ref p2])) := (same_new hp1).trans ((same_new hp2).trans (same_new hp3))
    have row : RowV (upd (upd (upd (upd H d (.dK [])) p1 (.tup [.int 1, .int 0])) p2 (.tup [.int 1, .int 1])) p3 (.tup [.ref p1, .ref p2])) (.ref p3) [(1, 0), (1, 1)] := by
      have n21 : p2 ≠ p1 := fun z => by rw [z, upd_same] at hp2; cases hp2
      have n31 : p3 ≠ p1 := fun z => by rw [z, upd_ne n21.symm, upd_same] at hp3; cases hp3
      have n32 : p3 ≠ p2 := fun z => by rw [z, upd_same] at hp3; cases hp3
      refine ⟨p3, _, rfl, upd_same, .cons ⟨p1, rfl, ?_⟩ (.cons ⟨p2, rfl, ?_⟩ .nil)⟩
      · rw [upd_ne n31.symm, upd_ne n21.symm, upd_same]
      · rw [upd_ne n32.symm, upd_same]
    generalize upd (upd (upd (upd H d (.dK [])) p1 (.tup [.int 1, .int 0])) p2 (.tup [.int 1, .int 1])) p3 (.tup [.ref p1, .ref p2]) = H1 at e1 row
    have hd1 : H1 d = some (.dK []) := e1 _ _ upd_same
    have eH : Same H (upd H1 d (.dK [(Sum.inr "set", .ref p3)])) := same_mut ((same_new hd).trans e1) hd
    refine ⟨hd1, [(Sum.inr "set", .ref p3)], rfl, by show 1 ≤ 15; decide, ?_⟩
    rw [merge1]
    exact mk_kind (t := flagT) upd_same (.cons ⟨rfl, row.mono (tups_upd hd1 (fun xs z => by cases z))⟩ .nil) flag_ok.1 flag_ok.2 fun v H' t' e' hk pm => q v H' t' (eH.trans e') hk pm
abbrev s_adder : Stmt := top 26
theorem sc_adder_kind : FnScope ["many", "state"] ["many"] (defScope s_adder) := ⟨rfl, rfl, rfl, by decide +kernel, rfl, by decide +kernel, by decide +kernel⟩
theorem ok_adder (B : Bt mg) (O_need_number : NeedNum P w K mg base) (OC_Kind : OkC P w K mg base "Kind" C 5 ["self", "operations"] (sp_init C)) (D : Df K mg "adder_kind" s_adder ["many"]) : Ok P w K mg base "adder_kind" 8 ["many"] (sp_made C 2 12 adderT) := by
  refine D.ok sc_adder_kind (fun vs H Q E h => ?_) (fun f cdv A outer s H vs Q E hr h => ?_)
  · obtain ⟨n, rfl, _⟩ := h
    rfl
  · obtain ⟨n, rfl, h2, h6, q⟩ := h
    have hT := adder_ok n (by omega) h2
    refine ⟨_, pss_cons (ps_expr (O_need_number.call hr (ha := pa_cons (pv 0) (pa_cons (pe_int) (pa_cons (pe_int) (pa_nil))))))
      (pss_one (ps_ret (OC_Kind.make hr (ha := pa_cons (pe_disp (pps_cons (pe_str) (pe_callTy (tupleK (K := K)) (by rfl) B.tuple (by decide +kernel) (pa_cons (pe_lc (own := [("state", 1)]) (g := gName 1) (tt := tYes) rfl sc_adder_kind.nd (pi_range1 (by rfl) B.range (pa_cons (pv 0) (pa_nil))) (blkOk_by (own := [("state", 1)]) (N := ["many", "state"]) (sc := defScope s_adder) (by decide +kernel)) (fun _ _ _ _ _ => pg_name (i := 1) sc_adder_kind.nd rfl (.inl rfl)) (fun _ _ _ _ _ => pts_nil) (fun _ _ _ _ _ => pe_tup (pa_cons (pe_op op_mod (pe_op op_add (pv 1) (pe_int)) (pv 0)) (pa_cons (pv 1) (pa_nil))))) (pa_nil))) (pps_nil)) (by rfl) (by rfl) (fun z => by cases z) (by decide)) (pa_nil))))), ?_⟩
    refine ⟨_, rfl, n, 2, 12, rfl, by omega, by omega, ?_⟩
    intro d hd
    dsimp only [tPairs, tC, tCB, tCons, tNil]
    refine lcR_go (n := n) (fun Q q => ⟨_, rfl, q _ _ (Same.refl _) rfl⟩) (by omega) (fun i v H => PairV H v (((i : Int) + 1) % (n : Int), (i : Int))) (by intro _; rfl) (fun z v H H' e h => h.mono e) (fun i H1 hi e => ?_) fun p H1 ys e hl hP => ?_
    · exact ev_pair (fun Q q => ⟨_, rfl, _, _, rfl, rfl, _, rfl, _, _, rfl, rfl, by omega, q _ _ (Same.refl _) rfl⟩) fun _ _ => ev_is rfl rfl
    · refine ⟨p, ys, rfl, .inl ⟨SqL.of hl, fun l hl2 => ?_⟩⟩
      have e2 : Same (upd H d (.dK [])) (upd H1 l (.tup ys)) := e.trans (same_new hl2)
      have row : RowV (upd H1 l (.tup ys)) (.ref l) ((List.range n).map fun s : Nat => (((s : Int) + 1) % (n : Int), (s : Int))) :=
        ⟨l, ys, rfl, upd_same, paired_mapR _ (Paired.mapP hP fun _ _ r => r.mono (tups_of (same_new hl2)))⟩
      generalize upd H1 l (.tup ys) = H2 at e2 row
      have hd1 : H2 d = some (.dK []) := e2 _ _ upd_same
      have eH : Same H (upd H2 d (.dK [(Sum.inr "add", .ref l)])) := same_mut ((same_new hd).trans e2) hd
      refine ⟨hd1, [(Sum.inr "add", .ref l)], rfl, by show 1 ≤ 15; decide, ?_⟩
      rw [merge1]
      exact mk_kind (t := adderT n) upd_same (.cons ⟨rfl, row.mono (tups_upd hd1 (fun xs z => by cases z))⟩ .nil) hT.1 hT.2 fun v H' t' e' hk pm => q v H' t' (eH.trans e') hk pm
end
end Tm
namespace Tm
open PySem PySem.Spec PyProof.Rows L2
local macro_rules | `(tactic| walk_at "x") => `(tactic| dsimp only [tNext, tRet, tSeq, tCall, tCB, tC, tCons, tNil, tAsg, tDrop, sFld])
theorem strs_eq : ∀ {ys : List V} {ws : List Str}, Paired (fun v z => v = V.str z) ys ws → ys = ws.map V.str
  | _, _, .nil => rfl
  | _, _, .cons r t => by rw [r, strs_eq t]; rfl
section
variable {P : Program} {w : World} {K : PySem.W.Frag} {mg : Str → Option Value} {base : Heap} {C : Addr}
abbrev s_queue : Stmt := top 31
theorem sc_queue_kind : FnScope ["many", "words", "leave", "word"] ["many"] (defScope s_queue) := ⟨rfl, rfl, rfl, by decide +kernel, rfl, by decide +kernel, by decide +kernel⟩
theorem ok_queue (B : Bt mg) (G : GT K mg "QUEUE_WORDS" QW) (O_need_number : NeedNum P w K mg base) (O_join_row : Ok P w K mg base "_join_row" 1 ["words", "many", "letter"] sp_join) (OC_Kind : OkC P w K mg base "Kind" C 5 ["self", "operations"] (sp_init C)) (D : Df K mg "queue_kind" s_queue ["many"]) : Ok P w K mg base "queue_kind" 8 ["many"] (sp_made C 1 2 queueT) := by
  obtain ⟨aq, hmq, hq⟩ := G.ex
  refine D.ok sc_queue_kind (fun vs H Q E h => ?_) (fun f cdv A outer s H vs Q E hr h => ?_)
  · obtain ⟨n, rfl, _⟩ := h
    rfl
  · obtain ⟨n, rfl, h1, h2, q⟩ := h
    have hT := queue_ok n (by omega) h1
    have hcut := q_cut n (by omega) h1
    have hql := q_len n (by omega)
    refine ⟨_, pss_cons (ps_expr (O_need_number.call hr (ha := pa_cons (pv 0) (pa_cons (pe_int) (pa_cons (pe_int) (pa_nil))))))
      (pss_cons (ps_set (i := 1) sc_queue_kind.nd rfl (.inr rfl) (pe_lc (own := [("word", 3)]) (g := gName 3) (tt := _) rfl sc_queue_kind.nd (pi_tup (pe_glob (v := .ref aq) (by rfl) hmq rfl)) (blkOk_by (own := [("word", 3)]) (N := ["many", "words", "leave", "word"]) (sc := defScope s_queue) (by decide +kernel)) (fun _ _ _ _ _ => pg_name (i := 3) sc_queue_kind.nd rfl (.inl rfl)) (fun _ _ _ _ _ => pts_one (pt_cmpR op_le (pe_callB call_len_str (by rfl) B.len (by decide +kernel) (pa_cons (pv 3) (pa_nil))) (pv 0) (nomark _))) (fun _ _ _ _ _ => pv 3)))
      (pss_cons (ps_set (i := 2) sc_queue_kind.nd rfl (.inl rfl) (pe_callTy (tupleK (K := K)) (by rfl) B.tuple (by decide +kernel) (pa_cons (pe_lc (own := [("word", 3)]) (g := gName 3) (tt := tYes) rfl sc_queue_kind.nd (pi_list (pv 1)) (blkOk_by (own := [("word", 3)]) (N := ["many", "words", "leave", "word"]) (sc := defScope s_queue) (by decide +kernel)) (fun _ _ _ _ _ => pg_name (i := 3) sc_queue_kind.nd rfl (.inl rfl)) (fun _ _ _ _ _ => pts_nil) (fun _ _ _ _ _ => pe_tup (pa_cons (pe_bmK (K := K) PySem.F.plainAttrs_list PySem.F.slot_list_index PySem.F.type_list_index (indexFK (K := K)) (pv 1) (pa_cons (pe_slice sl_str (pv 3) (po_some (pe_int)) (po_none)) (pa_nil))) (pa_cons (pe_bmK (K := K) PySem.F.plainAttrs_list PySem.F.slot_list_index PySem.F.type_list_index (indexFK (K := K)) (pv 1) (pa_cons (pe_slice sl_str (pv 3) (po_none) (po_some (pe_int))) (pa_nil))) (pa_nil))))) (pa_nil))))
      (pss_one (ps_ret (OC_Kind.make hr (ha := pa_cons (pe_disp (pps_cons (pe_str) (O_join_row.call hr (ha := pa_cons (pv 1) (pa_cons (pv 0) (pa_cons (pe_str) (pa_nil))))) (pps_cons (pe_str) (O_join_row.call hr (ha := pa_cons (pv 1) (pa_cons (pv 0) (pa_cons (pe_str) (pa_nil))))) (pps_cons (pe_str) (pv 2) (pps_nil)))) (by rfl) (by rfl) (fun z => by cases z) (by decide)) (pa_nil))))))), ?_⟩
    refine ⟨_, rfl, n, 1, 2, rfl, by omega, by omega, ?_⟩
    dsimp only [tSeq, tAsg]
    refine lc_runT (K := K) (xs := QW.map V.str) (ev_c ⟨aq, rfl, hq _⟩) QW (List.length_map ..) (fun w => decide (w.length ≤ n)) (fun w v _ => v = V.str w) (by decide) (by intro _; rfl) (fun _ _ _ _ _ h => h)
      (fun i w v H1 hi hx e => ?_) (fun p H1 ys hp e hls hP => ?_)
    · rw [List.getElem?_map, hi] at hx
      have ex : V.str w = v := Option.some.inj hx
      subst ex
      have hw2 := q_short w (List.mem_of_getElem? hi)
      refine ⟨fun Q q => ?_, fun _ H3 e3 => ev_is rfl rfl⟩
      refine ⟨_, rfl, w, rfl, sz_le (by omega), _, rfl, _, _, rfl, rfl, _, rfl, ?_⟩
      have ed : decide ((w.length : Int) ≤ (n : Int)) = decide (w.length ≤ n) := decide_eq_decide.mpr (by omega)
      have q2 := q H1 (Same.refl _)
      rw [← ed] at q2
      exact q2
    · have ey := strs_eq hP
      have hls : H1 p = some (.lst ((qwords n).map V.str)) := by rw [hls, ey]; rfl
      dsimp only [gName]
      refine asg_row (f := fun w : Str => (((idxS (qwords n) (cutS w (some 1) none) : Nat) : Int), ((idxS (qwords n) (cutS w none (some 1)) : Nat) : Int))) (zs := qwords n) ?_ fun v H2 e2 hv => ?_
      · intro Q q
        refine lc_runL (K := K) (xs := (qwords n).map V.str) (ev_is rfl ⟨p, rfl, SqL.of hls⟩) (qwords n) (List.length_map ..) (fun _ => true) (fun w v H => PairV H v (((idxS (qwords n) (cutS w (some 1) none) : Nat) : Int), ((idxS (qwords n) (cutS w none (some 1)) : Nat) : Int))) (by omega) (by intro _; rfl) (fun _ _ _ _ e h => h.mono e)
          (fun i w v H2 hi hx e2 => ⟨evt_yes, fun _ H3 e3 => ?_⟩) (fun p2 H2 ys2 hp2 e2 hl2 hP2 => ?_)
        · rw [List.getElem?_map, hi] at hx
          have ex : V.str w = v := Option.some.inj hx
          subst ex
          obtain ⟨c1, c2, c3⟩ := hcut w (List.mem_of_getElem? hi)
          refine ev_pair ?_ fun H4 e4 => ?_
          · exact ev_index (ws := qwords n) rfl ((e2.trans e3) _ _ hls) c1 (fun Q q => ⟨_, rfl, _, rfl, w, rfl, sz_le (by omega), q _ _ (Same.refl _) rfl⟩)
          · exact ev_index (ws := qwords n) rfl ((e2.trans (e3.trans e4)) _ _ hls) c2 (fun Q q => ⟨_, rfl, _, rfl, w, rfl, sz_le (by omega), q _ _ (Same.refl _) rfl⟩)
        · rw [filter_all] at hP2
          exact q _ _ e2 ⟨p2, ys2, rfl, hl2, hP2⟩
      · have hrow : RowV H2 v (leaveR n) := hv
        intro d hd
        have hp2 : H2 p = some (.lst ((qwords n).map V.str)) := e2 _ _ hls
        refine ⟨_, rfl, _, rfl, p, n, "a", rfl, (same_new hd) _ _ hp2, h1, h2, by decide +kernel, fun u1 H3 e3 r1 => ?_⟩
        refine ⟨_, rfl, _, rfl, p, n, "b", rfl, e3 _ _ ((same_new hd) _ _ hp2), h1, h2, by decide +kernel, fun u2 H4 e4 r2 => ?_⟩
        have e24 : Same H2 H4 := (same_new hd).trans (e3.trans e4)
        have hd4 : H4 d = some (.dK []) := e4 _ _ (e3 _ _ upd_same)
        refine ⟨_, rfl, hd4, [(Sum.inr "joina", u1), (Sum.inr "joinb", u2), (Sum.inr "leave", v)], rfl, by show 3 ≤ 15; decide, ?_⟩
        have hm : mergeK [] [((Sum.inr ("joina" : Str) : L2.Key), u1), (Sum.inr ("joinb" : Str), u2), (Sum.inr ("leave" : Str), v)] = [(Sum.inr ("joina" : Str), u1), (Sum.inr ("joinb" : Str), u2), (Sum.inr ("leave" : Str), v)] := by
          have n1 : ¬ ((Sum.inr ("joina" : Str) : L2.Key) = Sum.inr ("joinb" : Str)) := by decide +kernel
          have n2 : ¬ ((Sum.inr ("joina" : Str) : L2.Key) = Sum.inr ("leave" : Str)) := by decide +kernel
          have n3 : ¬ ((Sum.inr ("joinb" : Str) : L2.Key) = Sum.inr ("leave" : Str)) := by decide +kernel
          simp [mergeK, putK, n1, n2, n3]
        rw [hm]
        have eH : Same H (upd H4 d (.dK [(Sum.inr ("joina" : Str), u1), (Sum.inr ("joinb" : Str), u2), (Sum.inr ("leave" : Str), v)])) := same_mut (e.trans (e2.trans e24)) (e.free (e2.free hd))
        have tu : TupS H4 (upd H4 d (.dK [(Sum.inr ("joina" : Str), u1), (Sum.inr ("joinb" : Str), u2), (Sum.inr ("leave" : Str), v)])) := tups_upd hd4 (fun xs z => by cases z)
        exact mk_kind (t := queueT n) upd_same (.cons ⟨rfl, r1.mono ((tups_of e4).trans tu)⟩ (.cons ⟨rfl, r2.mono tu⟩ (.cons ⟨rfl, hrow.mono ((tups_of e24).trans tu)⟩ .nil))) hT.1 hT.2
          fun v H' t' e' hk pm => q v H' t' (eH.trans e') hk pm
end
end Tm
namespace Tm
open PySem PySem.Spec PyProof.Rows L2
local macro_rules | `(tactic| walk_at "x") => `(tactic| dsimp only [tNext, tRet, tSeq, tCall, tCB, tC, tCons, tNil, tAsg, tDrop, sFld])
/-! ### the vat of drawn numbers: a list of three whole numbers -/
def VatV (H : Hp) (l : Addr) : Prop := ∃ a b c : Int, H l = some (.lst [.int a, .int b, .int c])
/-- all but l stays, l is a vat again -/
def KL (l : Addr) (H H' : Hp) : Prop := (∀ b o, H b = some o → b ≠ l → H' b = some o) ∧ VatV H' l
theorem KL.trans {l : Addr} {H H1 H2 : Hp} (a : KL l H H1) (b : KL l H1 H2) : KL l H H2 := ⟨fun c o h n => b.1 c o (a.1 c o h n) n, b.2⟩
theorem KL.of {l : Addr} {H H' : Hp} (v : VatV H l) (e : Same H H') : KL l H H' := ⟨fun b o h _ => e b o h, by obtain ⟨a, b, c, h⟩ := v; exact ⟨a, b, c, e _ _ h⟩⟩
theorem KL.set {l : Addr} {H : Hp} (a b c : Int) : KL l H (upd H l (.lst [.int a, .int b, .int c])) := ⟨fun d o h n => by rw [upd_ne n]; exact h, a, b, c, upd_same⟩
theorem KL.tups {l : Addr} {H H' : Hp} (v : VatV H l) (k : KL l H H') : TupS H H' := fun a xs h => k.1 a _ h fun z => by
  obtain ⟨p, q, r, e⟩ := v
  rw [z, e] at h
  cases h
theorem opP {X : Cx} : OpR X (binaryOp .Pow) (rI (fun i j => 0 ≤ j ∧ (Builtin.Int.intBits i : Int) * j ≤ 2 ^ 27) fun i j => .int (i ^ j.toNat)) := opI fun _ _ _ _ _ _ _ hc q => pow_int hc.1 hc.2 q
section
variable {P : Program} {w : World} {K : PySem.W.Frag} {mg : Str → Option Value} {base : Heap} {C : Addr}
abbrev s_vat : Stmt := top 35
theorem sc_law_vat : FnScope ["_law_script", "_law_at", "_law_cell", "_law_great", "_law_seed"] ["_law_script", "_law_at"] (defScope s_vat) := ⟨rfl, rfl, rfl, by decide +kernel, rfl, by decide +kernel, by decide +kernel⟩
def sp_vat (K : PySem.W.Frag) : Sp := fun vs H Q _ => ∃ (a : Addr) (xs : List Int) (i : Nat), vs = [.ref a, .int (i : Int)] ∧ SqL K H a (xs.map V.int) ∧ i ≤ 1000 ∧ ∀ l p q r, H l = none → Q (.ref l) (upd H l (.lst [.int p, .int q, .int r]))
theorem ok_vat (B : Bt mg) (D : Df K mg "_law_vat" s_vat ["_law_script", "_law_at"]) : Ok P w K mg base "_law_vat" 1 ["_law_script", "_law_at"] (sp_vat K) := by
  refine D.ok sc_law_vat (fun vs H Q E h => ?_) (fun f cdv A outer s H vs Q E hr h => ?_)
  · obtain ⟨a, xs, i, rfl, _⟩ := h
    rfl
  · obtain ⟨a, xs, i, rfl, hs, hi, q⟩ := h
    refine ⟨_, pss_cons (ps_set (i := 2) sc_law_vat.nd rfl (.inl rfl) (pe_ifExp (pt_cmpR op_lt (pv 1) (pe_callB (lenK (K := K)) (by rfl) B.len (by decide +kernel) (pa_cons (pv 0) (pa_nil))) (nomark _)) (pe_ix (ixLK (K := K)) (pv 0) (pv 1) (fun _ _ => rfl)) (pe_op op_add (pe_op op_mul (pe_int) (pv 1)) (pe_int))))
      (pss_cons (ps_set (i := 3) sc_law_vat.nd rfl (.inl rfl) (pe_op op_mod (pe_callTy call_int1 (by rfl) B.int (by decide +kernel) (pa_cons (pe_callB call_abs (by rfl) B.abs (by decide +kernel) (pa_cons (pv 2) (pa_nil))) (pa_nil))) (pe_op opP (pe_op opP (pe_int) (pe_int)) (pe_int))))
      (pss_cons (ps_set (i := 4) sc_law_vat.nd rfl (.inl rfl) (pe_op op_mod (pe_callTy call_int1 (by rfl) B.int (by decide +kernel) (pa_cons (pe_op op_add (pe_op op_add (pe_op op_add (pv 3) (pe_op op_mul (pe_int) (pv 1))) (pe_op op_mul (pe_int) (pe_callTy call_int1 (by rfl) B.int (by decide +kernel) (pa_cons (pe_cmpR op_lt (pv 2) (pe_int) (nomark _)) (pa_nil))))) (pe_int)) (pa_nil))) (pe_op op_add (pe_op opP (pe_int) (pe_int)) (pe_int))))
      (pss_one (ps_ret (pe_lst (pa_cons (pe_ifExp (pt_cmpR op_gt (pv 3) (pe_op opP (pe_int) (pe_int)) (nomark _)) (pe_op op_sub (pv 3) (pe_op opP (pe_int) (pe_int))) (pe_int)) (pa_cons (pv 4) (pa_cons (pe_int) (pa_nil))))))))), ?_⟩
    refine Ev.go (te := tIf _ _ _) (P := fun v H1 => ∃ c : Int, v = .int c ∧ H1 = H) (fun Q q => ?_) fun v H1 _ hv => ?_
    · refine ⟨_, rfl, _, rfl, a, _, rfl, .inl hs, _, _, rfl, rfl, _, rfl, ite2 (fun h1 => ?_) (fun h1 => ?_)⟩
      · have h2 : (i : Int) < ((xs.map V.int).length : Int) := of_decide_eq_true h1
        rw [List.length_map] at h2
        have hlt : i < xs.length := by omega
        refine ⟨_, rfl, _, rfl, a, _, _, .int xs[i], rfl, rfl, hs, atI_nat (by rw [List.getElem?_map, List.getElem?_eq_getElem hlt]; rfl), q _ H (Same.refl H) ⟨_, rfl, rfl⟩⟩
      · exact ⟨_, rfl, _, _, rfl, rfl, .inl ⟨by decide, by decide⟩, _, _, rfl, rfl, q _ H (Same.refl H) ⟨_, rfl, rfl⟩⟩
    · obtain ⟨c, rfl, rfl⟩ := hv
      have big : (0 : Int) < (10 ^ (60 : Int).toNat) ^ (8 : Int).toNat := Int.pow_pos (Int.pow_pos (by decide))
      have big2 : (0 : Int) < 10 ^ (18 : Int).toNat + 9 := by decide
      refine ⟨_, rfl, c, rfl, .inl ⟨_, rfl, ?_⟩⟩
      refine ⟨_, _, rfl, rfl, by decide +kernel, _, _, rfl, rfl, by decide +kernel, _, _, rfl, rfl, big, ?_⟩
      generalize (if c < 0 then -c else c) % ((10 : Int) ^ (60 : Int).toNat) ^ (8 : Int).toNat = g
      refine ⟨_, rfl, _, rfl, _, _, rfl, rfl, .inl ⟨by decide, by decide⟩, _, _, rfl, rfl, _, rfl, _, _, rfl, rfl, ?_⟩
      refine .inr ⟨_, rfl, _, _, rfl, rfl, .inl ⟨by decide, by decide⟩, _, _, rfl, rfl, _, _, rfl, rfl, .inl ⟨_, rfl, ?_⟩⟩
      refine ⟨_, _, rfl, rfl, by decide +kernel, _, _, rfl, rfl, _, _, rfl, rfl, big2, ?_⟩
      refine ⟨_, rfl, _, _, rfl, rfl, by decide +kernel, _, _, rfl, rfl, _, rfl, ite2 (fun _ => ?_) (fun _ => ?_)⟩
      · exact ⟨_, rfl, _, _, rfl, rfl, by decide +kernel, _, _, rfl, rfl, _, rfl, by show 3 ≤ sizeLine; decide, fun l hl => q l _ _ _ hl⟩
      · exact ⟨_, rfl, by show 3 ≤ sizeLine; decide, fun l hl => q l _ _ _ hl⟩
abbrev s_draw : Stmt := top 36
theorem sc_law_draw : FnScope ["_law_vat_here", "_law_total", "_law_one", "_law_two", "_law_three", "_law_found"] ["_law_vat_here", "_law_total"] (defScope s_draw) := ⟨rfl, rfl, rfl, by decide +kernel, rfl, by decide +kernel, by decide +kernel⟩
def sp_draw : Sp := fun vs H Q _ => ∃ (l : Addr) (t : Int), vs = [.ref l, .int t] ∧ VatV H l ∧ 0 < t ∧ t < 1073741824 ∧ ∀ (d : Int) H', 0 ≤ d → d < t → KL l H H' → Q (.int d) H'
theorem ok_draw (B : Bt mg) (D : Df K mg "_law_draw" s_draw ["_law_vat_here", "_law_total"]) : Ok P w K mg base "_law_draw" 1 ["_law_vat_here", "_law_total"] sp_draw := by
  refine D.ok sc_law_draw (fun vs H Q E h => ?_) (fun f cdv A outer s H vs Q E hr h => ?_)
  · obtain ⟨l, t, rfl, _⟩ := h
    rfl
  · obtain ⟨l, t, rfl, ⟨a, b, c, hl⟩, t0, t1, q⟩ := h
    refine ⟨_, pss_cons (ps_if (pt_cmpR op_gt (pe_ix (ixLK (K := K)) (pv 0) (pe_int) (fun _ _ => rfl)) (pe_int) (nomark _))
        (pss_cons (ps_set (i := 5) sc_law_draw.nd rfl (.inl rfl) (pe_op op_mod (pe_callTy call_int1 (by rfl) B.int (by decide +kernel) (pa_cons (pe_ix (ixLK (K := K)) (pv 0) (pe_int) (fun _ _ => rfl)) (pa_nil))) (pv 1)))
      (pss_cons (ps_asg (pe_op op_fdiv (pe_ix (ixLK (K := K)) (pv 0) (pe_int) (fun _ _ => rfl)) (pv 1)) (pg_sub (pv 0) (pe_int) set_list))
      (pss_one (ps_ret (pv 5)))))
        (pss_nil))
      (pss_cons (ps_asg (pe_op op_add (pe_ix (ixLK (K := K)) (pv 0) (pe_int) (fun _ _ => rfl)) (pe_int)) (pg_sub (pv 0) (pe_int) set_list))
      (pss_cons (ps_set (i := 2) sc_law_draw.nd rfl (.inl rfl) (pe_op op_mod (pe_callTy call_int1 (by rfl) B.int (by decide +kernel) (pa_cons (pe_op op_add (pe_ix (ixLK (K := K)) (pv 0) (pe_int) (fun _ _ => rfl)) (pe_op op_mul (pe_int) (pe_ix (ixLK (K := K)) (pv 0) (pe_int) (fun _ _ => rfl)))) (pa_nil))) (pe_int)))
      (pss_cons (ps_set (i := 3) sc_law_draw.nd rfl (.inl rfl) (pe_op op_mod (pe_callTy call_int1 (by rfl) B.int (by decide +kernel) (pa_cons (pe_op op_add (pe_op op_add (pe_op op_mul (pv 2) (pv 2)) (pe_op op_fdiv (pe_ix (ixLK (K := K)) (pv 0) (pe_int) (fun _ _ => rfl)) (pe_int))) (pe_op op_mul (pe_int) (pe_ix (ixLK (K := K)) (pv 0) (pe_int) (fun _ _ => rfl)))) (pa_nil))) (pe_int)))
      (pss_cons (ps_set (i := 4) sc_law_draw.nd rfl (.inl rfl) (pe_op op_mod (pe_callTy call_int1 (by rfl) B.int (by decide +kernel) (pa_cons (pe_op op_add (pe_op op_mul (pv 3) (pv 3)) (pv 2)) (pa_nil))) (pe_int)))
      (pss_one (ps_ret (pe_op op_mod (pe_callTy call_int1 (by rfl) B.int (by decide +kernel) (pa_cons (pe_op op_fdiv (pv 4) (pe_int)) (pa_nil))) (pv 1)))))))), ?_⟩
    have sq : ∀ {x y z : Int} {H' : Hp}, H' l = some (.lst [.int x, .int y, .int z]) → SqL K H' l [.int x, .int y, .int z] := fun h => SqL.of h
    have md : ∀ (u m : Int), 0 < m → m < 4294967296 → CMul (u % m) (u % m) := fun u m h0 h1 => by
      have e1 := Int.emod_nonneg u (show m ≠ 0 by omega)
      have e2 := Int.emod_lt_of_pos u h0
      exact .inl ⟨by omega, by omega⟩
    refine ⟨_, rfl, l, _, _, _, rfl, rfl, sq hl, rfl, _, _, rfl, rfl, _, rfl, ite2 (fun _ => ?_) (fun _ => ?_)⟩
    · refine ⟨_, rfl, l, _, _, _, rfl, rfl, sq hl, rfl, .inl ⟨_, rfl, _, rfl, _, _, rfl, rfl, t0, ?_⟩⟩
      refine ⟨_, rfl, l, _, _, _, rfl, rfl, sq hl, rfl, _, rfl, _, _, rfl, rfl, ⟨t0, t1⟩, ?_⟩
      refine ⟨_, rfl, l, _, _, _, rfl, rfl, hl, rfl, ?_⟩
      exact ⟨_, rfl, q _ _ (Int.emod_nonneg _ (by omega)) (Int.emod_lt_of_pos _ t0) (KL.set _ _ _)⟩
    · refine ⟨_, rfl, l, _, _, _, rfl, rfl, sq hl, rfl, _, _, rfl, rfl, ?_⟩
      refine ⟨_, rfl, l, _, _, _, rfl, rfl, hl, rfl, ?_⟩
      have hl2 : upd H l (.lst [.int a, .int b, .int (c + 1)]) l = some (.lst [.int a, .int b, .int (c + 1)]) := upd_same
      have k2 : KL l H (upd H l (.lst [.int a, .int b, .int (c + 1)])) := KL.set _ _ _
      refine ⟨_, rfl, l, _, _, _, rfl, rfl, sq hl2, rfl, _, rfl, l, _, _, _, rfl, rfl, sq hl2, rfl, _, _, rfl, rfl, .inl ⟨by decide, by decide⟩, _, _, rfl, rfl, .inl ⟨_, rfl, _, _, rfl, rfl, by show (0 : Int) < _; decide, ?_⟩⟩
      refine ⟨_, rfl, _, rfl, _, _, rfl, rfl, md _ _ (by decide) (by decide), ?_⟩
      refine ⟨_, rfl, l, _, _, _, rfl, rfl, sq hl2, rfl, _, _, rfl, rfl, ⟨by decide, by decide⟩, _, _, rfl, rfl, ?_⟩
      refine ⟨_, rfl, l, _, _, _, rfl, rfl, sq hl2, rfl, _, _, rfl, rfl, .inl ⟨by decide, by decide⟩, _, _, rfl, rfl, .inl ⟨_, rfl, _, _, rfl, rfl, by show (0 : Int) < _; decide, ?_⟩⟩
      refine ⟨_, rfl, _, rfl, _, _, rfl, rfl, md _ _ (by decide) (by decide), _, rfl, _, _, rfl, rfl, .inl ⟨_, rfl, _, _, rfl, rfl, by show (0 : Int) < _; decide, ?_⟩⟩
      exact ⟨_, rfl, _, _, rfl, rfl, ⟨by decide, by decide⟩, .inl ⟨_, rfl, _, rfl, _, _, rfl, rfl, t0, q _ _ (Int.emod_nonneg _ (by omega)) (Int.emod_lt_of_pos _ t0) k2⟩⟩
abbrev s_choice : Stmt := top 38
theorem sc_law_choice : FnScope ["_law_vat_here", "_law_items"] ["_law_vat_here", "_law_items"] (defScope s_choice) := ⟨rfl, rfl, rfl, by decide +kernel, rfl, by decide +kernel, by decide +kernel⟩
def sp_choice : Sp := fun vs H Q _ => ∃ (l a : Addr) (xs : List V), vs = [.ref l, .ref a] ∧ VatV H l ∧ H a = some (.tup xs) ∧ 0 < xs.length ∧ xs.length ≤ 1000 ∧ ∀ v H', v ∈ xs → KL l H H' → Q v H'
theorem ok_choice (B : Bt mg) (O_law_draw : Ok P w K mg base "_law_draw" 1 ["_law_vat_here", "_law_total"] sp_draw) (D : Df K mg "_law_choice" s_choice ["_law_vat_here", "_law_items"]) : Ok P w K mg base "_law_choice" 2 ["_law_vat_here", "_law_items"] sp_choice := by
  refine D.ok sc_law_choice (fun vs H Q E h => ?_) (fun f cdv A outer s H vs Q E hr h => ?_)
  · obtain ⟨l, a, xs, rfl, _⟩ := h
    rfl
  · obtain ⟨l, a, xs, rfl, hv, ha, h0, h1, q⟩ := h
    refine ⟨_, pss_one (ps_ret (pe_ix (ixTK (K := K)) (pv 1) (O_law_draw.call hr (ha := pa_cons (pv 0) (pa_cons (pe_callB (lenK (K := K)) (by rfl) B.len (by decide +kernel) (pa_cons (pv 1) (pa_nil))) (pa_nil)))) (fun _ _ => rfl))), ?_⟩
    refine ⟨_, rfl, _, rfl, _, rfl, a, xs, rfl, .inr (SqT.of ha), l, _, rfl, hv, by omega, by omega, fun d H' d0 d1 k => ?_⟩
    obtain ⟨j, rfl⟩ := Int.eq_ofNat_of_zero_le d0
    have hj : j < xs.length := by omega
    have he : xs[j]? = some xs[j] := List.getElem?_eq_getElem hj
    exact ⟨a, xs, _, xs[j], rfl, rfl, SqT.of (KL.tups hv k _ _ ha), atI_nat he, q _ H' (List.getElem_mem hj) k⟩
theorem KindV.kl {l : Addr} {H H' : Hp} {v : V} {t : Tab} (va : VatV H l) (k : KL l H H') (h : KindV C H v t) : KindV C H' v t := by
  obtain ⟨a, dx, d, kvs, e1, e2, e3, e4, e5⟩ := h
  obtain ⟨p, q, r, e⟩ := va
  refine ⟨a, dx, d, kvs, e1, k.1 _ _ e2 (fun z => ?_), k.1 _ _ e3 (fun z => ?_), e4.mono (KL.tups ⟨p, q, r, e⟩ k), e5⟩
  · rw [z, e] at e2
    cases e2
  · rw [z, e] at e3
    cases e3
abbrev s_lrow : Stmt := top 39
theorem sc_law_row : FnScope ["_law_vat_here", "_law_kind", "_law_most", "_law_turn"] ["_law_vat_here", "_law_kind", "_law_most"] (defScope s_lrow) := ⟨rfl, rfl, rfl, by decide +kernel, rfl, by decide +kernel, by decide +kernel⟩
def sp_lrow (C : Addr) : Sp := fun vs H Q _ => ∃ (l : Addr) (v : V) (t : Tab) (m : Int), vs = [.ref l, v, .int m] ∧ VatV H l ∧ KindV C H v t ∧ 0 ≤ m ∧ m ≤ 100 ∧
  ∀ p H' (ws : List Str), H p = none → KL l H H' → H' p = some (.lst (ws.map V.str)) → (∀ x ∈ ws, x ∈ namesT t) → ws.length ≤ 100 → Q (.ref p) H'
theorem ok_lrow (B : Bt mg) (T : Kc K C) (O_law_draw : Ok P w K mg base "_law_draw" 1 ["_law_vat_here", "_law_total"] sp_draw) (O_law_choice : Ok P w K mg base "_law_choice" 2 ["_law_vat_here", "_law_items"] sp_choice) (OP_names : OkP P w K mg base C "names" 1 (sp_names C))
    (D : Df K mg "_law_row" s_lrow ["_law_vat_here", "_law_kind", "_law_most"]) : Ok P w K mg base "_law_row" 4 ["_law_vat_here", "_law_kind", "_law_most"] (sp_lrow C) := by
  refine D.ok sc_law_row (fun vs H Q E h => ?_) (fun f cdv A outer s H vs Q E hr h => ?_)
  · obtain ⟨l, v, t, m, rfl, _⟩ := h
    rfl
  · obtain ⟨l, v, t, m, rfl, hv, hk, h0, h1, q⟩ := h
    refine ⟨_, pss_one (ps_ret (pe_lc (own := [("_law_turn", 3)]) (g := gName 3) (tt := tYes) rfl sc_law_row.nd (pi_range1 (by rfl) B.range (pa_cons (O_law_draw.call hr (ha := pa_cons (pv 0) (pa_cons (pe_op op_add (pv 2) (pe_int)) (pa_nil)))) (pa_nil))) (blkOk_by (own := [("_law_turn", 3)]) (N := ["_law_vat_here", "_law_kind", "_law_most", "_law_turn"]) (sc := defScope s_lrow) (by decide +kernel)) (fun _ _ _ _ _ => pg_name (i := 3) sc_law_row.nd rfl (.inl rfl)) (fun _ _ _ _ _ => pts_nil) (fun _ _ _ _ _ => O_law_choice.call hr (ha := pa_cons (pv 0) (pa_cons (OP_names.get hr T.cl (he := pv 1)) (pa_nil)))))), ?_⟩
    refine ⟨_, rfl, _, rfl, _, _, rfl, rfl, l, _, rfl, hv, by omega, by omega, fun d H1 d0 d1 k1 => ?_⟩
    refine ⟨d, rfl, by omega, by omega, fun D hD => ?_⟩
    have hk1 := hk.kl hv k1
    have hD0 : H D = none := by
      cases e : H D with
      | none => rfl
      | some o =>
        by_cases z : D = l
        · obtain ⟨_, _, _, e2⟩ := k1.2
          rw [z, e2] at hD
          cases hD
        · rw [k1.1 _ _ e z] at hD
          cases hD
    have nl : D ≠ l := fun z => by
      obtain ⟨_, _, _, e⟩ := k1.2
      rw [z, e] at hD
      cases hD
    refine lc_range (lo := 0) (Pv := fun i H2 => (∀ b o, H1 b = some o → b ≠ l → H2 b = some o) ∧ VatV H2 l ∧ ∃ ws : List Str, H2 D = some (.lst (ws.map V.str)) ∧ (∀ x ∈ ws, x ∈ namesT t) ∧ ws.length = i) ⟨fun b o e _ => same_new hD b o e, ?_, [], upd_same, by simp, rfl⟩ (fun i H2 hi p => ?_) (fun H2 p => ?_)
    · obtain ⟨x, y, z, e⟩ := k1.2
      exact ⟨x, y, z, by rw [upd_ne nl.symm]; exact e⟩
    · obtain ⟨p1, p2, ws, p3, p4, p5⟩ := p
      refine ⟨rfl, ?_⟩
      dsimp only [tYes]
      rw [if_pos rfl]
      have hk2 : KindV C H2 v t := hk1.kl k1.2 ⟨p1, p2⟩
      obtain ⟨a, dx, dd, kvs, rfl, ha, hd, ht, hok, nd, hst⟩ := id hk2
      have hlen : 1 ≤ (namesT t).length ∧ (namesT t).length ≤ 6 := by
        have := hok
        unfold okTab at this
        simp only [Bool.and_eq_true, decide_eq_true_eq] at this
        unfold namesT
        rw [List.length_map]
        exact ⟨this.1.1.1.1, this.1.1.1.2⟩
      have nlD : ∀ H3 : Hp, H3 l = H2 l → VatV H3 l := fun H3 e => by
        obtain ⟨x, y, z, e2⟩ := p2
        exact ⟨x, y, z, e.trans e2⟩
      refine ⟨_, rfl, _, rfl, a, dx, _, rfl, ha, _, t, rfl, hk2, fun p hp => ?_⟩
      have npl : p ≠ l := fun z => by
        obtain ⟨_, _, _, e⟩ := p2
        rw [z, e] at hp
        cases hp
      have npD : p ≠ D := fun z => by
        rw [z, p3] at hp
        cases hp
      refine ⟨l, p, _, rfl, nlD _ (upd_ne npl.symm), upd_same, by rw [List.length_map]; omega, by rw [List.length_map]; omega, fun x H4 hx k4 => ?_⟩
      obtain ⟨y, hy, rfl⟩ := List.mem_map.mp hx
      have hD4 : H4 D = some (.lst (ws.map V.str)) := k4.1 _ _ (by rw [upd_ne npD.symm]; exact p3) nl
      refine ⟨_, hD4, by rw [List.length_map]; exact sz_lt (by omega), fun b o hb hbl => ?_, ?_, ws ++ [y], by rw [upd_same, List.map_append]; rfl, fun z hz => ?_, by rw [List.length_append, p5]; rfl⟩
      · have nbD : b ≠ D := fun z => by
          rw [z, hD] at hb
          cases hb
        have e2 := p1 b o hb hbl
        rw [upd_ne nbD]
        exact k4.1 _ _ (by rw [upd_ne (fun z => by rw [z, hp] at e2; cases e2)]; exact e2) hbl
      · obtain ⟨x1, y1, z1, e2⟩ := k4.2
        exact ⟨x1, y1, z1, by rw [upd_ne nl.symm]; exact e2⟩
      · rcases List.mem_append.mp hz with z1 | z1
        · exact p4 z z1
        · rw [List.mem_singleton.mp z1]
          exact hy
    · obtain ⟨p1, p2, ws, p3, p4, p5⟩ := p
      exact q D H2 ws hD0 (k1.trans ⟨p1, p2⟩) p3 p4 (by omega)
end
end Tm
/-! A lambda with parameters, closed (nothing captured), handed to a def that calls it. -/
namespace TmL
open PySem PySem.Spec PyProof.Rows L2 LamX NdefX
structure LamF where
  qual : Str
  params : Arguments
  body : Expr
  scope : Scope
def LamF.nf (F : LamF) (c : Addr) : NF := ⟨"<lambda>", F.qual, F.params, [], F.scope, [], c⟩
abbrev LamF.obj (F : LamF) (pm : Value) (c : Addr) (ctv : Value) : Obj := PySem.W.kla_obj "<lambda>" F.qual F.params F.body F.scope [] pm c ctv
def LamO (f c : Addr) (F : LamF) : HO := .ext fun h => ∃ pm ctv : Value, h.get? f = some (F.obj pm c ctv)
def LamAt (H : Hp) (f : Addr) (F : LamF) : Prop := ∃ c, H f = some (LamO f c F) ∧ H c = some (CodeO c F.qual)
theorem lamO_ne {f c : Addr} {F : LamF} (ps : Array Value) : LamO f c F ≠ .tbl ps := fun z => by
  unfold LamO at z
  cases z
theorem lamO_nl {f c : Addr} {F : LamF} (xs : List V) : LamO f c F ≠ .lst xs := fun z => by
  unfold LamO at z
  cases z
theorem codeO_nl {c : Addr} {q : Str} (xs : List V) : CodeO c q ≠ .lst xs := fun z => by
  unfold CodeO at z
  cases z
theorem LamAt.obj {P : Program} {w : World} {H : Hp} {h : Heap} {f : Addr} {F : LamF} (hok : HOk P w H h) (a : LamAt H f F) : ∃ (c : Addr) (pm ctv : Value), h.get? f = some (F.obj pm c ctv) ∧ h.CodeRec (.ref c) F.qual := by
  obtain ⟨c, a1, a2⟩ := a
  obtain ⟨⟨pm, ctv, z⟩, _, _⟩ := hok f _ a1
  exact ⟨c, pm, ctv, z, codeO_at hok a2⟩
section
variable {X : Cx} {pins : List (Addr × Obj)} {σ : L2.St} {H : Hp} {s : Shared}
theorem laid_lam (F : LamF) {tk : Nat} {c : Addr} {pm ctv : Value} (I : Inv X pins σ H s) : Inv X pins σ (upd H s.heap.objs.size (LamO s.heap.objs.size c F)) { s with heap := s.heap.push (F.obj pm c ctv), toks := tk } := by
  have here : (s.heap.push (F.obj pm c ctv)).get? s.heap.objs.size = some (F.obj pm c ctv) := Heap.get?_push_size _ rfl
  exact I.laid (fun b u q => Heap.get?_push_of_some _ q) (Nat.le_refl _) (show ObjOk _ _ _ _ _ (LamO _ _ _) from ⟨⟨pm, ctv, here⟩, ⟨_, here⟩, fun _ _ ⟨a, b, z⟩ st => ⟨a, b, st _ z⟩⟩)
/-- what comes of a lambda: an object, known from now on; only tables grow -/
def tLamE (T : List (Addr × Str)) (F : LamF) : TE := fun σ H Q => Tabs T H ∧ ∀ (f : Addr) (H1 : Hp), ExtN H H1 → Tabs T H1 → H f = none → LamAt H1 f F → Q (.ref f) H1
theorem pe_lam {T : List (Addr × Str)} {c P : Addr} {params : Arguments} {body : Expr} {scope : Scope} {pos : Pos} {q : Str} (TB : TabB X.base X.mg c P) (hcode : X.env.code = .ref c) (hq : X.env.qual ++ "<lambda>" = q) (hm : (P, q) ∈ T) (hu : ∀ p ∈ T, p.1 = P → p.2 = q)
    (hdef : defaultsOf params X.env = ([], [])) (hnf : ∀ y ∈ scope.names, y.2 ≠ .free) (hcl : cloFrom X.env.cells scope.names [] = []) : PE X (.Lambda params body scope pos) (tLamE T ⟨q, params, body, scope⟩) := by
  subst hq
  refine ⟨fun pins s σ H Q I h => ?_⟩
  obtain ⟨hT, h⟩ := h
  obtain ⟨rows, atP, three, known⟩ := hT _ hm
  refine PySem.W.kla_eval hdef ?_
  have nsP : s.heap.BuiltinsAt X.mg P := TB.bm.keeps I.bk
  have obP : s.heap.get? P = some { cls := .none, data := .fields rows } := I.hok P _ atP
  have clo : closureFor scope X.env = pure [] := by
    have e := closure_ok (env := X.env) (scope := scope) fun y hy z => absurd z (hnf y hy)
    rw [hcl] at e
    exact e
  cases fd : codeAmong pos rows.toList with
  | some cv =>
    obtain ⟨c0, ec, old⟩ := known pos cv fd
    subst ec
    refine PySem.W.kla_makeFunctionHit (mg := X.mg) (c := c) (P := P) (ps := rows) clo I.ok.glob (I.mod.glob.keeps I.bk) hcode (TB.code.keeps I.bk) obP three fd nsP fun ctv g tk grow _ => ?_
    have J : Inv X pins σ H { s with heap := g, toks := tk } := I.kept grow
    have none0 : H g.objs.size = none := J.hok.fresh (Nat.le_refl _)
    have J2 := laid_lam ⟨X.env.qual ++ "<lambda>", params, body, scope⟩ (tk := tk) (c := c0) (pm := (X.mg "__name__").getD .none) (ctv := ctv) J
    have up : ∀ b o, H b = some o → upd H g.objs.size (LamO g.objs.size c0 ⟨X.env.qual ++ "<lambda>", params, body, scope⟩) b = some o := fun b o e => (upd_ne (ne_of_none e none0)).trans e
    exact ⟨.ref g.objs.size, _, J2, rfl, h _ _ (ExtN.of up) (hT.ext up) none0 ⟨c0, upd_same, up _ _ old⟩⟩
  | none =>
    refine PySem.W.kla_makeFunction (mg := X.mg) (c := c) (P := P) (ps := rows) clo I.ok.glob (I.mod.glob.keeps I.bk) hcode (TB.code.keeps I.bk) obP three fd TB.gP nsP fun c0 ctv g tk grow ge lt rec_ tab => ?_
    obtain ⟨c2, oc, vs, t, e2, g1, g2, g3⟩ := rec_
    cases e2
    have n0 : H c0 = none := I.hok.fresh ge
    have J := inv_table (t' := tk) (more := #[rawInt pos.line, rawInt pos.col, .ref c0]) (h' := g) I atP (fun b o hb e => grow b o hb e) tab ge ⟨oc, vs, t, g1, g2, g3⟩
    generalize hH1 : upd (upd H P (.tbl (rows ++ #[rawInt pos.line, rawInt pos.col, .ref c0]))) c0 (CodeO c0 (X.env.qual ++ "<lambda>")) = H1 at J
    have atC : H1 c0 = some (CodeO c0 (X.env.qual ++ "<lambda>")) := by rw [← hH1]; exact upd_same
    have atT : H1 P = some (.tbl (rows ++ #[rawInt pos.line, rawInt pos.col, .ref c0])) := by rw [← hH1, upd_ne (ne_of_none atP n0), upd_same]
    have ext : ExtN H H1 := fun b o e nt => by
      have nP : b ≠ P := fun z => nt rows (Option.some.inj (e.symm.trans (by rw [z]; exact atP)))
      rw [← hH1, upd_ne (ne_of_none e n0), upd_ne nP]
      exact e
    have tabs1 : Tabs T H1 := fun p hp => by
      by_cases z : p.1 = P
      · refine (show TabS H1 p.1 p.2 from ?_)
        rw [z, hu p hp z]
        have el : (rows ++ #[rawInt pos.line, rawInt pos.col, Value.ref c0]).toList = rows.toList ++ [rawInt pos.line, rawInt pos.col, .ref c0] := by simp
        refine ⟨_, atT, by rw [el]; exact PySem.TriplesOk_snoc _ _ _ _ three, fun p2 cv hcv => ?_⟩
        rw [el] at hcv
        cases among_app _ three hcv with
        | inl y =>
          obtain ⟨c3, y1, y2⟩ := known p2 cv y
          exact ⟨c3, y1, ext _ _ y2 codeO_ne⟩
        | inr y => exact ⟨c0, y, atC⟩
      · obtain ⟨r3, y1, y2, y3⟩ := hT p hp
        refine ⟨r3, ?_, y2, fun p2 cv hcv => ?_⟩
        · rw [← hH1, upd_ne (ne_of_none y1 n0), upd_ne z]
          exact y1
        · obtain ⟨c3, w1, w2⟩ := y3 p2 cv hcv
          exact ⟨c3, w1, ext _ _ w2 codeO_ne⟩
    have none1 : H1 g.objs.size = none := J.hok.fresh (Nat.le_refl _)
    have J2 := laid_lam ⟨X.env.qual ++ "<lambda>", params, body, scope⟩ (tk := tk) (c := c0) (pm := (X.mg "__name__").getD .none) (ctv := ctv) J
    have up : ∀ b o, H1 b = some o → upd H1 g.objs.size (LamO g.objs.size c0 ⟨X.env.qual ++ "<lambda>", params, body, scope⟩) b = some o := fun b o e => (upd_ne (ne_of_none e none1)).trans e
    exact ⟨.ref g.objs.size, _, J2, rfl, h _ _ (ext.trans (ExtN.of up)) (tabs1.ext up) (I.hok.fresh (Nat.le_trans ge (Nat.le_of_lt lt))) ⟨c0, upd_same, up _ _ atC⟩⟩
end
/-! ### what a lambda promises -/
structure LOk (P : Program) (w : World) (K : PySem.W.Frag) (mg : Str → Option Value) (base : Heap) (k : Nat) (F : LamF) (sp : Sp) : Prop where
  run : ∀ (f : Addr) (A : Around) (outer : List Env) (s : Shared) (H : Hp) (us : List Value) (vs : List V) (Q : VK) (E : XK), Room k A → Env0 P w K mg base A outer s H → LamAt H f F → Vals vs us → sp vs H Q E →
    codeAny (model P w) A (.call (.ref f) ⟨us, []⟩) (CR CX0 outer P w H s Q E) s
theorem LOk.mono {P : Program} {w : World} {K : PySem.W.Frag} {mg : Str → Option Value} {base : Heap} {j k : Nat} {F : LamF} {sp : Sp} (o : LOk P w K mg base j F sp) (h : j ≤ k) : LOk P w K mg base k F sp := ⟨fun f A outer s H us vs Q E hr => o.run f A outer s H us vs Q E (hr.mono h)⟩
theorem lok_of {P : Program} {w : World} {K : PySem.W.Frag} {mg : Str → Option Value} {base : Heap} {k : Nat} {F : LamF} {N ps : List Str} {sp : Sp} (S : NScope N ps [] F.scope)
    (hb : ∀ (c : Addr) (pm ctv : Value) (us : List Value), us.length = ps.length → bindArgs (PySem.W.kla_fn "<lambda>" F.qual F.params F.body F.scope [] pm (.ref c) ctv) ⟨us, []⟩ = pure (ps.zip us)) (len : ∀ vs H Q E, sp vs H Q E → vs.length = ps.length)
    (hbody : ∀ (f c : Addr) (A : Around) (outer : List Env) (s : Shared) (H : Hp) (vs : List V) (Q : VK) (E : XK), Room k (A.deeper (envF (F.nf c) f s.heap.objs.size)) → sp vs H Q E →
      ∃ t, PE (ncx CX0 P w K mg base N (F.nf c) f A outer s H E) F.body t ∧ t (startF N vs []) H Q) : LOk P w K mg base (k + 1) F sp := by
  refine ⟨fun f A outer s H us vs Q E hr e0 at_ r hsp => ?_⟩
  obtain ⟨c, pm, ctv, ob, cr⟩ := at_.obj e0.hok
  have hl := len _ _ _ _ hsp
  have nolim : s.heap.NoLimit := e0.mod.nolimit.keeps fun b o e => (e0.bs b o e).1
  refine PySem.W.kla_callFunE hr.depth ob rfl S.co S.gen rfl cr ?_
  rw [hb c pm ctv us (by rw [← r.length]; exact hl)]
  refine wpAny_pure (wpAny_newFunctionEnv S.nocell (fun y hy => S.par y.1 (List.of_mem_zip hy).1) (fun g ns sb => ⟨nolim.fresh _ sb, ?_⟩) S.kind)
  show codeAny _ _ (.expr F.body (envF (F.nf c) f s.heap.objs.size)) _ _
  have keep : ∀ b o, s.heap.get? b = some o → g.get? b = some o := fun b o e => sb.extBut b o (Nat.ne_of_lt (Heap.lt_size e)) (Heap.get?_push_of_some _ e)
  obtain ⟨t, ht, hq⟩ := hbody f c A outer s H vs Q E (hr.deeper _) hsp
  have cells : CellsAt (F.nf c).cl [] [] s.heap H := ⟨rfl, fun y c z => (by cases z), fun x y c z => (by cases z), fun i y z => (by cases z)⟩
  have J : Inv (ncx CX0 P w K mg base N (F.nf c) f A outer s H E) [] (startF N vs []) H { s with heap := g, toks := s.toks + (ps.zip us).length } := inv_startN S hr.hd e0 hl r cells ns keep
  refine PySem.W.kla_codeExpr (wpAny_mono (ht.run [] _ _ H Q J hq) (fun v s2 hv => ?_) fun e s2 he => he)
  obtain ⟨v2, H2, J2, rv, q⟩ := hv
  exact ⟨v2, H2, J2.os, J2.bare, J2.base, J2.hok, rv, q⟩
/-- x(..), x a name that holds a lambda -/
def tCallLam (P : Program) (w : World) (K : PySem.W.Frag) (mg : Str → Option Value) (base : Heap) (k i : Nat) (t : TA) : TE := fun σ H Q => ∃ (f : Addr) (F : LamF) (sp : Sp), σ[i]? = some (some (.ref f)) ∧ LOk P w K mg base k F sp ∧ LamAt H f F ∧ t σ H fun vs H1 => LamAt H1 f F ∧ sp vs H1 Q E0
theorem pe_callLam {X : Cx} {x : Str} {i j k : Nat} {t : TA} {e : Expr} {es : List Expr} {p pos : Pos} (hr : Room j X.A) (hk : k ≤ j) (hN : X.N[i]? = some x) (hv : Vis X.env.scope x) (ha : PA X (e :: es) t)
    (hd : (x == ("__debug__" : Str)) = false := by decide) (hcd : (x == ("__classdict__" : Str)) = false := by decide)
    (he : starEach (e :: es) X.env = (false, eval e X.env) :: starEach es X.env := by rfl) (hpl : (backTo pos (starEach es X.env)).any (·.1) = false := by rfl) :
    PE X (.Call (.Name x p) (e :: es) [] pos) (tCallLam X.prog X.w X.K X.mg X.base k i t) := by
  refine ⟨fun pins s σ H Q I h => ?_⟩
  obtain ⟨f, F, sp, slot, ok, at_, ht⟩ := h
  refine wpAny_Call_Name_kw (thn ((pe_var (pos := p) hN hv hd hcd).run pins s σ H (fun v H1 => v = .ref f ∧ H1 = H) I ⟨.ref f, slot, rfl, rfl⟩) fun u s1 ⟨v, H1, I1, r1, q1⟩ => ?_)
  obtain ⟨ev, eH⟩ := q1
  subst ev eH
  obtain rfl : u = Value.ref f := r1
  have fnat : ∀ {H' : Hp} {s' : Shared}, Inv X pins σ H' s' → LamAt H' f F → PySem.W.FnAt f s'.heap := fun I' a => by
    obtain ⟨c, pm, ctv, z, _⟩ := a.obj I'.hok
    exact ⟨_, _, _, _, z⟩
  refine PySem.W.callWith_F (first := []) (fnat I1 at_) (thn (ha.run pos pins s1 σ H1 _ I1 ht) fun us s2 ⟨vs, H2, I2, r, at2, q⟩ => ⟨fnat I2 at2, ?_⟩) he hpl
  show wpAny _ _ (call (.ref f) us) _ _ _
  refine wpAny_call (codeAny_mono (ok.run f X.A X.stack s2 H2 us vs _ E0 (hr.mono hk) I2.env0 at2 r q) fun res s3 done => ?_)
  cases res with
  | error e => exact (pass0 (X := X)) pins σ H2 s2 e s3 I2 done
  | ok fl =>
    cases fl with
    | ret u => exact I2.after done
    | next => exact done.elim
    | brk => exact done.elim
    | cont => exact done.elim
end TmL
namespace Tm
open PySem PySem.Spec PyProof.Rows L2 TmL LamX
local macro_rules | `(tactic| walk_at "x") => `(tactic| dsimp only [tNext, tRet, tSeq, tCall, tCB, tC, tCons, tNil, tAsg, tDrop, sFld])
def ABC : Str := "abcdefgh"
/-- r: the machine's rule; the table t does the same on the states below n -/
def Steps (n : Nat) (t : Tab) (r : Nat → Nat → Int × Int) : Prop := ∀ x ∈ namesT t, ∃ i : Nat, Builtin.Str.occurrences ABC (cutS x (some (-1)) none) 0 ABC.length 1 = [i] ∧ x.length ≤ 100 ∧ i ≤ 10 ∧
  ∀ s < n, ∃ (row : Row) (s' : Nat) (y : Int), (x, row) ∈ t ∧ row[s]? = some ((s' : Int), y) ∧ r s i = ((s' : Int), y) ∧ s' < n
def sp_rule (r : Nat → Nat → Int × Int) : Sp := fun vs H Q _ => ∃ a b : Nat, vs = [.int (a : Int), .int (b : Int)] ∧ a ≤ 10 ∧ b ≤ 10 ∧ ∀ p, H p = none → Q (.ref p) (upd H p (.tup [.int (r a b).1, .int (r a b).2]))
theorem eqv_pair (x y : Int) : PyData.eqv (.list [.int x, .int y]) (.list [.int x, .int y]) = true := by simp [PyData.eqv, PyData.eqvAll]
section
variable {P : Program} {w : World} {K : PySem.W.Frag} {mg : Str → Option Value} {base : Heap} {C : Addr}
abbrev s_lr : Stmt := top 37
theorem sc_law_letters_right : FnScope ["_law_kind", "_law_names", "_law_first", "_law_rule", "_law_name", "_law_state", "_law_now", "_law_letter", "_law_answer", "_law_due"] ["_law_kind", "_law_names", "_law_first", "_law_rule"] (defScope s_lr) := ⟨rfl, rfl, rfl, by decide +kernel, rfl, by decide +kernel, by decide +kernel⟩
def sp_lr (P : Program) (w : World) (K : PySem.W.Frag) (mg : Str → Option Value) (base : Heap) (C : Addr) : Sp := fun vs H Q _ => ∃ (v : V) (t : Tab) (a f : Addr) (ws : List Str) (s0 n : Nat) (F : LamF) (r : Nat → Nat → Int × Int), vs = [v, .ref a, .int (s0 : Int), .ref f] ∧ KindV C H v t ∧ H a = some (.lst (ws.map V.str)) ∧ (∀ x ∈ ws, x ∈ namesT t) ∧ ws.length ≤ 100 ∧
  s0 < n ∧ n ≤ 10 ∧ Steps n t r ∧ LamAt H f F ∧ LOk P w K mg base 1 F (sp_rule r) ∧ ∀ H', Same H H' → Q (.bl true) H'
theorem same_lam {H H' : Hp} {f : Addr} {F : LamF} (e : Same H H') (h : LamAt H f F) : LamAt H' f F := by
  obtain ⟨c, h1, h2⟩ := h
  exact ⟨c, e _ _ h1, e _ _ h2⟩
theorem ok_lr (B : Bt mg) (T : Kc K C) (OM_after : OkM P w K mg base C "after" 3 ["self", "state", "name"] (sp_after C)) (D : Df K mg "_law_letters_right" s_lr ["_law_kind", "_law_names", "_law_first", "_law_rule"]) : Ok P w K mg base "_law_letters_right" 4 ["_law_kind", "_law_names", "_law_first", "_law_rule"] (sp_lr P w K mg base C) := by
  refine D.ok sc_law_letters_right (fun vs H Q E h => ?_) (fun f cdv A outer s H vs Q E hr h => ?_)
  · obtain ⟨v, t, a, f, ws, s0, n, F, r, rfl, _⟩ := h
    rfl
  · obtain ⟨v, t, a, lf, ws, s0, n, F, r, rfl, hk, ha, hin, hlen, h0, hn, hst, hlam, hok, q⟩ := h
    have hu64 : (A.deeper (envOfC "_law_letters_right" (defScope s_lr) s.heap.objs.size f cdv)).units + 64 < cLine := by
      have := hr.un
      omega
    refine ⟨_, pss_cons (ps_par (i := 5) (j := 6) (by rfl) sc_law_letters_right.nd rfl rfl (by decide) rfl rfl (pa_cons (pv 2) (pa_cons (pv 2) (pa_nil))) (by rfl))
      (pss_cons (ps_for PassesOwn.never rfl (pi_list (pv 1)) (pg_name (i := 4) sc_law_letters_right.nd rfl (.inl rfl))
        (pss_cons (ps_set (i := 7) sc_law_letters_right.nd rfl (.inl rfl) (pe_bm PySem.F.plainAttrs_str PySem.F.slot_str_index PySem.F.type_str_index mt_sindex (pe_str) (pa_cons (pe_slice sl_str (pv 4) (po_some (pe_un un_neg (pe_int))) (po_none)) (pa_nil))))
      (pss_cons (ps_asg (OM_after.call hr T.cl (he := pv 0) (ha := pa_cons (pv 5) (pa_cons (pv 4) (pa_nil)))) (pg_tup (by rfl) (pgs_cons (pg_name (i := 5) sc_law_letters_right.nd rfl (.inl rfl)) (pgs_cons (pg_name (i := 8) sc_law_letters_right.nd rfl (.inl rfl)) (pgs_nil)))))
      (pss_cons (ps_asg (pe_callLam (i := 3) (k := 1) hr (by decide) rfl (.inl rfl) (pa_cons (pv 6) (pa_cons (pv 7) (pa_nil)))) (pg_tup (by rfl) (pgs_cons (pg_name (i := 6) sc_law_letters_right.nd rfl (.inl rfl)) (pgs_cons (pg_name (i := 9) sc_law_letters_right.nd rfl (.inl rfl)) (pgs_nil)))))
      (pss_one (ps_if (pt_cmpR (op_neD hu64) (pe_lst (pa_cons (pv 5) (pa_cons (pv 8) (pa_nil)))) (pe_lst (pa_cons (pv 6) (pa_cons (pv 9) (pa_nil)))) (nomark _))
        (pss_one (ps_ret (pe_bl)))
        (pss_nil)))))))
      (pss_one (ps_ret (pe_bl)))), ?_⟩
    refine ⟨_, rfl, _, rfl, _, _, rfl, ?_⟩
    dsimp only
    refine ⟨_, rfl, a, rfl, ⟨_, SqL.of ha⟩, ?_⟩
    refine for_list (xs := ws.map V.str) (fun _ σ H' => ∃ (o4 o7 o8 o9 : Option V) (st : Nat), σ = [some v, some (.ref a), some (.int (s0 : Int)), some (.ref lf), o4, some (.int (st : Int)), some (.int (st : Int)), o7, o8, o9] ∧ st < n ∧ Same H H')
      ⟨none, none, none, none, s0, rfl, h0, Same.refl H⟩ (fun _ _ _ _ p => ?_) (fun i x σ H' hx p => ?_) (fun σ H' p => ?_)
    · obtain ⟨_, _, _, _, _, _, _, e⟩ := p
      exact SqL.of (e _ _ ha)
    · obtain ⟨o4, o7, o8, o9, st, rfl, hs, e⟩ := p
      rw [List.getElem?_map] at hx
      obtain ⟨y, hy, ey⟩ := Option.map_eq_some_iff.mp hx
      subst ey
      obtain ⟨j, hj, hyl, hj10, hstep⟩ := hst y (hin y (List.mem_of_getElem? hy))
      obtain ⟨row, s', z, hrow, hat, hr', hs'⟩ := hstep st hs
      refine ⟨rfl, _, rfl, _, rfl, _, rfl, y, rfl, sz_le (by omega), ABC, _, j, [], rfl, rfl, hj, ?_⟩
      refine ⟨_, rfl, ?_⟩
      obtain ⟨va, dx, d, kvs, ev, hva, _⟩ := id hk
      subst ev
      refine ⟨va, dx, _, rfl, e _ _ hva, kf_no _ _, _, rfl, _, rfl, .ref va, t, st, y, row, ((s' : Int), z), rfl, hk.mono e, hrow, hat, fun u hu => ?_⟩
      obtain ⟨pa, rfl, hpa⟩ := hu
      refine pair_names (SqT.of hpa) ?_
      refine ⟨lf, F, sp_rule r, rfl, hok, same_lam e hlam, _, rfl, _, rfl, same_lam e hlam, st, j, rfl, by omega, by omega, fun p2 hp2 => ?_⟩
      refine pair_names (SqT.of upd_same) ?_
      have hr1 : (r st j).1 = (s' : Int) := by rw [hr']
      have hr2 : (r st j).2 = z := by rw [hr']
      rw [hr1, hr2]
      generalize hH2 : upd H' p2 (.tup [.int (s' : Int), .int z]) = H2
      have e2 : Same H H2 := by rw [← hH2]; exact e.trans (same_new hp2)
      refine ⟨_, rfl, _, rfl, by show 2 ≤ sizeLine; decide, fun l1 hl1 => ?_⟩
      refine ⟨_, rfl, _, rfl, by show 2 ≤ sizeLine; decide, fun l2 hl2 => ?_⟩
      have n12 : l1 ≠ l2 := fun z => by rw [← z, upd_same] at hl2; cases hl2
      refine ⟨.list [.int (s' : Int), .int z], .list [.int (s' : Int), .int z], .lst (SqL.of (by rw [upd_ne n12, upd_same])) (.cons (.int _) (.cons (.int _) .nil)), .lst (SqL.of upd_same) (.cons (.int _) (.cons (.int _) .nil)), rfl, rfl, ?_⟩
      rw [eqv_pair]
      refine ⟨_, rfl, ?_⟩
      refine ifF rfl ?_
      exact ⟨_, _, _, _, s', rfl, hs', e2.trans ((same_new hl1).trans (same_new hl2))⟩
    · obtain ⟨_, _, _, _, _, _, _, e⟩ := p
      exact q H' e
end
end Tm
namespace Tm
open PySem PySem.Spec PyProof.Rows L2 TmL LamX
local macro_rules | `(tactic| walk_at "x") => `(tactic| dsimp only [tNext, tRet, tSeq, tCall, tCB, tC, tCons, tNil, tAsg, tDrop, sFld])
/-! ### fading kinds -/
def sideF (n : Nat) (x : Str) : Nat := if x = "seta" then 0 else n
def sideW (n : Nat) : List Str → Nat
  | [] => 0
  | x :: _ => sideF n x
def stF (n side i : Nat) : Nat := if i = 0 then 0 else if i ≤ n then side + i else 2 * n + 1
theorem fade_names {n : Nat} {t : Tab} {x : Str} (pm : t.Perm (fadeT n)) (h : x ∈ namesT t) : (x = "seta" ∨ x = "setb") ∧ (x, (((sideF n x : Nat) : Int) + 1, (0 : Int)) :: laterR n) ∈ t := by
  obtain ⟨e, he, rfl⟩ := List.mem_map.mp h
  have h2 : e ∈ fadeT n := pm.mem_iff.mp he
  have ea : letr "set" 0 = "seta" := by decide +kernel
  have eb : letr "set" 1 = "setb" := by decide +kernel
  have nab : ¬ (("setb" : Str) = "seta") := by decide +kernel
  have ef : fadeT n = [(letr "set" 0, (1, 0) :: laterR n), (letr "set" 1, ((n : Int) + 1, 0) :: laterR n)] := rfl
  rw [ef, ea, eb] at h2
  rcases List.mem_cons.mp h2 with z | z
  · rw [z] at he ⊢
    refine ⟨.inl rfl, ?_⟩
    have : sideF n "seta" = 0 := if_pos rfl
    show (("seta" : Str), (((sideF n "seta" : Nat) : Int) + 1, (0 : Int)) :: laterR n) ∈ t
    rw [this]
    exact he
  · have z2 := List.mem_singleton.mp z
    rw [z2] at he ⊢
    refine ⟨.inr rfl, ?_⟩
    have : sideF n "setb" = n := if_neg nab
    show (("setb" : Str), (((sideF n "setb" : Nat) : Int) + 1, (0 : Int)) :: laterR n) ∈ t
    rw [this]
    exact he
theorem later_at {n s : Nat} (h : s < 2 * n + 1) : (laterR n)[s]? = some (fadeS (1 + (s : Int)) n, 0) := by
  unfold laterR
  rw [List.getElem?_map, List.getElem?_range h]
  rfl
theorem fade_step {n : Nat} (hn : 1 ≤ n) {ws : List Str} {i : Nat} {x : Str} (hx : ws[i]? = some x) (hs : ∀ y ∈ ws, y = "seta" ∨ y = "setb") :
    ((((sideF n x : Nat) : Int) + 1, (0 : Int)) :: laterR n)[stF n (sideW n ws) i]? = some (((stF n (sideW n ws) (i + 1) : Nat) : Int), 0) := by
  cases ws with
  | nil => simp at hx
  | cons y rest =>
    have sd : sideW n (y :: rest) = 0 ∨ sideW n (y :: rest) = n := by
      show sideF n y = 0 ∨ sideF n y = n
      unfold sideF
      split <;> simp
    cases i with
    | zero =>
      have e : y = x := by simpa using hx
      subst e
      have e0 : stF n (sideW n (y :: rest)) 0 = 0 := rfl
      have e1 : stF n (sideW n (y :: rest)) 1 = sideF n y + 1 := by
        unfold stF
        rw [if_neg (by omega), if_pos hn]
        rfl
      rw [e0, e1]
      rfl
    | succ i =>
      generalize sideW n (y :: rest) = sd0 at sd
      have e0 : ∃ s, stF n sd0 (i + 1) = s + 1 ∧ s < 2 * n + 1 := by
        unfold stF
        rw [if_neg (by omega)]
        split
        · exact ⟨sd0 + i, by omega, by omega⟩
        · exact ⟨2 * n, by omega, by omega⟩
      obtain ⟨s, es, hs2⟩ := e0
      have key : fadeS (1 + (s : Int)) (n : Int) = ((stF n sd0 (i + 1 + 1) : Nat) : Int) := by
        unfold stF at es ⊢
        rw [if_neg (by omega)] at es
        rw [if_neg (by omega)]
        unfold fadeS
        by_cases g1 : i + 1 ≤ n
        · rw [if_pos g1] at es
          by_cases g2 : i + 1 + 1 ≤ n
          · rw [if_pos g2, if_neg (by omega), if_neg (by omega)]
            omega
          · rw [if_neg g2]
            by_cases g3 : (1 + (s : Int)) = n
            · rw [if_pos g3]
              omega
            · rw [if_neg g3, if_neg (by omega)]
              omega
        · rw [if_neg g1] at es
          have es2 : 2 * n + 1 = s + 1 := es
          rw [if_neg (show ¬ (1 + (s : Int)) = n by omega), if_pos (show 2 * (n : Int) + 1 < 1 + (s : Int) + 1 by omega), if_neg (show ¬ i + 1 + 1 ≤ n by omega)]
          omega
      rw [es, List.getElem?_cons_succ, later_at hs2, key]
section
variable {P : Program} {w : World} {K : PySem.W.Frag} {mg : Str → Option Value} {base : Heap} {C : Addr}
abbrev s_fr : Stmt := top 40
theorem sc_law_fading_right : FnScope ["_law_kind", "_law_names", "_law_count", "_law_name", "_law_state", "_law_done", "_law_side", "_law_due", "_law_answer"] ["_law_kind", "_law_names", "_law_count"] (defScope s_fr) := ⟨rfl, rfl, rfl, by decide +kernel, rfl, by decide +kernel, by decide +kernel⟩
def sp_fr (C : Addr) (lo hi : Nat) (tb : Nat → Tab) : Sp := fun vs H Q _ => ∃ (v : V) (t : Tab) (a : Addr) (ws : List Str) (n : Nat), vs = [v, .ref a, .int (n : Int)] ∧ KindV C H v t ∧ t.Perm (tb n) ∧ H a = some (.lst (ws.map V.str)) ∧ (∀ x ∈ ws, x ∈ namesT t) ∧ ws.length ≤ 100 ∧ lo ≤ n ∧ n ≤ hi ∧ ∀ H', Same H H' → Q (.bl true) H'
theorem ok_fr (B : Bt mg) (T : Kc K C) (OM_after : OkM P w K mg base C "after" 3 ["self", "state", "name"] (sp_after C)) (D : Df K mg "_law_fading_right" s_fr ["_law_kind", "_law_names", "_law_count"]) : Ok P w K mg base "_law_fading_right" 4 ["_law_kind", "_law_names", "_law_count"] (sp_fr C 1 5 fadeT) := by
  refine D.ok sc_law_fading_right (fun vs H Q E h => ?_) (fun f cdv A outer s H vs Q E hr h => ?_)
  · obtain ⟨v, t, a, ws, n, rfl, _⟩ := h
    rfl
  · obtain ⟨v, t, a, ws, n, rfl, hk, pm, ha, hin, hlen, h1, h5, q⟩ := h
    have hu64 : (A.deeper (envOfC "_law_fading_right" (defScope s_fr) s.heap.objs.size f cdv)).units + 64 < cLine := by
      have := hr.un
      omega
    refine ⟨_, pss_cons (ps_par (i := 4) (j := 5) (by rfl) sc_law_fading_right.nd rfl rfl (by decide) rfl rfl (pa_cons (pe_int) (pa_cons (pe_lst (pa_nil)) (pa_nil))) (by rfl))
      (pss_cons (ps_for PassesOwn.never rfl (pi_list (pv 1)) (pg_name (i := 3) sc_law_fading_right.nd rfl (.inl rfl))
        (pss_cons (ps_asg (OM_after.call hr T.cl (he := pv 0) (ha := pa_cons (pv 4) (pa_cons (pv 3) (pa_nil)))) (pg_tup (by rfl) (pgs_cons (pg_name (i := 4) sc_law_fading_right.nd rfl (.inl rfl)) (pgs_cons (pg_name (i := 8) sc_law_fading_right.nd rfl (.inl rfl)) (pgs_nil)))))
      (pss_cons (ps_expr (pe_bm PySem.F.plainAttrs_list PySem.F.slot_list_append PySem.F.type_list_append mt_append (pv 5) (pa_cons (pv 3) (pa_nil))))
      (pss_cons (ps_set (i := 6) sc_law_fading_right.nd rfl (.inl rfl) (pe_ifExp (pt_cmpR op_eq (pe_ix (ixLK (K := K)) (pv 5) (pe_int) (fun _ _ => rfl)) (pe_str) (nomark _)) (pe_int) (pv 2)))
      (pss_cons (ps_set (i := 7) sc_law_fading_right.nd rfl (.inl rfl) (pe_ifExp (pt_cmpR op_le (pe_callB (lenK (K := K)) (by rfl) B.len (by decide +kernel) (pa_cons (pv 5) (pa_nil))) (pv 2) (nomark _)) (pe_op op_add (pv 6) (pe_callB (lenK (K := K)) (by rfl) B.len (by decide +kernel) (pa_cons (pv 5) (pa_nil)))) (pe_op op_add (pe_op op_mul (pe_int) (pv 2)) (pe_int))))
      (pss_one (ps_if (pt_cmpR (op_neD hu64) (pe_lst (pa_cons (pv 4) (pa_cons (pv 8) (pa_nil)))) (pe_lst (pa_cons (pv 7) (pa_cons (pe_int) (pa_nil)))) (nomark _))
        (pss_one (ps_ret (pe_bl)))
        (pss_nil))))))))
      (pss_one (ps_ret (pe_bl)))), ?_⟩
    refine ⟨by show 0 ≤ sizeLine; decide, fun dl hdl => ⟨_, _, rfl, ?_⟩⟩
    dsimp only
    have hin2 : ∀ y ∈ ws, y = "seta" ∨ y = "setb" := fun y hy => (fade_names pm (hin y hy)).1
    have e0 : Same H (upd H dl (.lst [])) := same_new hdl
    refine ⟨_, rfl, a, rfl, ⟨_, SqL.of (e0 _ _ ha)⟩, ?_⟩
    refine for_list (xs := ws.map V.str) (fun i σ H' => ∃ (o3 o6 o7 o8 : Option V), σ = [some v, some (.ref a), some (.int (n : Int)), o3, some (.int ((stF n (sideW n ws) i : Nat) : Int)), some (.ref dl), o6, o7, o8] ∧ Same H H' ∧ H' dl = some (.lst ((ws.take i).map V.str)))
      ⟨none, none, none, none, rfl, e0, upd_same⟩ (fun _ _ _ _ p => ?_) (fun i x σ H' hx p => ?_) (fun σ H' p => ?_)
    · obtain ⟨_, _, _, _, _, e, _⟩ := p
      exact SqL.of (e _ _ ha)
    · obtain ⟨o3, o6, o7, o8, rfl, e, hd⟩ := p
      rw [List.getElem?_map] at hx
      obtain ⟨y, hy, ey⟩ := Option.map_eq_some_iff.mp hx
      subst ey
      have hrow := (fade_names pm (hin y (List.mem_of_getElem? hy))).2
      have hst := fade_step h1 hy hin2
      have hi : i < ws.length := (List.getElem?_eq_some_iff.mp hy).1
      obtain ⟨va, dx, d, kvs, ev, hva, _⟩ := id hk
      subst ev
      refine ⟨_, rfl, va, dx, _, rfl, e _ _ hva, kf_no _ _, _, rfl, _, rfl, .ref va, t, _, y, _, _, rfl, hk.mono e, hrow, hst, fun u hu => ?_⟩
      obtain ⟨pa, rfl, hpa⟩ := hu
      refine pair_names (SqT.of hpa) ?_
      have hl1 : (ws.take i ++ [y]).length = i + 1 := by rw [List.length_append, List.length_take]; simp; omega
      refine ⟨_, rfl, .inl ⟨rfl, _, SqL.of hd⟩, _, rfl, dl, _, _, rfl, rfl, hd, by rw [List.length_map, List.length_take]; exact sz_lt (by omega), ?_⟩
      generalize hH2 : upd H' dl (.lst (List.map V.str (ws.take i) ++ [V.str y])) = H2
      have hd2 : H2 dl = some (.lst ((ws.take (i + 1)).map V.str)) := by
        rw [← hH2, upd_same, take_one hy, List.map_append]
        rfl
      have e2 : Same H H2 := by rw [← hH2]; exact same_mut e hdl
      obtain ⟨w0, rest, hws⟩ : ∃ w0 rest, ws = w0 :: rest := by
        cases ws with
        | nil => simp at hy
        | cons w0 rest => exact ⟨w0, rest, rfl⟩
      have at0 : atI ((ws.take (i + 1)).map V.str) 0 = some (V.str w0) := by
        rw [hws]
        exact atI_nat (j := 0) rfl
      walk_at "x"
      refine Ev.go (te := tIf _ _ _) (P := fun v H3 => v = .int ((sideW n ws : Nat) : Int) ∧ H3 = H2) (fun Q q => ?_) fun v H3 _ hv => ?_
      · refine ⟨_, rfl, dl, _, _, _, rfl, rfl, SqL.of hd2, at0, rfl, ?_⟩
        refine ⟨_, rfl, ?_⟩
        have es : sideW n ws = if w0 = "seta" then 0 else n := by rw [hws]; rfl
        by_cases g : w0 = "seta"
        · rw [if_pos g] at es
          refine ifT (decide_eq_true (by rw [g])) (q _ _ (Same.refl _) ⟨by rw [es]; rfl, rfl⟩)
        · rw [if_neg g] at es
          refine ifF (decide_eq_false (fun z => g (V.str.inj z))) ⟨_, rfl, q _ _ (Same.refl _) ⟨by rw [es], rfl⟩⟩
      obtain ⟨rfl, rfl⟩ := hv
      refine Ev.go (te := tIf _ _ _) (P := fun v H3' => v = .int ((stF n (sideW n ws) (i + 1) : Nat) : Int) ∧ H3' = H3) (fun Q q => ?_) fun v H3' _ hv => ?_
      · have hlen2 : ((ws.take (i + 1)).map V.str).length = i + 1 := by rw [List.length_map, List.length_take]; omega
        refine ⟨_, rfl, dl, _, rfl, .inl (SqL.of hd2), _, rfl, _, _, rfl, rfl, _, rfl, ?_⟩
        rw [hlen2]
        have es : stF n (sideW n ws) (i + 1) = if i + 1 ≤ n then sideW n ws + (i + 1) else 2 * n + 1 := rfl
        by_cases g : i + 1 ≤ n
        · rw [if_pos g] at es
          refine ifT (decide_eq_true (by omega)) ⟨_, rfl, _, rfl, dl, _, rfl, .inl (SqL.of hd2), _, _, rfl, rfl, q _ _ (Same.refl _) ⟨?_, rfl⟩⟩
          rw [hlen2, es]
          congr 1
        · rw [if_neg g] at es
          refine ifF (decide_eq_false (by omega)) ⟨_, rfl, _, _, rfl, rfl, .inl ⟨by decide, by decide⟩, _, _, rfl, rfl, q _ _ (Same.refl _) ⟨?_, rfl⟩⟩
          rw [es]
          congr 1
      obtain ⟨rfl, rfl⟩ := hv
      refine ⟨_, rfl, _, rfl, by show 2 ≤ sizeLine; decide, fun l1 hl1 => ?_⟩
      refine ⟨_, rfl, by show 2 ≤ sizeLine; decide, fun l2 hl2 => ?_⟩
      have n12 : l1 ≠ l2 := fun z => by rw [← z, upd_same] at hl2; cases hl2
      refine ⟨.list [.int _, .int 0], .list [.int _, .int 0], .lst (SqL.of (by rw [upd_ne n12, upd_same])) (.cons (.int _) (.cons (.int _) .nil)), .lst (SqL.of upd_same) (.cons (.int _) (.cons (.int _) .nil)), rfl, rfl, ?_⟩
      rw [eqv_pair]
      refine ⟨_, rfl, ?_⟩
      refine ifF rfl ?_
      have nd1 : dl ≠ l1 := fun z => by rw [← z, hd2] at hl1; cases hl1
      have hd3 : upd H3' l1 (.lst [V.int ((stF n (sideW n ws) (i + 1) : Nat) : Int), V.int 0]) dl = some (.lst ((ws.take (i + 1)).map V.str)) := by
        rw [upd_ne nd1]
        exact hd2
      have nd2 : dl ≠ l2 := fun z => by
        have hl2' := hl2
        rw [← z] at hl2'
        rw [hd3] at hl2'
        cases hl2'
      exact ⟨_, _, _, _, rfl, e2.trans ((same_new hl1).trans (same_new hl2)), by rw [upd_ne nd2]; exact hd3⟩
    · obtain ⟨_, _, _, _, _, e, _⟩ := p
      exact q H' e
end
end Tm
namespace Tm
open PySem PySem.Spec PyProof.Rows L2 TmL LamX
local macro_rules | `(tactic| walk_at "x") => `(tactic| dsimp only [tNext, tRet, tSeq, tCall, tCB, tC, tCons, tNil, tAsg, tDrop, sFld])
/-- what a statement leads to -/
def EvS (t : TS) (σ : L2.St) (H : Hp) (P : L2.St → Hp → Prop) : Prop := ∀ D : Ends, (∀ σ' H', P σ' H' → D.nx σ' H') → t D σ H
theorem EvS.go {t : TS} {σ : L2.St} {H : Hp} {P : L2.St → Hp → Prop} {D : Ends} (h : EvS t σ H P) (q : ∀ σ' H', P σ' H' → D.nx σ' H') : t D σ H := h D q
theorem triple_names {K : PySem.W.Frag} {i j k : Nat} {σ : L2.St} {H : Hp} {T : Addr} {x y z : V} {Q : L2.St → Hp → Prop} (hT : SqT K H T [x, y, z]) (q : Q (((σ.set i (some x)).set j (some y)).set k (some z)) H) :
    gTup K 3 (gCons (gName i) (gCons (gName j) (gCons (gName k) gNil))) (.ref T) σ H Q := ⟨T, [x, y, z], rfl, hT, rfl, x, [y, z], rfl, y, [z], rfl, z, [], rfl, rfl, q⟩
/-! ### queues -/
def dueQ (w : Str) : Int := if cutS w none (some 1) = "a" then 1 else if cutS w none (some 1) = "b" then 2 else 0
def dueX (x w : Str) : Int := if x = "leave" then dueQ w else 0
def nextQ (n : Nat) (x w : Str) : Str := if x = "leave" then cutS w (some 1) none else if w.length < n then w ++ cutS x (some (-1)) none else w
def stepQ (n : Nat) (e : Str × Row) (st : Nat) : Bool := match (qwords n)[st]? with
  | none => true
  | some w => decide (w.length ≤ 2) && decide (e.1.length ≤ 5) && decide (cutS w none (some 1) ∈ (["", "a", "b"] : List Str)) && match e.2[st]? with
    | none => false
    | some p => decide (0 ≤ p.1) && decide (p.2 = dueX e.1 w) && decide ((qwords n)[p.1.toNat]? = some (nextQ n e.1 w))
theorem q_step : ∀ n, n < 3 → 1 ≤ n → ∀ e ∈ queueT n, ∀ st, st < 7 → stepQ n e st = true := by decide +kernel
theorem q_step2 {n : Nat} {t : Tab} {x : Str} (h1 : 1 ≤ n) (h2 : n ≤ 2) (pm : t.Perm (queueT n)) (h : x ∈ namesT t) {st : Nat} {w : Str} (hw : (qwords n)[st]? = some w) :
    w.length ≤ 2 ∧ x.length ≤ 5 ∧ cutS w none (some 1) ∈ (["", "a", "b"] : List Str) ∧ ∃ (row : Row) (s' : Nat), (x, row) ∈ t ∧ row[st]? = some ((s' : Int), dueX x w) ∧ (qwords n)[s']? = some (nextQ n x w) := by
  obtain ⟨e, he, rfl⟩ := List.mem_map.mp h
  have hl : st < (qwords n).length := (List.getElem?_eq_some_iff.mp hw).1
  have hq := q_len n (by omega)
  have k := q_step n (by omega) h1 e (pm.mem_iff.mp he) st (by omega)
  unfold stepQ at k
  rw [hw] at k
  simp only [Bool.and_eq_true, decide_eq_true_eq] at k
  obtain ⟨⟨⟨k1, k2⟩, k3⟩, k4⟩ := k
  cases er : e.2[st]? with
  | none => rw [er] at k4; cases k4
  | some p =>
    rw [er] at k4
    simp only [Bool.and_eq_true, decide_eq_true_eq] at k4
    obtain ⟨⟨k5, k6⟩, k7⟩ := k4
    refine ⟨k1, k2, k3, e.2, p.1.toNat, he, ?_, k7⟩
    have ep : ((p.1.toNat : Nat) : Int) = p.1 := Int.toNat_of_nonneg k5
    rw [er, ep, ← k6]
def qK : List (L2.Key × V) := [(Sum.inr "", .int 0), (Sum.inr "a", .int 1), (Sum.inr "b", .int 2)]
theorem q_merge : mergeK [] qK = qK := by decide +kernel
theorem upd_upd {H : Hp} {a : Addr} {o u : HO} : upd (upd H a o) a u = upd H a u := by
  funext b
  by_cases h : b = a
  · rw [h, upd_same, upd_same]
  · rw [upd_ne h, upd_ne h, upd_ne h]
theorem cut_len (y : Str) : (cutS y (some (-1)) none).length ≤ y.length := cutS_length y _ _
theorem q_look : ∀ c ∈ (["", "a", "b"] : List Str), valV qK (Sum.inr c) = some (.int (if c = "a" then 1 else if c = "b" then 2 else 0)) := by decide +kernel
theorem q_words {n : Nat} (h1 : 1 ≤ n) (h2 : n ≤ 2) : ([V.str "", V.str "a", V.str "b"] : List V) ++ (List.replicate ((n : Int) - 1).toNat [V.str "aa", V.str "ab", V.str "ba", V.str "bb"]).flatten = (qwords n).map V.str := by
  have : n = 1 ∨ n = 2 := by omega
  rcases this with z | z
  · rw [z]; decide +kernel
  · rw [z]; decide +kernel
theorem q_zero : ∀ n, n < 3 → 1 ≤ n → (qwords n)[0]? = some ("" : Str) := by decide +kernel
section
variable {P : Program} {w : World} {K : PySem.W.Frag} {mg : Str → Option Value} {base : Heap} {C : Addr}
abbrev s_qr : Stmt := top 41
theorem sc_law_queue_right : FnScope ["_law_kind", "_law_names", "_law_count", "_law_name", "_law_words", "_law_word", "_law_state", "_law_due", "_law_answer"] ["_law_kind", "_law_names", "_law_count"] (defScope s_qr) := ⟨rfl, rfl, rfl, by decide +kernel, rfl, by decide +kernel, by decide +kernel⟩
theorem ok_qr (B : Bt mg) (T : Kc K C) (OM_after : OkM P w K mg base C "after" 3 ["self", "state", "name"] (sp_after C)) (D : Df K mg "_law_queue_right" s_qr ["_law_kind", "_law_names", "_law_count"]) : Ok P w K mg base "_law_queue_right" 4 ["_law_kind", "_law_names", "_law_count"] (sp_fr C 1 2 queueT) := by
  refine D.ok sc_law_queue_right (fun vs H Q E h => ?_) (fun f cdv A outer s H vs Q E hr h => ?_)
  · obtain ⟨v, t, a, ws, n, rfl, _⟩ := h
    rfl
  · obtain ⟨v, t, a, ws, n, rfl, hk, pm, ha, hin, hlen, h1, h5, q⟩ := h
    have hu := hu_of hr
    refine ⟨_, pss_cons (ps_par3 (i := 4) (j := 5) (l := 6) (by rfl) sc_law_queue_right.nd rfl rfl rfl (by decide) (by decide) (by decide) rfl rfl rfl (pa_cons (pe_op op_cat (pe_lst (pa_cons (pe_str) (pa_cons (pe_str) (pa_cons (pe_str) (pa_nil))))) (pe_op op_rep (pe_lst (pa_cons (pe_str) (pa_cons (pe_str) (pa_cons (pe_str) (pa_cons (pe_str) (pa_nil)))))) (pe_op op_sub (pv 2) (pe_int)))) (pa_cons (pe_str) (pa_cons (pe_int) (pa_nil)))) (by rfl))
      (pss_cons (ps_for PassesOwn.never rfl (pi_list (pv 1)) (pg_name (i := 3) sc_law_queue_right.nd rfl (.inl rfl))
        (pss_cons (ps_asg (OM_after.call hr T.cl (he := pv 0) (ha := pa_cons (pv 6) (pa_cons (pv 3) (pa_nil)))) (pg_tup (by rfl) (pgs_cons (pg_name (i := 6) sc_law_queue_right.nd rfl (.inl rfl)) (pgs_cons (pg_name (i := 8) sc_law_queue_right.nd rfl (.inl rfl)) (pgs_nil)))))
      (pss_cons (ps_set (i := 7) sc_law_queue_right.nd rfl (.inl rfl) (pe_int))
      (pss_cons (ps_if (pt_cmpR op_eq (pv 3) (pe_str) (nomark _))
        (pss_one (ps_par (i := 7) (j := 5) (by rfl) sc_law_queue_right.nd rfl rfl (by decide) rfl rfl (pa_cons (pe_dget hu (pe_disp (pps_cons (pe_str) (pe_int) (pps_cons (pe_str) (pe_int) (pps_cons (pe_str) (pe_int) (pps_nil)))) (by rfl) (by rfl) (fun z => by cases z) (by decide)) (pe_slice sl_str (pv 5) (po_none) (po_some (pe_int))) (fun _ _ => rfl)) (pa_cons (pe_slice sl_str (pv 5) (po_some (pe_int)) (po_none)) (pa_nil))) (by rfl)))
        (pss_one (ps_if (pt_cmpR op_lt (pe_callB call_len_str (by rfl) B.len (by decide +kernel) (pa_cons (pv 5) (pa_nil))) (pv 2) (nomark _))
        (pss_one (ps_set (i := 5) sc_law_queue_right.nd rfl (.inl rfl) (pe_op op_add_str (pv 5) (pe_slice sl_str (pv 3) (po_some (pe_un un_neg (pe_int))) (po_none)))))
        (pss_nil))))
      (pss_one (ps_if (PW.pt (pw_or (pt_cmpR op_ne (pv 8) (pv 7) (nomark _)) (pw_or1 (pt_cmpR op_ne (pe_ix (ixLK (K := K)) (pv 4) (pv 6) (fun _ _ => rfl)) (pv 5) (nomark _)))))
        (pss_one (ps_ret (pe_bl)))
        (pss_nil)))))))
      (pss_one (ps_ret (pe_bl)))), ?_⟩
    refine ⟨by show 3 ≤ sizeLine; decide, fun l1 hl1 => ⟨by show 4 ≤ sizeLine; decide, fun l2 hl2 => ?_⟩⟩
    have n12 : l1 ≠ l2 := fun z => by rw [← z, upd_same] at hl2; cases hl2
    have hk2 : (((n : Int) - 1).toNat = 0 ∨ ((n : Int) - 1).toNat = 1) := by omega
    refine ⟨_, rfl, _, _, rfl, rfl, l2, _, _, rfl, rfl, upd_same, by omega, by omega, sz_le (by rcases hk2 with z | z <;> rw [z] <;> decide), fun l3 hl3 => ?_⟩
    have n13 : l1 ≠ l3 := fun z => by
      rw [← z, upd_ne n12, upd_same] at hl3
      cases hl3
    refine ⟨l1, l3, _, _, rfl, rfl, by rw [upd_ne n13, upd_ne n12, upd_same], upd_same, sz_le (by rcases hk2 with z | z <;> rw [z] <;> decide), fun l4 hl4 => ?_⟩
    have e1 := (same_new (o := .lst [V.str "", V.str "a", V.str "b"]) hl1).trans ((same_new (o := .lst [V.str "aa", V.str "ab", V.str "ba", V.str "bb"]) hl2).trans ((same_new hl3).trans (same_new (o := .lst ((qwords n).map V.str)) hl4)))
    rw [q_words h1 h5]
    generalize hH1 : upd (upd (upd (upd H l1 (.lst [V.str "", V.str "a", V.str "b"])) l2 (.lst [V.str "aa", V.str "ab", V.str "ba", V.str "bb"])) l3 (.lst (List.replicate ((n : Int) - 1).toNat [V.str "aa", V.str "ab", V.str "ba", V.str "bb"]).flatten)) l4 (.lst ((qwords n).map V.str)) = H1 at e1 ⊢
    have h4 : H1 l4 = some (.lst ((qwords n).map V.str)) := by rw [← hH1, upd_same]
    refine ⟨_, _, _, rfl, ?_⟩
    dsimp only
    have ha1 := e1 _ _ ha
    refine ⟨_, rfl, a, rfl, ⟨_, SqL.of ha1⟩, ?_⟩
    refine for_list (xs := ws.map V.str) (fun _ σ H' => ∃ (o3 o7 o8 : Option V) (st : Nat) (wd : Str), σ = [some v, some (.ref a), some (.int (n : Int)), o3, some (.ref l4), some (.str wd), some (.int (st : Int)), o7, o8] ∧ (qwords n)[st]? = some wd ∧ Same H1 H')
      ⟨none, none, none, 0, "", rfl, q_zero n (by omega) h1, Same.refl H1⟩ (fun _ _ _ _ p => ?_) (fun i x σ H' hx p => ?_) (fun σ H' p => ?_)
    · obtain ⟨_, _, _, _, _, _, _, e⟩ := p
      exact SqL.of (e _ _ ha1)
    · obtain ⟨o3, o7, o8, st, wd, rfl, hst, e⟩ := p
      rw [List.getElem?_map] at hx
      obtain ⟨y, hy, ey⟩ := Option.map_eq_some_iff.mp hx
      subst ey
      obtain ⟨b1, b2, b3, row, s', hrow, hat, hnx⟩ := q_step2 h1 h5 pm (hin y (List.mem_of_getElem? hy)) hst
      obtain ⟨va, dx, d, kvs, ev, hva, _⟩ := id hk
      subst ev
      have eH : Same H H' := e1.trans e
      refine ⟨_, rfl, va, dx, _, rfl, eH _ _ hva, kf_no _ _, _, rfl, _, rfl, .ref va, t, st, y, row, _, rfl, hk.mono eH, hrow, hat, fun u hu' => ?_⟩
      obtain ⟨pa, rfl, hpa⟩ := hu'
      refine pair_names (SqT.of hpa) ?_
      walk_at "x"
      refine EvS.go (t := tIfS _ _ _) (P := fun σ H2 => σ = [some (.ref va), some (.ref a), some (.int (n : Int)), some (.str y), some (.ref l4), some (.str (nextQ n y wd)), some (.int (s' : Int)), some (.int (dueX y wd)), some (.int (dueX y wd))] ∧ Same H' H2) (fun D q => ?_) fun σ H2 hp => ?_
      · refine ⟨_, rfl, rfl, _, rfl, ?_⟩
        by_cases g : y = "leave"
        · refine ifT (decide_eq_true (by rw [g])) ?_
          have hnext : nextQ n y wd = cutS wd (some 1) none := if_pos g
          have hdue : dueX y wd = dueQ wd := if_pos g
          refine fun dd hdd => ?_
          refine ⟨upd_same, qK, rfl, by show 3 ≤ 15; decide, ?_⟩
          rw [q_merge, upd_upd]
          have edd : Same H' (upd H' dd (.dK qK)) := same_new hdd
          refine ⟨_, rfl, _, rfl, wd, rfl, sz_le (by omega), ?_⟩
          refine ⟨dd, .int (dueQ wd), rfl, by rw [dueQ, ← q_look _ b3]; exact DGet.k (k := Sum.inr (cutS wd none (some 1))) upd_same, ?_⟩
          refine ⟨_, rfl, _, rfl, wd, rfl, sz_le (by omega), ?_⟩
          exact ⟨_, _, rfl, q _ _ ⟨by rw [hnext, hdue]; rfl, edd⟩⟩
        · refine ifF (decide_eq_false (fun z => g (V.str.inj z))) ?_
          have hdue : dueX y wd = 0 := if_neg g
          refine ⟨_, rfl, wd, rfl, sz_le (by omega), _, rfl, _, _, rfl, rfl, _, rfl, ?_⟩
          by_cases g2 : wd.length < n
          · have hnext : nextQ n y wd = wd ++ cutS y (some (-1)) none := by rw [nextQ, if_neg g, if_pos g2]
            refine ifT (decide_eq_true (by omega)) ?_
            refine ⟨_, rfl, _, rfl, _, rfl, _, rfl, y, rfl, sz_le (by omega), _, _, rfl, rfl, ?_, q _ _ ⟨by rw [hnext, hdue]; rfl, Same.refl _⟩⟩
            have := cut_len y
            exact sz_le (by omega)
          · have hnext : nextQ n y wd = wd := by rw [nextQ, if_neg g, if_neg g2]
            refine ifF (decide_eq_false (by omega)) ?_
            exact q _ _ ⟨by rw [hnext, hdue]; rfl, Same.refl _⟩
      · obtain ⟨rfl, e2⟩ := hp
        refine ⟨_, rfl, _, rfl, rfl, _, rfl, ?_⟩
        refine ifF (by simp) ?_
        refine ⟨_, rfl, _, rfl, l4, _, _, _, rfl, rfl, SqL.of (e2 _ _ (e _ _ h4)), atI_nat (by rw [List.getElem?_map, hnx]; rfl), _, rfl, rfl, _, rfl, ?_⟩
        refine ifF (by simp) ?_
        exact ⟨_, _, _, s', _, rfl, hnx, e.trans e2⟩
    · obtain ⟨_, _, _, _, _, _, _, e⟩ := p
      exact q H' (e1.trans e)
end
end Tm
namespace Tm
open PySem PySem.Spec PyProof.Rows L2 TmL LamX NdefX
/-! ### the four rules -/
def r_cell (a b : Nat) : Int × Int := ((b : Int), 0)
def r_swap (a b : Nat) : Int × Int := ((b : Int), (a : Int))
def r_high (a b : Nat) : Int × Int := ((if (b : Int) > (a : Int) then (b : Int) else (a : Int)), 0)
def r_slot (a b : Nat) : Int × Int := if a = 0 then ((b : Int) + 1, (b : Int) + 1) else ((a : Int), (a : Int))
def stepB (m : Nat) (r : Nat → Nat → Int × Int) (e : Str × Row) : Bool := decide (e.1.length ≤ 100) && match Builtin.Str.occurrences ABC (cutS e.1 (some (-1)) none) 0 ABC.length 1 with
  | [i] => decide (i ≤ 10) && (List.range m).all fun s => match e.2[s]? with
    | none => false
    | some p => decide (0 ≤ p.1) && decide (p.1 < m) && decide (r s i = p)
  | _ => false
theorem st_cell : ∀ n, n < 7 → 2 ≤ n → ∀ e ∈ cellT n, stepB n r_cell e = true := by decide +kernel
theorem st_swap : ∀ n, n < 7 → 2 ≤ n → ∀ e ∈ swapT n, stepB n r_swap e = true := by decide +kernel
theorem st_high : ∀ n, n < 7 → 2 ≤ n → ∀ e ∈ highT n, stepB n r_high e = true := by decide +kernel
theorem st_slot : ∀ n, n < 7 → 1 ≤ n → ∀ e ∈ slotT n, stepB (n + 1) r_slot e = true := by decide +kernel
theorem steps_of {m : Nat} {r : Nat → Nat → Int × Int} {t tb : Tab} (pm : t.Perm tb) (h : ∀ e ∈ tb, stepB m r e = true) : Steps m t r := fun x hx => by
  obtain ⟨e, he, rfl⟩ := List.mem_map.mp hx
  have k := h e (pm.mem_iff.mp he)
  unfold stepB at k
  rw [Bool.and_eq_true, decide_eq_true_eq] at k
  obtain ⟨k1, k2⟩ := k
  split at k2
  · rename_i i hi
    rw [Bool.and_eq_true, decide_eq_true_eq] at k2
    refine ⟨i, hi, k1, k2.1, fun s hs => ?_⟩
    have k3 := List.all_eq_true.mp k2.2 s (List.mem_range.mpr hs)
    split at k3
    · cases k3
    · rename_i p hp
      simp only [Bool.and_eq_true, decide_eq_true_eq] at k3
      obtain ⟨⟨a1, a2⟩, a3⟩ := k3
      have ep : ((p.1.toNat : Nat) : Int) = p.1 := Int.toNat_of_nonneg a1
      exact ⟨e.2, p.1.toNat, p.2, he, by rw [hp, ep], by rw [a3, ep], by omega⟩
  · cases k2
/-! ### the lambdas of the text -/
abbrev s_right : Stmt := top 42
def QR : Str := "_law_right.<locals>.<lambda>"
def lamOf (i : Nat) : LamF := match (defBody s_right)[i]? with
  | some (.If (.UnaryOp _ (.Call _ [_, _, _, .Lambda p b s _] _ _) _) _ _ _) => ⟨QR, p, b, s⟩
  | _ => ⟨QR, defArgs s_right, .Constant .none 0 ⟨0, 0, 0, 0⟩, defScope s_right⟩
section
variable {P : Program} {w : World} {K : PySem.W.Frag} {mg : Str → Option Value} {base : Heap} {C : Addr}
abbrev LN : List Str := ["_law_now", "_law_letter"]
theorem lok_cell : LOk P w K mg base 1 (lamOf 2) (sp_rule r_cell) := by
  refine lok_of (N := LN) (ps := LN) (nscope_by (by decide +kernel)) (fun c pm ctv us hl => match us, hl with | [_, _], _ => rfl) (fun vs H Q E h => ?_) (fun f c A outer s H vs Q E hr h => ?_)
  · obtain ⟨a, b, rfl, _⟩ := h
    rfl
  · obtain ⟨a, b, rfl, ha, hb, q⟩ := h
    refine ⟨_, pe_tup (pa_cons (pv 1) (pa_cons pe_int pa_nil)), ?_⟩
    exact ⟨_, rfl, by show 2 ≤ sizeLine; decide, fun p hp => q p hp⟩
theorem lok_swap : LOk P w K mg base 1 (lamOf 4) (sp_rule r_swap) := by
  refine lok_of (N := LN) (ps := LN) (nscope_by (by decide +kernel)) (fun c pm ctv us hl => match us, hl with | [_, _], _ => rfl) (fun vs H Q E h => ?_) (fun f c A outer s H vs Q E hr h => ?_)
  · obtain ⟨a, b, rfl, _⟩ := h
    rfl
  · obtain ⟨a, b, rfl, ha, hb, q⟩ := h
    refine ⟨_, pe_tup (pa_cons (pv 1) (pa_cons (pv 0) pa_nil)), ?_⟩
    exact ⟨_, rfl, _, rfl, by show 2 ≤ sizeLine; decide, fun p hp => q p hp⟩
theorem lok_high (B : Bt mg) : LOk P w K mg base 1 (lamOf 6) (sp_rule r_high) := by
  refine lok_of (N := LN) (ps := LN) (nscope_by (by decide +kernel)) (fun c pm ctv us hl => match us, hl with | [_, _], _ => rfl) (fun vs H Q E h => ?_) (fun f c A outer s H vs Q E hr h => ?_)
  · obtain ⟨a, b, rfl, _⟩ := h
    rfl
  · obtain ⟨a, b, rfl, ha, hb, q⟩ := h
    refine ⟨_, pe_tup (pa_cons (pe_callB (call_max2 rfl) (by rfl) B.max (by decide +kernel) (pa_cons (pv 0) (pa_cons (pv 1) pa_nil))) (pa_cons pe_int pa_nil)), ?_⟩
    exact ⟨_, rfl, _, rfl, _, _, rfl, by show 2 ≤ sizeLine; decide, fun p hp => q p hp⟩
theorem lok_slot : LOk P w K mg base 1 (lamOf 9) (sp_rule r_slot) := by
  refine lok_of (N := LN) (ps := LN) (nscope_by (by decide +kernel)) (fun c pm ctv us hl => match us, hl with | [_, _], _ => rfl) (fun vs H Q E h => ?_) (fun f c A outer s H vs Q E hr h => ?_)
  · obtain ⟨a, b, rfl, _⟩ := h
    rfl
  · obtain ⟨a, b, rfl, ha, hb, q⟩ := h
    refine ⟨_, pe_tup (pa_cons (pe_orT (pv 0) (pe_one (pe_op op_add (pv 1) pe_int))) (pa_cons (pe_orT (pv 0) (pe_one (pe_op op_add (pv 1) pe_int))) pa_nil)), ?_⟩
    by_cases g : a = 0
    · have e : r_slot a b = ((b : Int) + 1, (b : Int) + 1) := if_pos g
      rw [e] at q
      refine ⟨_, rfl, false, by rw [g]; rfl, ?_⟩
      refine ifF rfl ⟨_, rfl, _, _, rfl, rfl, _, rfl, false, by rw [g]; rfl, ?_⟩
      refine ifF rfl ⟨_, rfl, _, _, rfl, rfl, by show 2 ≤ sizeLine; decide, fun p hp => q p hp⟩
    · have e : r_slot a b = ((a : Int), (a : Int)) := if_neg g
      have tr : true = ((a : Int) != 0) := by
        symm
        simp
        exact g
      rw [e] at q
      refine ⟨_, rfl, true, tr, ?_⟩
      refine ifT rfl ⟨_, rfl, true, tr, ?_⟩
      refine ifT rfl ⟨by show 2 ≤ sizeLine; decide, fun p hp => q p hp⟩
end
/-! ### what stands while the law runs: the vat at l, the tables T -/
def KX (l : Addr) (H H' : Hp) : Prop := ∀ b o, H b = some o → b ≠ l → (∀ ps, o ≠ .tbl ps) → H' b = some o
structure Good (l : Addr) (T : List (Addr × Str)) (H0 H : Hp) : Prop where
  kx : KX l H0 H
  vat : VatV H l
  tabs : Tabs T H
theorem Good.start {l : Addr} {T : List (Addr × Str)} {H : Hp} (v : VatV H l) (t : Tabs T H) : Good l T H H := ⟨fun _ _ h _ _ => h, v, t⟩
theorem Good.same {l : Addr} {T : List (Addr × Str)} {H0 H H' : Hp} (g : Good l T H0 H) (e : Same H H') : Good l T H0 H' :=
  ⟨fun b o h n1 n2 => e b o (g.kx b o h n1 n2), (KL.of g.vat e).2, g.tabs.ext e⟩
theorem tabs_kl {l : Addr} {T : List (Addr × Str)} {H H' : Hp} (v : VatV H l) (k : KL l H H') (t : Tabs T H) : Tabs T H' := fun p hp => by
  obtain ⟨a, b, c, hv⟩ := v
  obtain ⟨ps, h1, h2, h3⟩ := t p hp
  refine ⟨ps, k.1 _ _ h1 (fun z => ?_), h2, fun pos cv hc => ?_⟩
  · rw [z, hv] at h1
    cases h1
  · obtain ⟨c0, e1, e2⟩ := h3 pos cv hc
    refine ⟨c0, e1, k.1 _ _ e2 (fun z => ?_)⟩
    rw [z, hv] at e2
    exact codeO_nl _ (Option.some.inj e2).symm
theorem Good.draw {l : Addr} {T : List (Addr × Str)} {H0 H H' : Hp} (g : Good l T H0 H) (k : KL l H H') : Good l T H0 H' :=
  ⟨fun b o h n1 n2 => k.1 b o (g.kx b o h n1 n2) n1, k.2, tabs_kl g.vat k g.tabs⟩
theorem Good.lam {l : Addr} {T : List (Addr × Str)} {H0 H H' : Hp} (g : Good l T H0 H) (e : ExtN H H') (t : Tabs T H') : Good l T H0 H' :=
  ⟨fun b o h n1 n2 => e b o (g.kx b o h n1 n2) n2, by obtain ⟨a, b, c, h⟩ := g.vat; exact ⟨a, b, c, e _ _ h (fun ps z => by cases z)⟩, t⟩
theorem tups_extN {H H' : Hp} (e : ExtN H H') : TupS H H' := fun a xs h => e a _ h (fun ps z => by cases z)
theorem KindV.ext {C : Addr} {H H' : Hp} {v : V} {t : Tab} (e : ExtN H H') (h : KindV C H v t) : KindV C H' v t := by
  obtain ⟨a, dx, d, kvs, e1, e2, e3, e4, e5⟩ := h
  exact ⟨a, dx, d, kvs, e1, e _ _ e2 (fun ps z => by cases z), e _ _ e3 (fun ps z => by cases z), e4.mono (tups_extN e), e5⟩
/-- a def of the top whose code object is told -/
structure DfL (K : PySem.W.Frag) (mg : Str → Option Value) (base : Heap) (x : Str) (st : Stmt) (ps : List Str) (c Pt : Addr) : Prop where
  ex : ∃ (f : Addr) (oc : Value) (od : Option Addr) (kV doc pm : Value) (an : Option Addr) (ct : Value) (osl : Array (Option Value)), mg x = some (.ref f) ∧ PySem.W.keepIn K (.ref f) = true ∧
    K.lookup f = some ⟨oc, od, .func (PySem.W.fnOf x x (defArgs st) (defBody st) (defScope st) .none kV doc pm an (.ref c) ct), osl⟩ ∧ PySem.W.codeIn K (.ref c) x = true ∧ Binds K (PySem.W.fnOf x x (defArgs st) (defBody st) (defScope st) .none kV doc pm an (.ref c) ct) ps []
  tb : TabB base mg c Pt
section
variable {P : Program} {w : World} {K : PySem.W.Frag} {mg : Str → Option Value} {base : Heap}
theorem DfL.ok {x : Str} {st : Stmt} {ps N : List Str} {c Pt : Addr} {k : Nat} {sp : Sp} (D : DfL K mg base x st ps c Pt) (S : FnScope N ps (defScope st)) (len : ∀ vs H Q E, sp vs H Q E → vs.length = ps.length)
    (hb : ∀ (f : Addr) (A : Around) (outer : List Env) (s : Shared) (H : Hp) (vs : List V) (Q : VK) (E : XK), Room k (A.deeper (envOfC x (defScope st) s.heap.objs.size f (.ref c))) → sp vs H Q E →
      ∃ t, PSs (cxOf CX0 P w K mg base N x (defScope st) f (.ref c) A outer s H E).nox (defBody st) t ∧ t { nx := fun _ H' => Q .non H', rt := Q } (start N vs) H) : Ok P w K mg base x (k + 1) ps sp := by
  obtain ⟨f, oc, od, kV, doc, pm, an, ct, osl, h1, h2, h3, h4, h5⟩ := D.ex
  refine ⟨f, _, h1, h2, fn_of h3 h4 S len fun A outer s H vs Q E hr h => ?_, h5⟩
  obtain ⟨t, a, b⟩ := hb f A outer s H vs Q E hr h
  exact ⟨t, a.nox, b⟩
end
end Tm
namespace Tm
open PySem PySem.Spec PyProof.Rows L2 TmL LamX NdefX
section
variable {P : Program} {w : World} {K : PySem.W.Frag} {mg : Str → Option Value} {base : Heap} {C : Addr} {l : Addr} {T : List (Addr × Str)} {H0 H : Hp} {σ : L2.St} {D : Ends} {a rest : TS}
theorem lr_block {F : LamF} {r : Nat → Nat → Int × Int} {n s0 : Nat} {v : V} {t : Tab} (g : Good l T H0 H) (h0 : σ[0]? = some (some (.ref l))) (h2 : σ[2]? = some (some v)) (h5 : σ[5]? = some (some (.int (s0 : Int)))) (hk : KindV C H v t) (hs : s0 < n) (hn : n ≤ 10) (st : Steps n t r) (lok : LOk P w K mg base 1 F (sp_rule r))
    (q : ∀ H', Good l T H0 H' → rest D σ H') : tSeq (tIfS (tNot (tB (tCall (sp_lr P w K mg base C) [] E0 (tCons (tVar 2) (tCons (tCall (sp_lrow C) [] E0 (tCons (tVar 0) (tCons (tVar 2) (tCons (tC (.int 15)) tNil)))) (tCons (tVar 5) (tCons (tLamE T F) tNil))))))) a tNext) rest D σ H := by
  refine ⟨_, h2, _, h0, _, h2, l, v, t, 15, rfl, g.vat, hk, by omega, by omega, fun p H1 ws hp k1 hl hin hlen => ?_⟩
  have g1 := g.draw k1
  refine ⟨_, h5, g1.tabs, fun lf H2 e2 t2 hf la => ?_⟩
  have g2 := g1.lam e2 t2
  refine ⟨v, t, p, lf, ws, s0, n, F, r, rfl, (hk.kl g.vat k1).ext e2, e2 _ _ hl (fun ps z => by cases z), hin, hlen, hs, hn, st, la, lok, fun H3 e3 => ⟨_, rfl, ?_⟩⟩
  exact ifF rfl (q _ (g2.same e3))
theorem fr_block {lo hi n : Nat} {tb : Nat → Tab} {v : V} {t : Tab} (g : Good l T H0 H) (h0 : σ[0]? = some (some (.ref l))) (h2 : σ[2]? = some (some v)) (h1 : σ[1]? = some (some (.int (n : Int)))) (hk : KindV C H v t) (pm : t.Perm (tb n)) (hl : lo ≤ n) (hh : n ≤ hi)
    (q : ∀ H', Good l T H0 H' → rest D σ H') : tSeq (tIfS (tNot (tB (tCall (sp_fr C lo hi tb) [] E0 (tCons (tVar 2) (tCons (tCall (sp_lrow C) [] E0 (tCons (tVar 0) (tCons (tVar 2) (tCons (tC (.int 15)) tNil)))) (tCons (tVar 1) tNil)))))) a tNext) rest D σ H := by
  refine ⟨_, h2, _, h0, _, h2, l, v, t, 15, rfl, g.vat, hk, by omega, by omega, fun p H1 ws hp k1 hls hin hlen => ?_⟩
  have g1 := g.draw k1
  refine ⟨_, h1, v, t, p, ws, n, rfl, hk.kl g.vat k1, pm, hls, hin, hlen, hl, hh, fun H3 e3 => ⟨_, rfl, ?_⟩⟩
  exact ifF rfl (q _ (g1.same e3))
theorem made_block {lo hi n : Nat} {tb : Nat → Tab} (g : Good l T H0 H) (h1 : σ[1]? = some (some (.int (n : Int)))) (hl : lo ≤ n) (hh : n ≤ hi)
    (q : ∀ v H' t, Good l T H0 H' → KindV C H' v t → t.Perm (tb n) → rest D (σ.set 2 (some v)) H') : tSeq (tAsg (tCall (sp_made C lo hi tb) [] E0 (tCons (tVar 1) tNil)) (gName 2)) rest D σ H :=
  ⟨_, h1, n, rfl, hl, hh, fun v H1 t e hk pm => q v H1 t (g.same e) hk pm⟩
theorem count_block {c m : Int} (g : Good l T H0 H) (h0 : σ[0]? = some (some (.ref l))) (hm : 0 < m ∧ m < 1000) (hc : 0 ≤ c)
    (q : ∀ (n : Nat) H', c ≤ n → (n : Int) < c + m → Good l T H0 H' → rest D (σ.set 1 (some (.int (n : Int)))) H') : tSeq (tAsg (tOp (rI0 fun i j => .int (i + j)) (tC (.int c)) (tCall sp_draw [] E0 (tCons (tVar 0) (tCons (tC (.int m)) tNil)))) (gName 1)) rest D σ H := by
  refine ⟨_, h0, l, m, rfl, g.vat, hm.1, by omega, fun d H1 d0 d1 k1 => ?_⟩
  refine ⟨_, _, rfl, rfl, ?_⟩
  obtain ⟨n, en⟩ : ∃ n : Nat, c + d = n := ⟨(c + d).toNat, by omega⟩
  show rest D (σ.set 1 (some (.int (c + d)))) H1
  rw [en]
  exact q n H1 (by omega) (by omega) (g.draw k1)
theorem sc_law_right : FnScope ["_law_vat_here", "_law_count", "_law_kind", "_law_names", "_law_turn", "_law_first", "_law_state"] ["_law_vat_here"] (defScope s_right) := ⟨rfl, rfl, rfl, by decide +kernel, rfl, by decide +kernel, by decide +kernel⟩
def sp_right (T : List (Addr × Str)) : Sp := fun vs H Q _ => ∃ l : Addr, vs = [.ref l] ∧ VatV H l ∧ Tabs T H ∧ ∀ H', Good l T H H' → Q (.bl true) H'
theorem qr_is (sc : Scope) (L f : Addr) (cd : Value) : (envOfC "_law_right" sc L f cd).qual ++ ("<lambda>" : Str) = QR := by
  show (("_law_right" : Str) ++ (".<locals>." : Str)) ++ ("<lambda>" : Str) = QR
  decide +kernel
theorem flag_eqv : PyData.eqv (.list [.tuple [.int 1, .int 0], .tuple [.int 1, .int 1]]) (.list [.tuple [.int 1, .int 0], .tuple [.int 1, .int 1]]) = true := by simp [PyData.eqv, PyData.eqvAll]
theorem mod_cast1 (i m : Nat) : (((i + 1) % m : Nat) : Int) = ((i : Int) + 1) % (m : Int) := Int.natCast_emod (i + 1) m
theorem eqv_tup (x y : Int) : PyData.eqv (.tuple [.int x, .int y]) (.tuple [.int x, .int y]) = true := by simp [PyData.eqv, PyData.eqvAll]
theorem ok_right {c Pt : Addr} (B : Bt mg) (Tk : Kc K C) (O_law_draw : Ok P w K mg base "_law_draw" 1 ["_law_vat_here", "_law_total"] sp_draw) (O_law_row : Ok P w K mg base "_law_row" 4 ["_law_vat_here", "_law_kind", "_law_most"] (sp_lrow C))
    (O_cell_kind : Ok P w K mg base "cell_kind" 8 ["many"] (sp_made C 2 6 cellT)) (O_swap_kind : Ok P w K mg base "swap_kind" 8 ["many"] (sp_made C 2 6 swapT)) (O_highest_kind : Ok P w K mg base "highest_kind" 8 ["many"] (sp_made C 2 6 highT)) (O_slot_kind : Ok P w K mg base "slot_kind" 8 ["many"] (sp_made C 1 6 slotT))
    (O_fading_kind : Ok P w K mg base "fading_kind" 8 ["many"] (sp_made C 1 5 fadeT)) (O_queue_kind : Ok P w K mg base "queue_kind" 8 ["many"] (sp_made C 1 2 queueT)) (O_adder_kind : Ok P w K mg base "adder_kind" 8 ["many"] (sp_made C 2 12 adderT)) (O_flag_kind : Ok P w K mg base "flag_kind" 7 [] (sp_flag C))
    (O_law_letters_right : Ok P w K mg base "_law_letters_right" 4 ["_law_kind", "_law_names", "_law_first", "_law_rule"] (sp_lr P w K mg base C)) (O_law_fading_right : Ok P w K mg base "_law_fading_right" 4 ["_law_kind", "_law_names", "_law_count"] (sp_fr C 1 5 fadeT)) (O_law_queue_right : Ok P w K mg base "_law_queue_right" 4 ["_law_kind", "_law_names", "_law_count"] (sp_fr C 1 2 queueT))
    (OM_after : OkM P w K mg base C "after" 3 ["self", "state", "name"] (sp_after C)) (D : DfL K mg base "_law_right" s_right ["_law_vat_here"] c Pt) : Ok P w K mg base "_law_right" 9 ["_law_vat_here"] (sp_right [(Pt, QR)]) := by
  refine D.ok sc_law_right (fun vs H Q E h => ?_) (fun f A outer s H vs Q E hr h => ?_)
  · obtain ⟨l, rfl, _⟩ := h
    rfl
  · obtain ⟨l, rfl, hv, ht, q⟩ := h
    have hu64 : (A.deeper (envOfC "_law_right" (defScope s_right) s.heap.objs.size f (.ref c))).units + 64 < cLine := by
      have := hr.un
      omega
    have hm : (Pt, QR) ∈ [(Pt, QR)] := List.mem_cons_self
    have hu : ∀ p ∈ [(Pt, QR)], p.1 = Pt → p.2 = QR := fun p hp _ => by rw [List.mem_singleton.mp hp]
    refine ⟨_, pss_cons (ps_set (i := 1) sc_law_right.nd rfl (.inl rfl) (pe_op op_add (pe_int) (O_law_draw.call hr (ha := pa_cons (pv 0) (pa_cons (pe_int) (pa_nil))))))
      (pss_cons (ps_par (i := 2) (j := 5) (by rfl) sc_law_right.nd rfl rfl (by decide) rfl rfl (pa_cons (O_cell_kind.call hr (ha := pa_cons (pv 1) (pa_nil))) (pa_cons (O_law_draw.call hr (ha := pa_cons (pv 0) (pa_cons (pv 1) (pa_nil)))) (pa_nil))) (by rfl))
      (pss_cons (ps_if (pt_not (pt_val (O_law_letters_right.call hr (ha := pa_cons (pv 2) (pa_cons (O_law_row.call hr (ha := pa_cons (pv 0) (pa_cons (pv 2) (pa_cons (pe_int) (pa_nil))))) (pa_cons (pv 5) (pa_cons (pe_lam (T := [(Pt, QR)]) (q := QR) D.tb rfl (qr_is _ _ _ _) hm hu rfl (by decide) rfl) (pa_nil))))))))
        (pss_one (ps_ret (pe_bl)))
        (pss_nil))
      (pss_cons (ps_set (i := 2) sc_law_right.nd rfl (.inl rfl) (O_swap_kind.call hr (ha := pa_cons (pv 1) (pa_nil))))
      (pss_cons (ps_if (pt_not (pt_val (O_law_letters_right.call hr (ha := pa_cons (pv 2) (pa_cons (O_law_row.call hr (ha := pa_cons (pv 0) (pa_cons (pv 2) (pa_cons (pe_int) (pa_nil))))) (pa_cons (pv 5) (pa_cons (pe_lam (T := [(Pt, QR)]) (q := QR) D.tb rfl (qr_is _ _ _ _) hm hu rfl (by decide) rfl) (pa_nil))))))))
        (pss_one (ps_ret (pe_bl)))
        (pss_nil))
      (pss_cons (ps_set (i := 2) sc_law_right.nd rfl (.inl rfl) (O_highest_kind.call hr (ha := pa_cons (pv 1) (pa_nil))))
      (pss_cons (ps_if (pt_not (pt_val (O_law_letters_right.call hr (ha := pa_cons (pv 2) (pa_cons (O_law_row.call hr (ha := pa_cons (pv 0) (pa_cons (pv 2) (pa_cons (pe_int) (pa_nil))))) (pa_cons (pv 5) (pa_cons (pe_lam (T := [(Pt, QR)]) (q := QR) D.tb rfl (qr_is _ _ _ _) hm hu rfl (by decide) rfl) (pa_nil))))))))
        (pss_one (ps_ret (pe_bl)))
        (pss_nil))
      (pss_cons (ps_set (i := 2) sc_law_right.nd rfl (.inl rfl) (O_slot_kind.call hr (ha := pa_cons (pv 1) (pa_nil))))
      (pss_cons (ps_set (i := 3) sc_law_right.nd rfl (.inl rfl) (O_law_row.call hr (ha := pa_cons (pv 0) (pa_cons (pv 2) (pa_cons (pe_int) (pa_nil))))))
      (pss_cons (ps_if (pt_not (pt_val (O_law_letters_right.call hr (ha := pa_cons (pv 2) (pa_cons (pv 3) (pa_cons (pe_int) (pa_cons (pe_lam (T := [(Pt, QR)]) (q := QR) D.tb rfl (qr_is _ _ _ _) hm hu rfl (by decide) rfl) (pa_nil))))))))
        (pss_one (ps_ret (pe_bl)))
        (pss_nil))
      (pss_cons (ps_set (i := 1) sc_law_right.nd rfl (.inl rfl) (pe_op op_add (pe_int) (O_law_draw.call hr (ha := pa_cons (pv 0) (pa_cons (pe_int) (pa_nil))))))
      (pss_cons (ps_set (i := 2) sc_law_right.nd rfl (.inl rfl) (O_fading_kind.call hr (ha := pa_cons (pv 1) (pa_nil))))
      (pss_cons (ps_if (pt_not (pt_val (O_law_fading_right.call hr (ha := pa_cons (pv 2) (pa_cons (O_law_row.call hr (ha := pa_cons (pv 0) (pa_cons (pv 2) (pa_cons (pe_int) (pa_nil))))) (pa_cons (pv 1) (pa_nil)))))))
        (pss_one (ps_ret (pe_bl)))
        (pss_nil))
      (pss_cons (ps_set (i := 1) sc_law_right.nd rfl (.inl rfl) (pe_op op_add (pe_int) (O_law_draw.call hr (ha := pa_cons (pv 0) (pa_cons (pe_int) (pa_nil))))))
      (pss_cons (ps_set (i := 2) sc_law_right.nd rfl (.inl rfl) (O_queue_kind.call hr (ha := pa_cons (pv 1) (pa_nil))))
      (pss_cons (ps_if (pt_not (pt_val (O_law_queue_right.call hr (ha := pa_cons (pv 2) (pa_cons (O_law_row.call hr (ha := pa_cons (pv 0) (pa_cons (pv 2) (pa_cons (pe_int) (pa_nil))))) (pa_cons (pv 1) (pa_nil)))))))
        (pss_one (ps_ret (pe_bl)))
        (pss_nil))
      (pss_cons (ps_par (i := 1) (j := 6) (by rfl) sc_law_right.nd rfl rfl (by decide) rfl rfl (pa_cons (pe_op op_add (pe_int) (O_law_draw.call hr (ha := pa_cons (pv 0) (pa_cons (pe_int) (pa_nil))))) (pa_cons (pe_int) (pa_nil))) (by rfl))
      (pss_cons (ps_for PassesOwn.never rfl (pi_range1 (by rfl) B.range (pa_cons (O_law_draw.call hr (ha := pa_cons (pv 0) (pa_cons (pe_int) (pa_nil)))) (pa_nil))) (pg_name (i := 4) sc_law_right.nd rfl (.inl rfl))
        (pss_cons (ps_if (pt_cmpR (op_neD hu64) (OM_after.call hr Tk.cl (he := O_adder_kind.call hr (ha := pa_cons (pv 1) (pa_nil))) (ha := pa_cons (pv 6) (pa_cons (pe_str) (pa_nil)))) (pe_tup (pa_cons (pe_op op_mod (pe_op op_add (pv 4) (pe_int)) (pv 1)) (pa_cons (pe_op op_mod (pv 4) (pv 1)) (pa_nil)))) (nomark _))
        (pss_one (ps_ret (pe_bl)))
        (pss_nil))
      (pss_one (ps_set (i := 6) sc_law_right.nd rfl (.inl rfl) (pe_op op_mod (pe_op op_add (pv 4) (pe_int)) (pv 1))))))
      (pss_one (ps_ret (pe_cmpR (op_eqD hu64) (pe_lc (own := [("_law_state", 6)]) (g := gName 6) (tt := tYes) rfl sc_law_right.nd (pi_tup (pe_tup (pa_cons (pe_int) (pa_cons (pe_int) (pa_nil))))) (blkOk_by (own := [("_law_state", 6)]) (N := ["_law_vat_here", "_law_count", "_law_kind", "_law_names", "_law_turn", "_law_first", "_law_state"]) (sc := defScope s_right) (by decide +kernel)) (fun _ _ _ _ _ => pg_name (i := 6) sc_law_right.nd rfl (.inl rfl)) (fun _ _ _ _ _ => pts_nil) (fun _ _ _ _ _ => OM_after.call hr Tk.cl (he := O_flag_kind.call0 hr) (ha := pa_cons (pv 6) (pa_cons (pe_str) (pa_nil))))) (pe_lst (pa_cons (pe_tup (pa_cons (pe_int) (pa_cons (pe_int) (pa_nil)))) (pa_cons (pe_tup (pa_cons (pe_int) (pa_cons (pe_int) (pa_nil)))) (pa_nil)))) (nomark _))))))))))))))))))))), ?_⟩
    have g0 := Good.start hv ht
    refine count_block (l := l) (T := [(Pt, QR)]) (H0 := H) g0 rfl ⟨by decide, by decide⟩ (by decide) fun n H1 n2 n6 g1 => ?_
    refine ⟨_, rfl, n, rfl, by omega, by omega, fun v1 H2 t1 e2 hk2 pm2 => ?_⟩
    have g2 := g1.same e2
    refine ⟨_, rfl, _, rfl, l, _, rfl, g2.vat, by omega, by omega, fun s0 H3 s00 s01 k3 => ⟨_, _, rfl, ?_⟩⟩
    have g3 := g2.draw k3
    obtain ⟨s1, rfl⟩ := Int.eq_ofNat_of_zero_le s00
    dsimp only
    refine lr_block (F := lamOf 2) (r := r_cell) (n := n) (s0 := s1) (H0 := H) (l := l) g3 rfl rfl rfl (hk2.kl g2.vat k3) (by omega) (by omega) (steps_of pm2 (st_cell n (by omega) (by omega))) lok_cell fun H4 g4 => ?_
    refine made_block (H0 := H) (l := l) (n := n) g4 rfl (by omega) (by omega) fun v5 H5 t5 g5 hk5 pm5 => ?_
    refine lr_block (F := lamOf 4) (r := r_swap) (n := n) (s0 := s1) (H0 := H) (l := l) g5 rfl rfl rfl hk5 (by omega) (by omega) (steps_of pm5 (st_swap n (by omega) (by omega))) lok_swap fun H6 g6 => ?_
    refine made_block (H0 := H) (l := l) (n := n) g6 rfl (by omega) (by omega) fun v7 H7 t7 g7 hk7 pm7 => ?_
    refine lr_block (F := lamOf 6) (r := r_high) (n := n) (s0 := s1) (H0 := H) (l := l) g7 rfl rfl rfl hk7 (by omega) (by omega) (steps_of pm7 (st_high n (by omega) (by omega))) (lok_high B) fun H8 g8 => ?_
    refine made_block (H0 := H) (l := l) (n := n) g8 rfl (by omega) (by omega) fun v9 H9 t9 g9 hk9 pm9 => ?_
    refine ⟨_, rfl, _, rfl, l, v9, t9, 15, rfl, g9.vat, hk9, by omega, by omega, fun p HA ws hp kA hlA hinA hlenA => ?_⟩
    have gA := g9.draw kA
    dsimp only [gName]
    refine EvS.go (t := tIfS _ _ _) (P := fun σ' HC => σ' = [some (.ref l), some (.int (n : Int)), some v9, some (.ref p), none, some (.int (s1 : Int)), none] ∧ Good l [(Pt, QR)] H HC) (fun D' q' => ?_) fun σ' HC hC => ?_
    · refine ⟨_, rfl, _, rfl, gA.tabs, fun lf HB eB tB' hfB laB => ?_⟩
      refine ⟨v9, t9, p, lf, ws, 0, n + 1, lamOf 9, r_slot, rfl, (hk9.kl g9.vat kA).ext eB, eB _ _ hlA (fun ps z => by cases z), hinA, hlenA, by omega, by omega, steps_of pm9 (st_slot n (by omega) (by omega)), laB, lok_slot, fun HC eC => ⟨_, rfl, ?_⟩⟩
      refine ifF rfl (q' _ _ ⟨rfl, (gA.lam eB tB').same eC⟩)
    obtain ⟨rfl, gC⟩ := hC
    dsimp only
    refine count_block (l := l) (T := [(Pt, QR)]) (H0 := H) gC rfl ⟨by decide, by decide⟩ (by decide) fun n2 HD nl nh gD => ?_
    refine made_block (H0 := H) (l := l) (n := n2) gD rfl (by omega) (by omega) fun vE HE tE gE hkE pmE => ?_
    refine fr_block (H0 := H) (l := l) (n := n2) gE rfl rfl rfl hkE pmE (by omega) (by omega) fun HF gF => ?_
    refine count_block (l := l) (T := [(Pt, QR)]) (H0 := H) gF rfl ⟨by decide, by decide⟩ (by decide) fun n3 HG nl3 nh3 gG => ?_
    refine made_block (H0 := H) (l := l) (n := n3) gG rfl (by omega) (by omega) fun vI HI tI gI hkI pmI => ?_
    refine fr_block (H0 := H) (l := l) (n := n3) gI rfl rfl rfl hkI pmI (by omega) (by omega) fun HJ gJ => ?_
    refine ⟨_, rfl, l, _, rfl, gJ.vat, by decide, by decide, fun dd HK dd0 dd1 kK => ?_⟩
    refine ⟨_, _, rfl, rfl, _, _, rfl, ?_⟩
    have gK := gJ.draw kK
    obtain ⟨m, em⟩ : ∃ m : Nat, (2 : Int) + dd = m := ⟨(2 + dd).toNat, by omega⟩
    dsimp only
    rw [em]
    refine ⟨_, rfl, l, _, rfl, gK.vat, by decide, by decide, fun de HL de0 de1 kL => ?_⟩
    have gL := gK.draw kL
    refine ⟨de, rfl, by omega, by omega, ?_⟩
    refine for_range (lo := 0) (fun i σ' H' => ∃ o2 o3 o4 o5 : Option V, σ' = [some (.ref l), some (.int (m : Int)), o2, o3, o4, o5, some (.int (((i % m : Nat)) : Int))] ∧ Good l [(Pt, QR)] H H')
      ⟨_, _, _, _, rfl, gL⟩ (fun i σ' H' hi p => ?_) (fun σ' H' p => ?_)
    · obtain ⟨o2, o3, o4, o5, rfl, g'⟩ := p
      have hm0 : 0 < m := by omega
      have hlt : i % m < m := Nat.mod_lt _ hm0
      have hlift : ((((i % m : Nat) : Int) + 1) % (m : Int)) = ((((i + 1) % m : Nat)) : Int) := by
        rw [← Nat.mod_add_mod i m 1]
        exact (mod_cast1 (i % m) m).symm
      have hli : ((0 : Int) + (i : Int) + 1) % (m : Int) = ((((i + 1) % m : Nat)) : Int) := by
        rw [Int.zero_add]
        exact (mod_cast1 i m).symm
      have hmi : ((0 : Int) + (i : Int)) % (m : Int) = (((i % m : Nat)) : Int) := by
        rw [Int.zero_add]
        exact (Int.natCast_emod i m).symm
      refine ⟨_, rfl, m, rfl, by omega, by omega, fun va H1 ta e1 hka pma => ?_⟩
      obtain ⟨aa, dx, d, kvs, ev, hva, _⟩ := id hka
      subst ev
      have hin : (("add" : Str), (List.range m).map fun (s : Nat) => (((s : Int) + 1) % (m : Int), (s : Int))) ∈ ta := pma.mem_iff.mpr List.mem_cons_self
      refine ⟨aa, dx, _, rfl, hva, kf_no _ _, _, rfl, _, ta, i % m, "add", _, _, rfl, hka, hin, by rw [List.getElem?_map, List.getElem?_range hlt]; rfl, fun u hu => ?_⟩
      obtain ⟨pa, rfl, hpa⟩ := hu
      refine ⟨_, rfl, _, _, rfl, rfl, _, rfl, _, _, rfl, rfl, by show (0 : Int) < m; omega, ?_⟩
      refine ⟨_, rfl, _, rfl, _, _, rfl, rfl, by show (0 : Int) < m; omega, by show 2 ≤ sizeLine; decide, fun pb hpb => ?_⟩
      have hna : pa ≠ pb := fun z => by
        rw [← z, hpa] at hpb
        cases hpb
      refine ⟨.tuple [.int _, .int _], .tuple [.int _, .int _], .tup (SqT.of (by rw [upd_ne hna]; exact hpa)) (.cons (.int _) (.cons (.int _) .nil)), .tup (SqT.of upd_same) (.cons (.int _) (.cons (.int _) .nil)), rfl, rfl, ?_⟩
      dsimp only
      rw [hlift, hli, hmi, eqv_tup]
      refine ⟨_, rfl, ?_⟩
      refine ifF rfl ?_
      refine ⟨_, rfl, _, _, rfl, rfl, _, rfl, _, _, rfl, rfl, by show (0 : Int) < m; omega, ?_⟩
      refine ⟨o2, o3, some (.int ((0 : Int) + (i : Int))), o5, ?_, (g'.same e1).same (same_new hpb)⟩
      dsimp only
      rw [hli]
      rfl
    · obtain ⟨o2, o3, o4, o5, rfl, g'⟩ := p
      dsimp only [tRet, tOp]
      refine lc_runT (K := K) (xs := [V.int 0, V.int 1]) (fun Q q => ⟨by show 2 ≤ sizeLine; decide, fun p1 hp1 => q _ _ (same_new hp1) ⟨p1, rfl, SqT.of upd_same⟩⟩) ([0, 1] : List Nat) rfl (fun _ => true) (fun z v H => PairV H v (1, (z : Int))) (by decide) (by intro _; rfl) (fun z v H H' e h => h.mono e)
        (fun i z x H1 hi hx e => ⟨evt_yes, fun _ H2 e2 Q q => ?_⟩) (fun pl H1 ys hpl e hl hP => ?_)
      · have hz : z < 2 ∧ x = .int (z : Int) := by
          match i, hi, hx with
          | 0, hi, hx =>
            have a1 : 0 = z := Option.some.inj hi
            have a2 : V.int 0 = x := Option.some.inj hx
            subst a1 a2
            exact ⟨by omega, rfl⟩
          | 1, hi, hx =>
            have a1 : 1 = z := Option.some.inj hi
            have a2 : V.int 1 = x := Option.some.inj hx
            subst a1 a2
            exact ⟨by omega, rfl⟩
          | i + 2, hi, hx => simp at hi
        obtain ⟨hz, rfl⟩ := hz
        refine ⟨rfl, fun vf H3 tf e3 hkf pmf => ?_⟩
        obtain ⟨aa, dx, d, kvs, ev, hva, _⟩ := id hkf
        subst ev
        have hin : (("set" : Str), ([(1, 0), (1, 1)] : Row)) ∈ tf := pmf.mem_iff.mpr List.mem_cons_self
        have hrow : ([(1, 0), (1, 1)] : Row)[z]? = some (1, (z : Int)) := by
          have : z = 0 ∨ z = 1 := by omega
          rcases this with y | y <;> subst y <;> rfl
        exact ⟨aa, dx, _, rfl, hva, kf_no _ _, _, rfl, _, tf, z, "set", _, _, rfl, hkf, hin, hrow, fun u hu => q _ _ e3 hu⟩
      · rw [filter_all] at hP
        obtain ⟨y0, y1, rfl, hy0, hy1⟩ : ∃ y0 y1, ys = [y0, y1] ∧ PairV H1 y0 (1, ((0 : Nat) : Int)) ∧ PairV H1 y1 (1, ((1 : Nat) : Int)) := by
          cases hP with
          | cons h0 hr =>
            cases hr with
            | cons h1 hr2 =>
              cases hr2
              exact ⟨_, _, rfl, h0, h1⟩
        obtain ⟨b0, rfl, hb0⟩ := hy0
        obtain ⟨b1, rfl, hb1⟩ := hy1
        refine ⟨by show 2 ≤ sizeLine; decide, fun pa hpa => ⟨by show 2 ≤ sizeLine; decide, fun pb hpb => ?_⟩⟩
        refine ⟨by show 2 ≤ sizeLine; decide, fun pc hpc => ?_⟩
        have eA : Same H1 (upd H1 pa (.tup [V.int 1, V.int 0])) := same_new hpa
        generalize hHA : upd H1 pa (.tup [V.int 1, V.int 0]) = HA2 at *
        have hA : HA2 pa = some (.tup [V.int 1, V.int 0]) := by rw [← hHA, upd_same]
        have eB : Same HA2 (upd HA2 pb (.tup [V.int 1, V.int 1])) := same_new hpb
        generalize hHB : upd HA2 pb (.tup [V.int 1, V.int 1]) = HB2 at *
        have hB : HB2 pb = some (.tup [V.int 1, V.int 1]) := by rw [← hHB, upd_same]
        have eC : Same HB2 (upd HB2 pc (.lst [V.ref pa, V.ref pb])) := same_new hpc
        generalize hHC : upd HB2 pc (.lst [V.ref pa, V.ref pb]) = HC2 at *
        have hC : HC2 pc = some (.lst [V.ref pa, V.ref pb]) := by rw [← hHC, upd_same]
        have eAC := eA.trans (eB.trans eC)
        refine ⟨.list [.tuple [.int 1, .int 0], .tuple [.int 1, .int 1]], .list [.tuple [.int 1, .int 0], .tuple [.int 1, .int 1]],
          .lst (SqL.of (eAC _ _ hl)) (.cons (.tup (SqT.of (eAC _ _ hb0)) (.cons (.int _) (.cons (.int _) .nil))) (.cons (.tup (SqT.of (eAC _ _ hb1)) (.cons (.int _) (.cons (.int _) .nil))) .nil)),
          .lst (SqL.of hC) (.cons (.tup (SqT.of (eC _ _ (eB _ _ hA))) (.cons (.int _) (.cons (.int _) .nil))) (.cons (.tup (SqT.of (eC _ _ hB)) (.cons (.int _) (.cons (.int _) .nil))) .nil)), rfl, rfl, ?_⟩
        rw [flag_eqv]
        exact q _ ((g'.same e).same eAC)
end
end Tm
namespace Tm
open PySem PySem.Spec PyProof.Rows L2 TmL LamX NdefX
section
variable {P : Program} {w : World} {K : PySem.W.Frag} {mg : Str → Option Value} {base : Heap} {C : Addr}
abbrev s_law : Stmt := top 43
theorem sc_law : FnScope ["_law_script", "_law_at", "_law_vat_here", "_law_turn"] ["_law_script"] (defScope s_law) := ⟨rfl, rfl, rfl, by decide +kernel, rfl, by decide +kernel, by decide +kernel⟩
def sp_law (K : PySem.W.Frag) (T : List (Addr × Str)) : Sp := fun vs H Q _ => ∃ (a : Addr) (xs : List Int), vs = [.ref a] ∧ SqL K H a (xs.map V.int) ∧ xs.length ≤ 63 ∧ Tabs T H ∧ ∀ H', Q (.bl true) H'
theorem sq_good {l a : Addr} {T : List (Addr × Str)} {H H1 H2 : Hp} {xs : List V} (h : SqL K H a xs) (hl : H l = none) (e : Same H H1) (g : Good l T H1 H2) : SqL K H2 a xs := by
  rcases h with (h | ⟨o, h⟩) | h
  · exact .inl (.inl (g.kx _ _ (e _ _ h) (fun z => by rw [z, hl] at h; cases h) (fun ps z => by cases z)))
  · exact .inl (.inr ⟨o, g.kx _ _ (e _ _ h) (fun z => by rw [z, hl] at h; cases h) (fun ps z => by cases z)⟩)
  · exact .inr h
theorem fn_law {f : Addr} {fd : FuncData} {T : List (Addr × Str)} (B : Bt mg) (O_law_vat : Ok P w K mg base "_law_vat" 1 ["_law_script", "_law_at"] (sp_vat K)) (O_law_right : Ok P w K mg base "_law_right" 9 ["_law_vat_here"] (sp_right T)) (F : Fun K "law" "law" s_law f fd) :
    FnOk P w K mg base CX0 10 f fd ["_law_script"] (sp_law K T) := by
  refine F.ok sc_law (fun vs H Q E h => ?_) (fun cdv A outer s H vs Q E hr h => ?_)
  · obtain ⟨a, xs, rfl, _⟩ := h
    rfl
  · obtain ⟨a, xs, rfl, hs, hlen, ht, q⟩ := h
    refine ⟨_, pss_cons (ps_for PassesOwn.never rfl (pi_range1 (by rfl) B.range (pa_cons (pe_callB (call_max2 rfl) (by rfl) B.max (by decide +kernel) (pa_cons (pe_int) (pa_cons (pe_callB (call_min2 rfl) (by rfl) B.min (by decide +kernel) (pa_cons (pe_int) (pa_cons (pe_callB (lenK (K := K)) (by rfl) B.len (by decide +kernel) (pa_cons (pv 0) (pa_nil))) (pa_nil)))) (pa_nil)))) (pa_nil))) (pg_name (i := 1) sc_law.nd rfl (.inl rfl))
        (pss_cons (ps_set (i := 2) sc_law.nd rfl (.inl rfl) (O_law_vat.call hr (ha := pa_cons (pv 0) (pa_cons (pv 1) (pa_nil)))))
      (pss_one (ps_for PassesOwn.never rfl (pi_range1 (by rfl) B.range (pa_cons (pe_int) (pa_nil))) (pg_name (i := 3) sc_law.nd rfl (.inl rfl))
        (pss_one (ps_if (pt_not (pt_val (O_law_right.call hr (ha := pa_cons (pv 2) (pa_nil)))))
        (pss_one (ps_ret (pe_bl)))
        (pss_nil)))))))
      (pss_one (ps_ret (pe_bl))), ?_⟩
    refine ⟨_, rfl, a, _, rfl, .inl hs, _, _, rfl, _, _, rfl, ?_⟩
    rw [List.length_map]
    obtain ⟨m, hm, hm5⟩ : ∃ m : Nat, (if (if (xs.length : Int) < 5 then (xs.length : Int) else 5) > 1 then (if (xs.length : Int) < 5 then (xs.length : Int) else 5) else 1) = (m : Int) ∧ m ≤ 5 := by
      refine ⟨(if (if (xs.length : Int) < 5 then (xs.length : Int) else 5) > 1 then (if (xs.length : Int) < 5 then (xs.length : Int) else 5) else 1).toNat, ?_, ?_⟩
      · repeat' split
        all_goals omega
      · repeat' split
        all_goals omega
    refine ⟨_, rfl, ?_⟩
    rw [hm]
    refine ⟨by omega, by omega, ?_⟩
    refine for_range (lo := 0) (fun i σ' H' => ∃ o1 o2 o3 : Option V, σ' = [some (.ref a), o1, o2, o3] ∧ SqL K H' a (xs.map V.int) ∧ Tabs T H') ⟨none, none, none, rfl, hs, ht⟩ (fun i σ' H' hi p => ?_) (fun σ' H' p => ?_)
    · obtain ⟨o1, o2, o3, rfl, hs', ht'⟩ := p
      refine ⟨_, rfl, _, rfl, a, xs, i, ?_, hs', by omega, fun l x y z hl => ?_⟩
      · show [V.ref a, V.int ((0 : Int) + (i : Int))] = _
        rw [Int.zero_add]
      · have e1 : Same H' (upd H' l (.lst [.int x, .int y, .int z])) := same_new hl
        have g1 : Good l T (upd H' l (.lst [.int x, .int y, .int z])) (upd H' l (.lst [.int x, .int y, .int z])) := Good.start ⟨x, y, z, upd_same⟩ (ht'.ext e1)
        generalize hH1 : upd H' l (.lst [.int x, .int y, .int z]) = H1 at e1 g1
        refine ⟨4, rfl, by omega, by omega, ?_⟩
        refine for_range (lo := 0) (fun j σ2 H2 => ∃ o1 o3 : Option V, σ2 = [some (.ref a), o1, some (.ref l), o3] ∧ Good l T H1 H2) ⟨_, _, rfl, g1⟩ (fun j σ2 H2 hj p => ?_) (fun σ2 H2 p => ?_)
        · obtain ⟨o1, o3, rfl, g⟩ := p
          refine ⟨_, rfl, l, rfl, g.vat, g.tabs, fun H3 g3 => ⟨_, rfl, ?_⟩⟩
          refine ifF rfl ⟨_, _, rfl, ⟨fun b o h n1 n2 => g3.kx b o (g.kx b o h n1 n2) n1 n2, g3.vat, g3.tabs⟩⟩
        · obtain ⟨o1, o3, rfl, g⟩ := p
          exact ⟨_, _, _, rfl, sq_good hs' hl e1 g, g.tabs⟩
    · exact q H'
end
end Tm
/-! What the top leaves: defs found by any path, facts, the tables of code objects. -/
namespace TmH
open PySem PySem.Spec PyProof.Rows L2 LamX He Tm
structure AD where
  ad : PySem.W.Frag → Addr
  name : Str
  qual : Str
  st : Stmt
def fnA (K : PySem.W.Frag) (a : Addr) : FnV := match K.lookup a with
  | some ⟨_, _, .func fd, _⟩ => some (fd.name, fd.qualname, fd.params, fd.body, fd.scope, fd.globals, fd.closure, fd.defaults, fd.builtins)
  | _ => none
def AD.val (d : AD) : FnV := some (d.name, d.qual, defArgs d.st, .stmts (defBody d.st), defScope d.st, mainGlobals, [], .none, builtinsNs)
def AD.ok (K : PySem.W.Frag) (d : AD) : Bool := PySem.W.keepIn K (.ref (d.ad K)) && (match K.lookup (d.ad K) with
  | some ⟨_, _, .func fd, _⟩ => PySem.W.codeIn K fd.code d.qual
  | _ => false)
structure FunA (K : PySem.W.Frag) (d : AD) : Prop where
  ex : ∃ (oc : Value) (od : Option Addr) (kV doc pm : Value) (an : Option Addr) (cdv ct : Value) (osl : Array (Option Value)),
    K.lookup (d.ad K) = some ⟨oc, od, .func (PySem.W.fnOf d.name d.qual (defArgs d.st) (defBody d.st) (defScope d.st) .none kV doc pm an cdv ct), osl⟩ ∧ PySem.W.codeIn K cdv d.qual = true
  kp : PySem.W.keepIn K (.ref (d.ad K)) = true
theorem AD.funA {K : PySem.W.Frag} {d : AD} (e : fnA K (d.ad K) = d.val) (c : d.ok K = true) : FunA K d := by
  obtain ⟨kp, c2⟩ := ba c
  refine ⟨?_, kp⟩
  unfold fnA at e
  cases q : K.lookup (d.ad K) with
  | none =>
    rw [q] at c2
    cases c2
  | some o =>
    obtain ⟨oc, od, dt, osl⟩ := o
    rw [q] at c2 e
    cases dt with
    | func fd =>
      obtain ⟨n1, n2, n3, n4, n5, n6, n7, n8, n9, n10, n11, n12, n13, n14, n15⟩ := fd
      have e2 : (some (n1, n2, n3, n4, n5, n6, n7, n8, n15) : FnV) = some (d.name, d.qual, defArgs d.st, .stmts (defBody d.st), defScope d.st, mainGlobals, [], .none, builtinsNs) := e
      simp only [Option.some.injEq, Prod.mk.injEq] at e2
      obtain ⟨h1, h2, h3, h4, h5, h6, h7, h8, h9⟩ := e2
      subst h1 h2 h3 h4 h5 h6 h7 h8 h9
      exact ⟨oc, od, n9, n10, n11, n12, n13, n14, osl, rfl, c2⟩
    | _ => cases c2
theorem FunA.fun_ {K : PySem.W.Frag} {d : AD} (F : FunA K d) : ∃ fd, Fun K d.name d.qual d.st (d.ad K) fd := by
  obtain ⟨oc, od, kV, doc, pm, an, cdv, ct, osl, l, c⟩ := F.ex
  exact ⟨_, fun_mk l c F.kp⟩
/-! ### the hook -/
abbrev AlY : Type := Bool × List FnV
def obsK (fa : List Fa) (ds : List AD) (ex : PySem.W.Frag → Bool) (K : PySem.W.Frag) : AlY := ((fa.all fun f => f.ok K) && ((ds.all fun d => d.ok K) && ex K), ds.map fun d => fnA K (d.ad K))
def valY (ds : List AD) : AlY := (true, ds.map AD.val)
def obsY (n : Nat) (fa : List Fa) (ds : List AD) (tf : List Defn) (ex : PySem.W.Frag → Bool) (g : Addr → Option Obj) : AlY × Bool := (obsK fa ds ex (frT g (asD g n)), tabsB g tf (frT g (asD g n)))
structure SaysY (fa : List Fa) (ds : List AD) (tf : List Defn) (ex : PySem.W.Frag → Bool) (h : Heap) (K : PySem.W.Frag) : Prop where
  k : obsK fa ds ex K = valY ds
  hd : ∀ p ∈ tf, PySem.W.codeHdIn K (cT K p).1 (cT K p).2 = true
  out : ∀ p ∈ tf, K.lookup (cT K p).2 = none
  empty : ∀ p ∈ tf, h.get? (cT K p).2 = some { cls := .none, data := .fields #[] }
theorem saysY_of {n : Nat} {fa : List Fa} {ds : List AD} {tf : List Defn} {ex : PySem.W.Frag → Bool} {h : Heap} (e : obsY n fa ds tf ex h.get? = (valY ds, true)) : SaysY fa ds tf ex h (frT h.get? (asD h.get? n)) := by
  have e1 : obsK fa ds ex (frT h.get? (asD h.get? n)) = valY ds := congrArg (fun z : AlY × Bool => z.1) e
  have e2 : tabsB h.get? tf (frT h.get? (asD h.get? n)) = true := congrArg (fun z : AlY × Bool => z.2) e
  have one : ∀ p ∈ tf, PySem.W.codeHdIn (frT h.get? (asD h.get? n)) (cT (frT h.get? (asD h.get? n)) p).1 (cT (frT h.get? (asD h.get? n)) p).2 = true ∧ ∃ o, h.get? (cT (frT h.get? (asD h.get? n)) p).2 = some o ∧ emptyTab o = true := fun p hp => by
    obtain ⟨a1, a2⟩ := ba (List.all_eq_true.mp e2 p hp)
    refine ⟨a1, ?_⟩
    cases q : h.get? (cT (frT h.get? (asD h.get? n)) p).2 with
    | none =>
      rw [q] at a2
      cases a2
    | some o =>
      rw [q] at a2
      exact ⟨o, rfl, a2⟩
  refine ⟨e1, fun p hp => (one p hp).1, fun p hp => ?_, fun p hp => ?_⟩
  · obtain ⟨_, o, q, z⟩ := one p hp
    exact frT_none q z
  · obtain ⟨_, o, q, z⟩ := one p hp
    rw [q, emptyTab_eq z]
def hookY (n : Nat) (fa : List Fa) (ds : List AD) (tf : List Defn) (ex : PySem.W.Frag → Bool) : PySem.W.Hook where
  α := AlY × Bool
  obs := fun s => obsY n fa ds tf ex s.heap.get?
  val := fun _ => (valY ds, true)
  says := fun _ h => ∃ K : PySem.W.Frag, K.In h ∧ SaysY fa ds tf ex h K
  of := fun _ _ e => ⟨_, frT_in, saysY_of e⟩
  keeps := fun _ _ _ ⟨K, hK, c⟩ k => ⟨K, PySem.W.Frag.In.keeps hK k, ⟨c.k, c.hd, c.out, fun p hp => k _ _ (c.empty p hp)⟩⟩
theorem obsY_eq {n : Nat} {fa : List Fa} {ds : List AD} {tf : List Defn} {ex : PySem.W.Frag → Bool} {g : Addr → Option Obj} {s : Shared} (h : ∀ a, g a = s.heap.get? a) : obsY n fa ds tf ex g = (hookY n fa ds tf ex).obs s := by
  have e : g = s.heap.get? := funext h
  rw [e] <;> rfl
section
variable {fa : List Fa} {ds : List AD} {tf : List Defn} {ex : PySem.W.Frag → Bool} {h : Heap} {K : PySem.W.Frag}
theorem SaysY.fact (c : SaysY fa ds tf ex h K) {f : Fa} (hf : f ∈ fa) : f.ok K = true := by
  have c1 := (ba (show ((fa.all fun f => f.ok K) && ((ds.all fun d => d.ok K) && ex K)) = true from congrArg (fun z : AlY => z.1) c.k)).1
  exact List.all_eq_true.mp c1 f hf
theorem SaysY.more (c : SaysY fa ds tf ex h K) : ex K = true :=
  (ba (ba (show ((fa.all fun f => f.ok K) && ((ds.all fun d => d.ok K) && ex K)) = true from congrArg (fun z : AlY => z.1) c.k)).2).2
theorem SaysY.def_ (c : SaysY fa ds tf ex h K) (i : Nat) {d : AD} (hi : ds[i]? = some d) : FunA K d := by
  have c2 := (ba (ba (show ((fa.all fun f => f.ok K) && ((ds.all fun d => d.ok K) && ex K)) = true from congrArg (fun z : AlY => z.1) c.k)).2).1
  have e : ds.map (fun d => fnA K (d.ad K)) = ds.map AD.val := congrArg (fun z : AlY => z.2) c.k
  have e2 : (ds.map fun d => fnA K (d.ad K))[i]? = (ds.map AD.val)[i]? := by rw [e]
  rw [List.getElem?_map, List.getElem?_map, hi] at e2
  exact AD.funA (Option.some.inj e2) (List.all_eq_true.mp c2 d (List.mem_of_getElem? hi))
end
end TmH
set_option maxHeartbeats 0
namespace TmH
open PySem PySem.Spec PyProof.Rows L2 LamX He Tm
def getP (K : PySem.W.Frag) : Addr := match PySem.W.recIn K (ma K (ga K "Kind") "names") "property" with
  | some (.ref g :: _) => g
  | _ => 0
def exP (K : PySem.W.Frag) : Bool := eqO (PySem.W.findIn K (.ref (ga K "Kind")) "names") (some (some (.ref (ma K (ga K "Kind") "names")))) && (eqO (PySem.W.specialIn K (.ref (ma K (ga K "Kind") "names")) "__get__") (some (some (.builtin "property.__get__"))) &&
  (decide (PySem.W.takesIn K (.ref (ma K (ga K "Kind") "names")) = some true) && ((match PySem.W.recIn K (ma K (ga K "Kind") "names") "property" with
    | some (.ref _ :: _) => true
    | _ => false) && tupB K "QUEUE_WORDS" [.str "", .str "a", .str "b", .str "aa", .str "ab", .str "ba", .str "bb"])))
def ds : List AD := [
  ⟨fun K => ga K "is_number_in", "is_number_in", "is_number_in", top 7⟩,
  ⟨fun K => ga K "need_number", "need_number", "need_number", top 8⟩,
  ⟨fun K => ga K "is_name", "is_name", "is_name", top 15⟩,
  ⟨fun K => ga K "_is_pair", "_is_pair", "_is_pair", top 16⟩,
  ⟨fun K => ga K "_is_row", "_is_row", "_is_row", top 17⟩,
  ⟨fun K => ga K "_is_table", "_is_table", "_is_table", top 18⟩,
  ⟨fun K => ga K "_lettered", "_lettered", "_lettered", top 23⟩,
  ⟨fun K => ga K "cell_kind", "cell_kind", "cell_kind", top 24⟩,
  ⟨fun K => ga K "flag_kind", "flag_kind", "flag_kind", top 25⟩,
  ⟨fun K => ga K "adder_kind", "adder_kind", "adder_kind", top 26⟩,
  ⟨fun K => ga K "swap_kind", "swap_kind", "swap_kind", top 27⟩,
  ⟨fun K => ga K "slot_kind", "slot_kind", "slot_kind", top 28⟩,
  ⟨fun K => ga K "fading_kind", "fading_kind", "fading_kind", top 29⟩,
  ⟨fun K => ga K "_faded", "_faded", "_faded", top 30⟩,
  ⟨fun K => ga K "queue_kind", "queue_kind", "queue_kind", top 31⟩,
  ⟨fun K => ga K "_join_row", "_join_row", "_join_row", top 32⟩,
  ⟨fun K => ga K "highest_kind", "highest_kind", "highest_kind", top 33⟩,
  ⟨fun K => ga K "_law_vat", "_law_vat", "_law_vat", top 35⟩,
  ⟨fun K => ga K "_law_draw", "_law_draw", "_law_draw", top 36⟩,
  ⟨fun K => ga K "_law_letters_right", "_law_letters_right", "_law_letters_right", top 37⟩,
  ⟨fun K => ga K "_law_choice", "_law_choice", "_law_choice", top 38⟩,
  ⟨fun K => ga K "_law_row", "_law_row", "_law_row", top 39⟩,
  ⟨fun K => ga K "_law_fading_right", "_law_fading_right", "_law_fading_right", top 40⟩,
  ⟨fun K => ga K "_law_queue_right", "_law_queue_right", "_law_queue_right", top 41⟩,
  ⟨fun K => ga K "_law_right", "_law_right", "_law_right", top 42⟩,
  ⟨fun K => ga K "law", "law", "law", top 43⟩,
  ⟨fun K => ma K (ga K "Kind") "__init__", "__init__", "Kind.__init__", inClass (top 19) 0⟩,
  ⟨fun K => ma K (ga K "Kind") "after", "after", "Kind.after", inClass (top 19) 4⟩,
  ⟨fun K => ma K (ga K "Kind") "_need_operation", "_need_operation", "Kind._need_operation", inClass (top 19) 12⟩,
  ⟨fun K => ma K (ga K "Kind") "__contains__", "__contains__", "Kind.__contains__", inClass (top 19) 14⟩,
  ⟨getP, "names", "Kind.names", inClass (top 19) 2⟩]
def fa : List Fa := [.glo "is_number_in", .glo "need_number", .glo "is_name", .glo "_is_pair", .glo "_is_row", .glo "_is_table", .glo "_lettered", .glo "cell_kind", .glo "flag_kind", .glo "adder_kind", .glo "swap_kind", .glo "slot_kind", .glo "fading_kind", .glo "_faded", .glo "queue_kind", .glo "_join_row", .glo "highest_kind", .glo "_law_vat", .glo "_law_draw", .glo "_law_letters_right", .glo "_law_choice", .glo "_law_row", .glo "_law_fading_right", .glo "_law_queue_right", .glo "_law_right", .glo "law", .glo "Kind", .glo "QUEUE_WORDS", .free "isinstance", .free "int", .free "bool", .free "str", .free "tuple", .free "list", .free "dict", .free "len", .free "all", .free "range", .free "enumerate", .free "sorted", .free "min", .free "max", .free "abs", .int "MAX_LETTERS" 8, .int "MAX_STATES" 12, .int "MAX_OPERATIONS" 6, .int "MAX_ANSWER" 99, .str "ALPHABET" "abcdefghijklmnopqrstuvwxyz", .str "LETTERS" "abcdefgh", .cls "Kind", .noat "Kind" "_table", .noat "Kind" "_size", .mkr "Kind", .meth "Kind" "after", .meth "Kind" "_need_operation", .meth "Kind" "__contains__"]
def loose : List PySem.Str := (["_wall", "TeamError", "InvalidKind", "InvalidNumber", "UnknownName", "is_number_in", "need_number", "ALPHABET", "MAX_LETTERS", "MAX_STATES", "MAX_OPERATIONS", "MAX_ANSWER", "is_name"] : List PySem.Str) ++ (["_is_pair", "_is_row", "_is_table", "Kind", "LETTERS", "QUEUE_WORDS", "_lettered", "cell_kind", "flag_kind", "adder_kind", "swap_kind", "slot_kind", "fading_kind"] : List PySem.Str) ++ (["_faded", "queue_kind", "_join_row", "highest_kind", "_law_vat", "_law_draw", "_law_letters_right", "_law_choice", "_law_row", "_law_fading_right", "_law_queue_right", "_law_right"] : List PySem.Str)
def tf : List Defn := [("_law_right", none)]
abbrev R : PySem.W.OpenRow := PySem.W.OpenLaw.row PySem.Challenge.rw_teamtells_k07_whole_machines_of_made_kin
abbrev hk : PySem.W.Hook := hookY 6 fa ds tf exP
def ob (s : PySem.W.SharedT) : AlY × Bool := obsY 6 fa ds tf exP (HandSHeadRun.getT s)
theorem ob_eq (s : PySem.W.SharedT) : ob s = hk.obs s.abs := obsY_eq (HandSHeadRun.getT_eq s)
theorem run (w : World) : HandSHeadRun.RunEq R (PySem.W.view R.prog [43]) hk ob 6000 loose w := by
  intro os
  kernel_rfl
end TmH
set_option maxHeartbeats 2000000
namespace TmH
open PySem PySem.Spec PyProof.Rows L2 LamX He Tm
section
variable {P : Program} {w : World} {K : PySem.W.Frag} {h : Heap} {mg : Str → Option Value}
theorem mkDf (X : K.In h) (G : h.Ns mainGlobals mg) (c : SaysY fa ds tf exP h K) (x : Str) (st : Stmt) (ps : List Str) (i : Nat) (hi : ds[i]? = some ⟨fun K => ga K x, x, x, st⟩) (hf : Fa.glo x ∈ fa)
    (hb : ∀ (kV doc pm : Value) (an : Option Addr) (cdv ct : Value) (us : List Value), us.length = ps.length → bindArgs (PySem.W.fnOf x x (defArgs st) (defBody st) (defScope st) .none kV doc pm an cdv ct) ⟨us, []⟩ = pure (ps.zip us)) : Df K mg x st ps := by
  have F := c.def_ i hi
  obtain ⟨fd, f⟩ := F.fun_
  exact ⟨_, fd, glo_ok X G (c.fact hf), F.kp, f, f.binds hb⟩
theorem mkDfM (c : SaysY fa ds tf exP h K) (m q : Str) (st : Stmt) (ps : List Str) (i : Nat) (hi : ds[i]? = some ⟨fun K => ma K (ga K "Kind") m, m, q, st⟩) (hf : Fa.meth "Kind" m ∈ fa)
    (hb : ∀ (kV doc pm : Value) (an : Option Addr) (cdv ct : Value) (us : List Value), us.length = ps.length → bindArgs (PySem.W.fnOf m q (defArgs st) (defBody st) (defScope st) .none kV doc pm an cdv ct) ⟨us, []⟩ = pure (ps.zip us)) : DfM K (ga K "Kind") m q st ps := by
  obtain ⟨fd, f⟩ := (c.def_ i hi).fun_
  exact ⟨_, fd, meth_ok (c.fact hf), f, f.binds hb⟩
theorem mkBt (X : K.In h) (G : h.Ns mainGlobals mg) (c : SaysY fa ds tf exP h K) : Bt mg := by
  have f : ∀ x, Fa.free x ∈ fa → mg x = none := fun x hx => free_ok X G (c.fact hx)
  refine ⟨f _ ?_, f _ ?_, f _ ?_, f _ ?_, f _ ?_, f _ ?_, f _ ?_, f _ ?_, f _ ?_, f _ ?_, f _ ?_, f _ ?_, f _ ?_, f _ ?_, f _ ?_⟩ <;> (unfold fa; simp)
theorem mkInt (X : K.In h) (G : h.Ns mainGlobals mg) (c : SaysY fa ds tf exP h K) {x : Str} {i : Int} (hf : Fa.int x i ∈ fa) : GV mg x (.int i) := by
  obtain ⟨t, e⟩ := int_ok X G (c.fact hf)
  exact ⟨_, e, t, rfl⟩
theorem mkStr (X : K.In h) (G : h.Ns mainGlobals mg) (c : SaysY fa ds tf exP h K) {x z : Str} (hf : Fa.str x z ∈ fa) : GV mg x (.str z) := by
  obtain ⟨t, e⟩ := str_ok X G (c.fact hf)
  exact ⟨_, e, t, rfl⟩
theorem facts (X : K.In h) (G : h.Ns mainGlobals mg) (c : SaysY fa ds tf exP h K) {f : Addr} (hfa : mg ("law" : Str) = some (.ref f)) :
    ∃ fd : FuncData, (∀ (s : Shared) (u : Value), BindsTo s fd ⟨[u], []⟩ [("_law_script", u)]) ∧
      ∀ base : Heap, K.In base → base.Ns mainGlobals mg → TabB base mg (cT K ("_law_right", none)).1 (cT K ("_law_right", none)).2 → FnOk P w K mg base CX0 10 f fd ["_law_script"] (sp_law K [((cT K ("_law_right", none)).2, QR)]) := by
  have B := mkBt X G c
  have d0 : Df K mg "is_number_in" s_num ["value", "least", "most"] := mkDf X G c "is_number_in" s_num ["value", "least", "most"] 0 rfl (by unfold fa; simp) fun _ _ _ _ _ _ us hl => match us, hl with | [_, _, _], _ => rfl
  have d1 : Df K mg "need_number" s_need ["value", "least", "most"] := mkDf X G c "need_number" s_need ["value", "least", "most"] 1 rfl (by unfold fa; simp) fun _ _ _ _ _ _ us hl => match us, hl with | [_, _, _], _ => rfl
  have d2 : Df K mg "is_name" s_name ["value"] := mkDf X G c "is_name" s_name ["value"] 2 rfl (by unfold fa; simp) fun _ _ _ _ _ _ us hl => match us, hl with | [_], _ => rfl
  have d3 : Df K mg "_is_pair" s_pair ["value", "size"] := mkDf X G c "_is_pair" s_pair ["value", "size"] 3 rfl (by unfold fa; simp) fun _ _ _ _ _ _ us hl => match us, hl with | [_, _], _ => rfl
  have d4 : Df K mg "_is_row" s_row ["value", "size"] := mkDf X G c "_is_row" s_row ["value", "size"] 4 rfl (by unfold fa; simp) fun _ _ _ _ _ _ us hl => match us, hl with | [_, _], _ => rfl
  have d5 : Df K mg "_is_table" s_table ["value"] := mkDf X G c "_is_table" s_table ["value"] 5 rfl (by unfold fa; simp) fun _ _ _ _ _ _ us hl => match us, hl with | [_], _ => rfl
  have d6 : Df K mg "_lettered" s_lettered ["word", "rows"] := mkDf X G c "_lettered" s_lettered ["word", "rows"] 6 rfl (by unfold fa; simp) fun _ _ _ _ _ _ us hl => match us, hl with | [_, _], _ => rfl
  have d7 : Df K mg "cell_kind" s_cell ["many"] := mkDf X G c "cell_kind" s_cell ["many"] 7 rfl (by unfold fa; simp) fun _ _ _ _ _ _ us hl => match us, hl with | [_], _ => rfl
  have d8 : Df K mg "flag_kind" s_flag [] := mkDf X G c "flag_kind" s_flag [] 8 rfl (by unfold fa; simp) fun _ _ _ _ _ _ us hl => match us, hl with | [], _ => rfl
  have d9 : Df K mg "adder_kind" s_adder ["many"] := mkDf X G c "adder_kind" s_adder ["many"] 9 rfl (by unfold fa; simp) fun _ _ _ _ _ _ us hl => match us, hl with | [_], _ => rfl
  have d10 : Df K mg "swap_kind" s_swap ["many"] := mkDf X G c "swap_kind" s_swap ["many"] 10 rfl (by unfold fa; simp) fun _ _ _ _ _ _ us hl => match us, hl with | [_], _ => rfl
  have d11 : Df K mg "slot_kind" s_slot ["many"] := mkDf X G c "slot_kind" s_slot ["many"] 11 rfl (by unfold fa; simp) fun _ _ _ _ _ _ us hl => match us, hl with | [_], _ => rfl
  have d12 : Df K mg "fading_kind" s_fading ["many"] := mkDf X G c "fading_kind" s_fading ["many"] 12 rfl (by unfold fa; simp) fun _ _ _ _ _ _ us hl => match us, hl with | [_], _ => rfl
  have d13 : Df K mg "_faded" s_faded ["state", "many"] := mkDf X G c "_faded" s_faded ["state", "many"] 13 rfl (by unfold fa; simp) fun _ _ _ _ _ _ us hl => match us, hl with | [_, _], _ => rfl
  have d14 : Df K mg "queue_kind" s_queue ["many"] := mkDf X G c "queue_kind" s_queue ["many"] 14 rfl (by unfold fa; simp) fun _ _ _ _ _ _ us hl => match us, hl with | [_], _ => rfl
  have d15 : Df K mg "_join_row" s_join ["words", "many", "letter"] := mkDf X G c "_join_row" s_join ["words", "many", "letter"] 15 rfl (by unfold fa; simp) fun _ _ _ _ _ _ us hl => match us, hl with | [_, _, _], _ => rfl
  have d16 : Df K mg "highest_kind" s_high ["many"] := mkDf X G c "highest_kind" s_high ["many"] 16 rfl (by unfold fa; simp) fun _ _ _ _ _ _ us hl => match us, hl with | [_], _ => rfl
  have d17 : Df K mg "_law_vat" s_vat ["_law_script", "_law_at"] := mkDf X G c "_law_vat" s_vat ["_law_script", "_law_at"] 17 rfl (by unfold fa; simp) fun _ _ _ _ _ _ us hl => match us, hl with | [_, _], _ => rfl
  have d18 : Df K mg "_law_draw" s_draw ["_law_vat_here", "_law_total"] := mkDf X G c "_law_draw" s_draw ["_law_vat_here", "_law_total"] 18 rfl (by unfold fa; simp) fun _ _ _ _ _ _ us hl => match us, hl with | [_, _], _ => rfl
  have d19 : Df K mg "_law_letters_right" s_lr ["_law_kind", "_law_names", "_law_first", "_law_rule"] := mkDf X G c "_law_letters_right" s_lr ["_law_kind", "_law_names", "_law_first", "_law_rule"] 19 rfl (by unfold fa; simp) fun _ _ _ _ _ _ us hl => match us, hl with | [_, _, _, _], _ => rfl
  have d20 : Df K mg "_law_choice" s_choice ["_law_vat_here", "_law_items"] := mkDf X G c "_law_choice" s_choice ["_law_vat_here", "_law_items"] 20 rfl (by unfold fa; simp) fun _ _ _ _ _ _ us hl => match us, hl with | [_, _], _ => rfl
  have d21 : Df K mg "_law_row" s_lrow ["_law_vat_here", "_law_kind", "_law_most"] := mkDf X G c "_law_row" s_lrow ["_law_vat_here", "_law_kind", "_law_most"] 21 rfl (by unfold fa; simp) fun _ _ _ _ _ _ us hl => match us, hl with | [_, _, _], _ => rfl
  have d22 : Df K mg "_law_fading_right" s_fr ["_law_kind", "_law_names", "_law_count"] := mkDf X G c "_law_fading_right" s_fr ["_law_kind", "_law_names", "_law_count"] 22 rfl (by unfold fa; simp) fun _ _ _ _ _ _ us hl => match us, hl with | [_, _, _], _ => rfl
  have d23 : Df K mg "_law_queue_right" s_qr ["_law_kind", "_law_names", "_law_count"] := mkDf X G c "_law_queue_right" s_qr ["_law_kind", "_law_names", "_law_count"] 23 rfl (by unfold fa; simp) fun _ _ _ _ _ _ us hl => match us, hl with | [_, _, _], _ => rfl
  have gb : Gb mg := ⟨mkInt X G c (by unfold fa; simp), mkInt X G c (by unfold fa; simp), mkInt X G c (by unfold fa; simp), mkInt X G c (by unfold fa; simp), mkStr X G c (by unfold fa; simp)⟩
  have gm : Gm mg := ⟨mkStr X G c (by unfold fa; simp)⟩
  have T : Kc K (ga K "Kind") := ⟨cls_ok (c.fact (f := .cls "Kind") (by unfold fa; simp)), noat_ok (c.fact (f := .noat "Kind" "_table") (by unfold fa; simp)), noat_ok (c.fact (f := .noat "Kind" "_size") (by unfold fa; simp))⟩
  have di : DfC K mg "Kind" (ga K "Kind") "Kind.__init__" s_init ["self", "operations"] := by
    obtain ⟨fd, F⟩ := (c.def_ 26 (d := ⟨fun K => ma K (ga K "Kind") "__init__", "__init__", "Kind.__init__", s_init⟩) rfl).fun_
    exact ⟨_, fd, glo_ok X G (c.fact (by unfold fa; simp)), mkr_ok (c.fact (f := .mkr "Kind") (by unfold fa; simp)), F, F.binds fun _ _ _ _ _ _ us hl => match us, hl with | [_, _], _ => rfl⟩
  have da : DfM K (ga K "Kind") "after" "Kind.after" s_after ["self", "state", "name"] := mkDfM c "after" "Kind.after" s_after ["self", "state", "name"] 27 rfl (by unfold fa; simp) fun _ _ _ _ _ _ us hl => match us, hl with | [_, _, _], _ => rfl
  have dn : DfM K (ga K "Kind") "_need_operation" "Kind._need_operation" s_needop ["self", "name"] := mkDfM c "_need_operation" "Kind._need_operation" s_needop ["self", "name"] 28 rfl (by unfold fa; simp) fun _ _ _ _ _ _ us hl => match us, hl with | [_, _], _ => rfl
  have dc : DfIn K (ga K "Kind") "Kind.__contains__" s_cont ["self", "x"] := by
    obtain ⟨fd, F⟩ := (c.def_ 29 (d := ⟨fun K => ma K (ga K "Kind") "__contains__", "__contains__", "Kind.__contains__", s_cont⟩) rfl).fun_
    have m := meth_ok (c.fact (f := .meth "Kind" "__contains__") (by unfold fa; simp))
    exact ⟨_, fd, ⟨m.at_, m.fn⟩, F, F.binds fun _ _ _ _ _ _ us hl => match us, hl with | [_, _], _ => rfl⟩
  obtain ⟨x1, e1⟩ := ba c.more
  obtain ⟨x2, e2⟩ := ba e1
  obtain ⟨x3, e3⟩ := ba e2
  obtain ⟨x4, x5⟩ := ba e3
  have dp : DfP K (ga K "Kind") "names" "Kind.names" s_names := by
    obtain ⟨fd, F⟩ := (c.def_ 30 (d := ⟨getP, "names", "Kind.names", s_names⟩) rfl).fun_
    refine ⟨ma K (ga K "Kind") "names", getP K, fd, ⟨eqO_ok x1, eqO_ok x2, of_decide_eq_true x3, ?_⟩, F, F.binds fun _ _ _ _ _ _ us hl => match us, hl with | [_], _ => rfl⟩
    unfold getP
    split at x4
    · rename_i g rest e
      exact ⟨rest, by rw [e]⟩
    · cases x4
  have gq : GT K mg "QUEUE_WORDS" QW := ⟨_, glo_ok X G (c.fact (by unfold fa; simp)), fun H => tupB_ok x5 H⟩
  have F25 := c.def_ 25 (d := ⟨fun K => ga K "law", "law", "law", s_law⟩) rfl
  obtain ⟨oc, od, kV, doc, pm, an, cdv, ct, osl, l, ci⟩ := F25.ex
  have FL := fun_mk (st := s_law) l ci F25.kp
  have hl := hfa.symm.trans (glo_ok X G (c.fact (f := .glo "law") (by unfold fa; simp)))
  have ef : f = ga K "law" := by
    cases hl
    rfl
  refine ⟨PySem.W.fnOf "law" "law" (defArgs s_law) (defBody s_law) (defScope s_law) .none kV doc pm an cdv ct, fun s u => .of_eq rfl, fun base _ _ tb => ?_⟩
  rw [ef]
  have F24 := c.def_ 24 (d := ⟨fun K => ga K "_law_right", "_law_right", "_law_right", s_right⟩) rfl
  have dr : DfL K mg base "_law_right" s_right ["_law_vat_here"] (cT K ("_law_right", none)).1 (cT K ("_law_right", none)).2 := by
    obtain ⟨oc, od, kV, doc, pm, an, cdv, ct, osl, l, ci⟩ := F24.ex
    obtain ⟨cc, ecc⟩ := codeIn_ref ci
    subst ecc
    have ec : codeOf K ("_law_right", none) = cc := codeOf_eq (p := ("_law_right", none)) l rfl
    refine ⟨⟨_, oc, od, kV, doc, pm, an, ct, osl, glo_ok X G (c.fact (by unfold fa; simp)), F24.kp, ?_, ?_, ?_⟩, tb⟩
    · rw [show (cT K ("_law_right", none)).1 = cc from ec]
      exact l
    · rw [show (cT K ("_law_right", none)).1 = cc from ec]
      exact ci
    · exact .all fun us hl => match us, hl with | [_], _ => rfl
  have o0 := ok_num (P := P) (w := w) (base := base) B d0
  have o1 := ok_need o0 d1
  have o2 := ok_name (P := P) (w := w) (base := base) B gb d2
  have o3 := ok_pair B gb o0 d3
  have o4 := ok_row B gb o3 d4
  have o5 := ok_table B gb o2 o4 d5
  have oi := ok_init B T o5 di
  have oc := ok_cont (P := P) (w := w) (mg := mg) (base := base) B T dc
  have on := ok_needop oc dn
  have oa := ok_after B T o1 on da
  have op := ok_names (P := P) (w := w) (mg := mg) (base := base) B T dp
  have o6 := ok_lettered B gm oi d6
  have o7 := ok_cell B o1 o6 d7
  have o8 := ok_flag oi d8
  have o9 := ok_adder B o1 oi d9
  have o10 := ok_swap B o1 o6 d10
  have o11 := ok_slot B o1 o6 d11
  have o13 := ok_faded (P := P) (w := w) (base := base) B d13
  have o12 := ok_fading B o1 o13 o6 d12
  have o15 := ok_join (P := P) (w := w) (base := base) B d15
  have o14 := ok_queue B gq o1 o15 oi d14
  have o16 := ok_high B o1 o6 d16
  have o17 := ok_vat (P := P) (w := w) (base := base) B d17
  have o18 := ok_draw (P := P) (w := w) (base := base) B d18
  have o19 := ok_lr B T oa d19
  have o20 := ok_choice B o18 d20
  have o21 := ok_lrow B T o18 o20 op d21
  have o22 := ok_fr B T oa d22
  have o23 := ok_qr B T oa d23
  have o24 := ok_right B T o18 o21 o7 o10 o16 o11 o12 o14 o9 o8 o19 o22 o23 oa dr
  exact fn_law B o17 o24 FL
end
end TmH
open PySem PySem.W PySem.Calls PyProof.Rows
theorem PySem.Challenge.cw_teamtells_k07_whole_machines_of_made_kin_holds : PySem.Challenge.rw_teamtells_k07_whole_machines_of_made_kin.Holds := by
  w_on; o_law
  refine HandSHeadRun.head_any (r := OpenLaw.row PySem.Challenge.rw_teamtells_k07_whole_machines_of_made_kin) (q := view (OpenLaw.row PySem.Challenge.rw_teamtells_k07_whole_machines_of_made_kin).prog [43]) (H := TmH.hk) (ob := TmH.ob) (M := 6000) (loose := TmH.loose) (d := HandSHeadRun.topDef (OpenLaw.row PySem.Challenge.rw_teamtells_k07_whole_machines_of_made_kin).prog 43) (kwd := []) TmH.ob_eq
    (by kernel_rfl) (fun s => by kernel_rfl) TmH.run (by kernel_rfl) (by kernel_rfl) (by kernel_rfl) (by rfl) (by first | assumption | decide +kernel) (by decide +kernel) ⟨rfl, rfl, rfl, rfl, rfl, by decide +kernel⟩ ?hw ?hc
  case hw => w_witness2
  case hc =>
    refine LamX.walk_ofTsE (l := PySem.Challenge.rw_teamtells_k07_whole_machines_of_made_kin) (n := 63) (k := 10) (x := "_law_script") (CX := fun _ => L2.CX0) rfl (by decide) (by kernel_rfl) ⟨rfl, by decide, by decide⟩ ?F (fun _ _ _ _ _ z => z)
    intro w mg fa h Y G hmg0
    obtain ⟨K, KX, c⟩ := Y
    have hmg : mg ("law" : PySem.Str) = some (.ref fa) := by
      have e : (HandSHeadRun.topDef (OpenLaw.row PySem.Challenge.rw_teamtells_k07_whole_machines_of_made_kin).prog 43).name = ("law" : PySem.Str) := by kernel_rfl
      rw [← e]
      exact hmg0
    obtain ⟨fd, hb, hF⟩ := TmH.facts (P := (PySem.Challenge.rw_teamtells_k07_whole_machines_of_made_kin).prog) (w := w) KX G c hmg
    have mem : (("_law_right", none) : He.Defn) ∈ TmH.tf := List.mem_cons_self
    refine ⟨K, KX, fd, [He.cT K ("_law_right", none)], Tm.sp_law K [((He.cT K ("_law_right", none)).2, Tm.QR)], fun p hp => ?_, fun p hp => ?_, fun p hp => ?_, hb, fun H a ns hl _ hT hS => ?_, fun base k1 k2 tb => hF base k1 k2 (tb _ List.mem_cons_self)⟩
    · rw [List.mem_singleton.mp hp]
      exact c.empty _ mem
    · rw [List.mem_singleton.mp hp]
      exact c.out _ mem
    · rw [List.mem_singleton.mp hp]
      exact codeHd_of_K KX (c.hd _ mem)
    · refine ⟨a, ns, rfl, hS, hl, fun p hp => ?_, fun _ => rfl⟩
      rw [List.mem_singleton.mp hp]
      exact LamX.TabS.nil (hT _ List.mem_cons_self)
