import PyProof.Rows.All
import Wide.All
import OpenK.AllK
import Wide.FinOn
import PyProof.ExcBaseAll.OverflowError
import KE.KExcInit
import KE.KDictList
import KE.KCallOwn
import PyProof.InstEq
import KE.KFmtOwn
import PyProof.JoinWalk
import PyProof.CollectIter
import PyProof.DictWalks
import PyProof.SetRoads
import PyProof.EnumMake
import PyProof.Draws
import KE.KDictZip
import KE.GoesZip
import PyProof.DictCopy
import PyProof.DictUpdate
import PyProof.DictDisplay
import PyProof.TupleOfSeq
import KE.SortData
import HandS.ExcInit
import HandS.ForSpec
import HandS.ForMost
import HandS.More
import HandS.IsInst
import HandS.DictComp
import HandS.Property
import HandS.Star
import HandS.TupMul
import HandS.TupAny
import HandS.Deep
import HandS.Wide
import HandS.Walk
import HandS.Head0
import HandS.Head1
import HandS.Head2
import HandS.HeadHook1
import HandS.HeadHook2
import HandS.HeadHook3
import HandS.HeadHook4
import HandS.HeadWalk
import HandS.Conv
import HandS.Replace
import HandS.FStr
import HandS.DeepEq
import HandS.SetBool
import HandS.Strs
import HandS.SetFor
import HandS.TupSets
import HandS.Small
import HandS.SetKeys
import HandS.Zip0
import HandS.Zip
import HandS.ListItems
import HandS.Dict
import HandS.Base
import HandS.Call
import HandS.Exc
import HandS.TryMany
import HandS.Set
import HandS.WordsDict
import HandS.NoneIn
import HandS.Style
import HandS.WordsExc
import HandS.Lambda
import HandS.RaiseMore
import HandS.TryOnly
import PySem.Challenge.RW_teamtells_k12_whole_histories_of_plans
set_option Elab.async false
set_option linter.all false
set_option maxRecDepth 100000
set_option maxHeartbeats 2000000
/-! An own exception class over OverflowError whose __init__ keeps one field (TooMany, k01). -/
namespace PySem
namespace TooX
open PySem.HandSPX Builtin Builtin.ObjectAttr
abbrev oeTail : List Value := [.type "OverflowError", .type "ArithmeticError", .type "Exception", .type "BaseException", .type "object"]
def refsOE : List Value → Bool
  | .ref _ :: r => refsOE r
  | l => l == oeTail
theorem oe_cases (l : List Value) (e : refsOE l = true) : (∃ c r, l = .ref c :: r ∧ refsOE r = true) ∨ l = oeTail := by
  match l, e with
  | [], e => exact .inr (beq_iff_eq.mp e)
  | a :: r, e =>
    cases a with
    | ref c => exact .inl ⟨c, r, rfl, e⟩
    | _ => exact .inr (beq_iff_eq.mp e)
theorem oe_pass (self : Value) : ∀ l : List Value, refsOE l = true → refuseLoop self "__setattr__" l = pure () := by
  intro l
  induction l with
  | nil => intro e; exact absurd e (by decide)
  | cons a r ih =>
    intro e
    rcases oe_cases (a :: r) e with ⟨c, r', q, h⟩ | q
    · obtain ⟨rfl, rfl⟩ := List.cons.inj q
      rw [refuseLoop_ref]
      exact ih h
    · rw [q]
      exact F.store_OverflowError.passes self
theorem oe_contains (X : String) : ∀ l : List Value, refsOE l = true → l.contains (.type X) = oeTail.contains (.type X) := by
  intro l
  induction l with
  | nil => intro e; exact absurd e (by decide)
  | cons a r ih =>
    intro e
    rcases oe_cases (a :: r) e with ⟨c, r', q, h⟩ | q
    · obtain ⟨rfl, rfl⟩ := List.cons.inj q
      rw [List.contains_cons, ih h]
      rfl
    · rw [q]
theorem oe_ne {l : List Value} (e : refsOE l = true) : l.isEmpty = false := by
  cases l with
  | nil => exact absurd e (by decide)
  | cons _ _ => rfl
end TooX
end PySem

namespace PySem
namespace TooX
open PySem.HandSPX PySem.W PySem.Calls PyProof.Rows Builtin Builtin.ObjectAttr
section
variable {prog : Program} {w : World} {A : Around} {E : Value → Shared → Prop} {R : Result → Shared → Prop} {hp : Heap} {g : Array GenState} {d : Drawn} {t : Nat} {os : OsState}
theorem oe_osa {K : W.Frag} {name : Str} {tk : Tok} {v : Value} {x C : Addr} {fv : Array Value} {cd : ClassData}
    (X : K.In hp) (hx : hp.get? x = some { cls := .ref C, data := .fields fv }) (hcd : W.clsIn K C = some cd) (hm : refsOE cd.mro = true) (hh : cd.hasDict = true) (ha : W.findIn K (.ref C) name = some none)
    (hq : ∀ h' tk' dx, (∀ b o, b ≠ x → hp.get? b = some o → h'.get? b = some o) → hp.objs.size ≤ dx → dx ≠ x → h'.get? x = some { cls := .ref C, dict := some dx, data := .fields fv } →
      h'.Ns1 dx (fun y => if y = name then some v else none) → R (.ok (.ret .none)) ⟨h', g, d, tk', os⟩) :
    codeAny (model prog w) A (.call (.builtin "object.__setattr__") ⟨[.ref x, .str name tk, v], []⟩) R ⟨hp, g, d, t, os⟩ := by
  have I : W.InstAt hp x { cls := .ref C, data := .fields fv } C none := ⟨hx, rfl, rfl, trivial⟩
  have SF := F.store_object
  have ne := oe_ne hm
  have hob : cd.mro.contains (.type "object") = true := (oe_contains "object" _ hm).trans (by decide +kernel)
  have hxs : x ≠ hp.objs.size := Nat.ne_of_lt (Heap.lt_size hx)
  have sub : W.Looks (model prog w) hp (isInstance (.ref x) (.type "object")) true := I.type.andThen (W.looks_mroIn X (by unfold W.mroIn; rw [hcd, Option.bind_some, if_neg (by rw [ne]; decide), hob]))
  refine codeAny_call_builtin SF.slot.plain SF.entry (@W.check_slot (model prog w) _ _ ⟨hp, g, d, t, os⟩ "object.__setattr__" "object" "__setattr__" (.ref x) [.str name tk, v] [] _ SF.kind SF.split sub (SF.args (.ref x) (.str name tk) v) ?_)
  have hmr : W.Looks (model prog w) hp (mroOf (.ref C)) cd.mro := (W.looks_clsIn X hcd).andThen .now
  have L3 : W.Looks (model prog w) hp (storeTaker? none) none := .now
  have hcls : W.Looks (model prog w) hp (classData C) cd := W.looks_clsIn X hcd
  rw [W.osa_eq, refuse_eq]
  refine wpAny_bind (wpAny_bind (I.type.at (wpAny_bind (hmr.at ?_))))
  rw [oe_pass _ _ hm]
  refine wpAny_pure (wpAny_bind (I.type.at (wpAny_bind ((W.looks_findIn X ha).at (wpAny_bind (L3.at ?_))))))
  show wpAny _ _ (storeInOwnDict (.ref x) (.ref C) (.str name tk) name v false) _ _ _
  obtain ⟨nm, bs, mro, ns, qn, hd, sn, sb, ab, col, del⟩ := cd
  dsimp only at hh
  subst hh
  unfold storeInOwnDict ownDictForStores
  repeat (first | with_reducible refine store_in_new ?_ ?_ | with_reducible refine wpAny_loadPart_at hx ?_ | with_reducible refine hcls.at ?_ | wp_step)
  · exact ⟨_, #[], _, (Heap.get?_update_ne _ _ _ _ hxs.symm).trans (Heap.get?_push_at rfl rfl), rfl, fun e he => absurd he (by simp), fun _ => rfl⟩
  · intro h' tk' hn' hs
    have hx₁ : (hp.push { cls := .type "dict", data := .dict #[] }).get? x = some { cls := .ref C, data := .fields fv } := Heap.get?_push_of_some _ hx
    refine hq h' tk' hp.objs.size (fun b o hb ho => ?_) (Nat.le_refl _) hxs.symm ?_ hn'
    · exact (hs.2 b (Nat.ne_of_lt (Heap.lt_size ho))).trans ((Heap.get?_update_ne _ _ _ _ hb).trans (Heap.get?_push_of_some _ ho))
    · exact (hs.2 x hxs).trans (Heap.get?_update_self _ hx₁ rfl)
end
/-! ### the text of __init__ -/
def iA (p1 p2 : Pos) : Arguments := { posonlyargs := [], args := [{ arg := "self", annotation := none, pos := p1 }, { arg := "limit", annotation := none, pos := p2 }], vararg := none, kwonlyargs := [], kw_defaults := [], kwarg := none, defaults := [] }
def iB (q1 q2 q3 q4 : Pos) : List Stmt := [.Assign [.Attribute (.Name "self" q1) "limit" q2] (.Name "limit" q3) q4]
def iS : Scope := { kind := .function, names := [(PySem.Str.ofString "self", .local), (PySem.Str.ofString "limit", .local)], isGenerator := false, isCoroutine := false, more := [] }
/-- what the written part says of Low, at C, and of its __init__, at fI -/
structure TooTxt (K : Frag) (mg : Str → Option Value) (C fI : Addr) : Prop where
  gC : mg "TooMany" = some (.ref C)
  cls : ∃ nm q N bs bm sn sub ab col dd k0 k1 k2 k3 k5, K.lookup C = some (excClassObj nm q C N bs bm true sn sub ab col dd k0 k1 k2 k3 k5 "OverflowError.__new__") ∧ refsOE bm = true
  sa : findIn K (.ref C) "__setattr__" = some (some (.builtin "object.__setattr__"))
  ga : findIn K (.ref C) "__getattribute__" = some (some (.builtin "BaseException.__getattribute__"))
  gg : findIn K (.ref C) "__getattr__" = some none
  noN : findIn K (.ref C) "limit" = some none
  iC : findIn K (.ref C) "__init__" = some (some (.ref fI))
  tC : typeIn K (.ref fI) = some (.type "function")
  kC : keepIn K (.ref C) = true
  exC : subIn K (.ref C) (.type "BaseException") = some true
  tyC : typeIn K (.ref C) = some (.type "type")
  hdC : hasDictIn K C = true
  te : exmOne K (.ref C) (.ref C) = some true
  fn : ∃ (oc : Value) (od : Option Addr) (doc pm : Value) (an : Option Addr) (cdv ct : Value) (osl : Array (Option Value)) (p1 p2 q1 q2 q3 q4 : Pos),
    K.lookup fI = some ⟨oc, od, .func (fnOf "__init__" "TooMany.__init__" (iA p1 p2) (iB q1 q2 q3 q4) iS .none .none doc pm an cdv ct), osl⟩ ∧ codeIn K cdv "TooMany.__init__" = true
theorem one_size (v : Value) : [v].length ≤ sizeLine := by
  rw [sizeLine_eq]
  exact (by decide : 1 ≤ 16777216)
theorem kept_but {K : Frag} {h h' : Heap} {x : Addr} (X : K.In h) (hx : K.lookup x = none) (k : ∀ b o, b ≠ x → h.get? b = some o → h'.get? b = some o) : K.In h' := fun a o e =>
  k a o (fun z => by rw [z, hx] at e; cases e) (X a o e)
theorem ldC {M : Model} {s : Shared} {name : Str} {scope : Scope} {L a : Addr} {cd : Value} {m : Str → Option Value} {x : Str} {pos : Pos} {v : Value} {Q : Value → Shared → Prop} {A : Around} {E : Value → Shared → Prop} (hn : s.heap.Ns L m) (hv : m x = some v) (h : Q v s)
    (hk : scope.kind = .function := by rfl) (hl : (envOfC name scope L a cd).kindOf x = some .local := by rfl) (hd : (x == ("__debug__" : Str)) = false := by decide) :
    wpAny M A (eval (.Name x pos) (envOfC name scope L a cd)) Q E s := wpAny_Name (wpAny_loadName_local hk hl hn hv h) hd
/-- what __init__ leaves of a fresh exception at x -/
structure InitEnd (h h' : Heap) (x C dx t1 : Addr) (v : Value) : Prop where
  keep : ∀ b o, b ≠ x → h.get? b = some o → h'.get? b = some o
  obj : h'.get? x = some { cls := .ref C, dict := some dx, data := .fields #[.ref t1, .none, .none, .none, .bool false, .none] }
  dbig : h.objs.size ≤ dx
  dne : dx ≠ x
  ns : h'.Ns1 dx (fun y => if y = "limit" then some v else none)
/-- a made Low -/
structure OwnMade (h h' : Heap) (e C d : Addr) (v : Value) : Prop where
  keep : ∀ b o, h.get? b = some o → h'.get? b = some o
  new : h.objs.size ≤ e
  obj : ∃ oe vs, h'.get? e = some oe ∧ oe.cls = .ref C ∧ oe.dict = some d ∧ oe.data = .fields vs ∧ vs[1]? = some .none
  dbig : h.objs.size ≤ d
  dne : d ≠ e
  ns : h'.Ns1 d (fun y => if y = "limit" then some v else none)
section
variable {prog : Program} {w : World} {A : Around} {E : Value → Shared → Prop} {R : Result → Shared → Prop} {s : Shared} {K : Frag} {mg : Str → Option Value} {C fI : Addr}
theorem too_init (T : TooTxt K mg C fI) {x t0 : Addr} {v : Value} (X : K.In s.heap) (hlim : s.heap.NoLimit) (hx : s.heap.get? x = some (excO C t0)) (hnx : K.lookup x = none) (hroom : A.depth < recursionLimit)
    (hq : ∀ h' tk dx, InitEnd s.heap h' x C dx t0 v → R (.ok (.ret .none)) { s with heap := h', toks := tk }) :
    codeAny (model prog w) A (.call (.ref fI) ⟨[.ref x, v], []⟩) R s := by
  obtain ⟨oc, od, doc, pm, an, cdv, ct, osl, p1, p2, q1, q2, q3, q4, ho, hcd⟩ := T.fn
  obtain ⟨nm, q, N, bs, bm, sn, sub, ab, col, dd, k0, k1, k2, k3, k5, hC, hbm⟩ := T.cls
  have hcl : clsIn K C = some { name := nm, bases := bs, mro := .ref C :: bm, ns := N, qualname := q, hasDict := true, slotNames := sn, subclasses := sub, abstract := ab, collection := col, hasDel := false } := by unfold clsIn; rw [hC] <;> rfl
  refine Att.call_fn (binds := [("self", .ref x), ("limit", v)]) X hlim ho hcd hroom (BindsTo.of_eq (by first | rfl | with_unfolding_all rfl)) (by first | rfl | decide | with_unfolding_all rfl) (fun s₁ IC => ?_) rfl rfl rfl
  obtain ⟨h₁, tk₁, rfl⟩ := IC.toInCall.same
  have k : ∀ b o, s.heap.get? b = some o → h₁.get? b = some o := IC.toInCall.keep
  have hn := IC.toInCall.ns
  have hxL : s.heap.objs.size ≠ x := Nat.ne_of_gt (Heap.lt_size hx)
  have X₁ : K.In h₁ := X.keeps k
  have hx₁ := k _ _ hx
  -- self.by = by
  show wpAny _ _ (execs _ _) _ _ _
  refine wpAny_execs_cons (plainObj_wpAny_Assign_Attribute ?_)
  refine ldC (v := v) hn (by first | rfl | with_unfolding_all rfl | kernel_rfl) (ldC (v := .ref x) hn (by first | rfl | with_unfolding_all rfl | kernel_rfl) ?_)
  refine set_plain X₁ (ox := excO C t0) (od := none) ⟨hx₁, rfl, rfl, trivial⟩ T.sa ?_
  refine oe_osa X₁ hx₁ hcl (show refsOE (.ref C :: bm) = true from hbm) rfl T.noN (fun h₃ tk₃ dx k₃ dn dne hx₃ hn₃ => ?_)
  show wpAny _ _ (execs _ _) _ _ _
  have z : s.heap.objs.size < h₁.objs.size := hn.lt
  exact wpAny_execs_nil (hq h₃ tk₃ dx ⟨fun b o hb e => k₃ b o hb (k b o e), hx₃, Nat.le_of_lt (Nat.lt_of_lt_of_le z dn), dne, hn₃⟩)
theorem too_made (T : TooTxt K mg C fI) {v : Value} (X : K.In s.heap) (hlim : s.heap.NoLimit) (hroom : A.depth + 1 < recursionLimit)
    (hq : ∀ h' tk e d, OwnMade s.heap h' e C d v → R (.ok (.ret (.ref e))) { s with heap := h', toks := tk }) :
    codeAny (model prog w) A (.call (.ref C) ⟨[v], []⟩) R s := by
  obtain ⟨nm, q, N, bs, bm, sn, sub, ab, col, dd, k0, k1, k2, k3, k5, hC, hbm⟩ := T.cls
  obtain ⟨hp, g, dr, tk, os⟩ := s
  have k : ∀ b o, hp.get? b = some o → ((hp.push (kdv_tup [v])).push (excO C hp.objs.size)).get? b = some o := fun b o e => Heap.get?_push_of_some _ (Heap.get?_push_of_some _ e)
  have hget : ((hp.push (kdv_tup [v])).push (excO C hp.objs.size)).get? (hp.objs.size + 1) = some (excO C hp.objs.size) := by heap_get
  have hnx : K.lookup (hp.objs.size + 1) = none := by
    cases e : K.lookup (hp.objs.size + 1) with
    | none => rfl
    | some o =>
      have z : hp.get? (hp.objs.size + 1) = some o := X _ _ e
      exact absurd (Nat.lt_of_succ_lt (Heap.lt_size z)) (Nat.lt_irrefl _)
  refine call_own F.excBase_OverflowError (fun X => oe_contains X bm hbm) (X _ _ hC) (looks_findIn X T.iC) (fun self => bind_fn X self T.tC) (one_size v) ?_
  refine too_init (s := ⟨(hp.push (kdv_tup [v])).push (excO C hp.objs.size), g, dr, tk, os⟩) T (X.keeps k) (hlim.keeps k) hget hnx ?_ fun h' tk' dx ⟨k', hx, dn, dne, hns⟩ => ?_
  · show A.depth + 1 < recursionLimit
    exact hroom
  · have old : ∀ b o, hp.get? b = some o → h'.get? b = some o := fun b o e => k' b o (Nat.ne_of_lt (Nat.lt_succ_of_lt (Heap.lt_size e))) (k b o e)
    have z : hp.objs.size + 1 + 1 ≤ dx := by
      first
        | (simpa only [Heap.size_push] using dn)
        | exact dn
        | (have q := dn; rw [Heap.size_push, Heap.size_push] at q; exact q)
    exact ⟨rfl, hq h' tk' (hp.objs.size + 1) dx ⟨old, Nat.le_succ _, ⟨_, _, hx, rfl, rfl, rfl, rfl⟩, Nat.le_trans (Nat.le_trans (Nat.le_succ _) (Nat.le_succ _)) z, dne, hns⟩⟩
end
end TooX
end PySem

namespace L2
open PySem PySem.Spec PyProof.Rows
theorem relO_too {v : V} {v' : Value} (r : RelV v v') (f : Str) : RelO (List.lookup f [(("limit" : Str), v)]) (if f = "limit" then some v' else none) := by
  by_cases hw : f = "limit"
  · subst hw
    rw [if_pos rfl]
    have q : List.lookup ("limit" : Str) [(("limit" : Str), v)] = some v := by simp [List.lookup]
    rw [q]
    exact r
  · rw [if_neg hw]
    have qw : (f == ("limit" : Str)) = false := by simpa using hw
    have q2 : List.lookup f [(("limit" : Str), v)] = none := by simp [List.lookup, qw]
    rw [q2]
    trivial
section
variable {X : Cx} {C fI : Addr}
/-- Low(e) -/
def tMkToo (C : Addr) (ta : TA) : St → Hp → XK → Prop := fun σ H Q => ta σ H fun vs H1 => ∃ v, vs = [v] ∧ ∀ d, H1 d = none → Q (.ref C) (some d) (upd H1 d (.xd [(("limit" : Str), v)]))
theorem pmk_too {a : Expr} {ta : TA} {p pos : Pos} {k : Nat} (T : PySem.TooX.TooTxt X.K X.mg C fI) (hr : Room k X.A) (ha : PA X [a] ta) (hg : Gl X "TooMany" := by rfl)
    (he : starEach (a :: []) X.env = (false, eval a X.env) :: starEach [] X.env := by rfl) (hpl : (backTo pos (starEach [] X.env)).any (·.1) = false := by rfl) :
    PMk X (.Call (.Name "TooMany" p) [a] [] pos) (tMkToo C ta) := by
  intro pins s σ H Q I h
  refine wpAny_Call_Name_kw (ld_glob I hg T.gC ?_)
  refine PySem.W.callWith_K (h₀ := X.base) I.ok.mod.kin T.kC (thn (ha.run pos pins s σ H _ I h) fun us s1 hh => ?_) he hpl
  obtain ⟨vs, H1, I1, r1, v, ev, q1⟩ := hh
  subst ev
  refine ⟨I1.kIn, ?_⟩
  cases r1 with
  | cons rv rn =>
    rename_i v' us'
    cases rn
    show wpAny _ _ (call (.ref C) [v']) _ _ _
    have hlim := I1.nolimit
    obtain ⟨hp, g, dr, tk, os⟩ := s1
    refine wpAny_call (PySem.TooX.too_made T I1.kIn hlim (by have := hr.dp; omega) fun h' tk' e d M => ?_)
    show MkP X pins σ Q (.ref e) ⟨h', g, dr, tk', os⟩
    obtain ⟨oe, fv, hoe, hc, hd, hdat, h1⟩ := M.obj
    have hns := M.ns
    obtain ⟨G', g1, g2⟩ := restrict h' fun b => decide (b ≠ e)
    have gk : ∀ b, b ≠ e → G'.get? b = h'.get? b := fun b hb => g1 b (decide_eq_true hb)
    have ge : G'.get? e = none := g2 e (by simp)
    have old : ∀ b o, hp.get? b = some o → G'.get? b = some o := fun b o q => (gk b (Nat.ne_of_lt (Nat.lt_of_lt_of_le (Heap.lt_size q) M.new))).trans (M.keep b o q)
    have ob : ObjOk X.prog X.w (upd H1 d (.xd [(("limit" : Str), v)])) G' d (.xd [(("limit" : Str), v)]) :=
      ⟨_, hns.at (fun o q => (gk d M.dne).trans q), fun f => relO_too rv f⟩
    have J : Inv X pins σ (upd H1 d (.xd [(("limit" : Str), v)])) ⟨G', g, dr, tk', os⟩ := I1.laid (t' := tk') old M.dbig ob
    refine ⟨e, oe, fv, ⟨G', g, dr, tk', os⟩, _, .ref C, some d, rfl, J, fun b o q => ?_, ge, hoe, ⟨hc, hd⟩, hdat, h1, ?_, rfl, I1.bare, raises_own T.exC T.tyC, q1 d (I1.hok.fresh M.dbig)⟩
    · by_cases hb : b = e
      · have q' : G'.get? b = some o := q
        rw [hb, ge] at q'; cases q'
      · exact (gk b hb).symm.trans q
    · rw [upd_ne (Ne.symm M.dne)]
      exact I1.hok.fresh M.new
/-- raise Low(e) -/
def tRaiseToo (C : Addr) (W : WX) (ta : TA) : TS := fun _ σ H => tMkToo C ta σ H fun cls d H' => W cls d σ H'
theorem ps_raiseToo {a : Expr} {ta : TA} {W : WX} {p pos pos2 : Pos} {k : Nat} (hc : X.calm = true) (T : PySem.TooX.TooTxt X.K X.mg C fI) (hr : Room k X.A) (tk : Takes X W) (ha : PA X [a] ta) (hg : Gl X "TooMany" := by rfl)
    (he : starEach (a :: []) X.env = (false, eval a X.env) :: starEach [] X.env := by rfl) (hpl : (backTo pos (starEach [] X.env)).any (·.1) = false := by rfl) :
    PS X (.Raise (some (.Call (.Name "TooMany" p) [a] [] pos)) none pos2) (tRaiseToo C W ta) := ps_raise hc tk (pmk_too T hr ha hg he hpl)
/-- low.by, low the exception that the suite holds (at a; its class cls, its dict d) -/
def tLimit (C : Addr) (a : Addr) (cls : Value) (d : Option Addr) (te : TE) : TE := fun σ H Q => te σ H fun x H1 => x = .ref a ∧ cls = .ref C ∧ ∃ (dd : Addr) (v : V), d = some dd ∧ H1 dd = some (.xd [(("limit" : Str), v)]) ∧ Q v H1
theorem pe_limit {a : Addr} {oe : Obj} {cls : Value} {d : Option Addr} {pn : List (Addr × Obj)} {e : Expr} {te : TE} {pos : Pos} (T : PySem.TooX.TooTxt X.K X.mg C fI) (hz : Zc cls d oe) (hf : ∃ vs, oe.data = .fields vs) (he : PE (X.suite a ((a, oe) :: pn)) e te)
    (hb : attributeBase e "limit" X.env (eval e X.env) = eval e X.env := by rfl) :
    PE (X.suite a ((a, oe) :: pn)) (.Attribute e "limit" pos) (tLimit C a cls d te) := by
  refine ⟨fun pins s σ H Q I h => ?_⟩
  refine attr_of hb (thn (he.run pins s σ H _ I h) fun u s1 hh => ?_)
  obtain ⟨x, H1, I1, rx, ex, ec, dd, v, ed, ea, q⟩ := hh
  subst ex
  obtain rfl : u = Value.ref a := rx
  subst ec
  subst ed
  obtain ⟨ha, _⟩ := I1.pin (a, oe) (List.mem_append_left _ List.mem_cons_self)
  obtain ⟨vs, hd⟩ := hf
  have hx : ObjOk X.prog X.w H1 s1.heap dd (.xd [(("limit" : Str), v)]) := I1.hok dd _ ea
  obtain ⟨mA, hns, hr⟩ := hx
  obtain ⟨od, ho, hl⟩ := lookIn_ns hns
  have l : List.lookup ("limit" : Str) [(("limit" : Str), v)] = some v := by simp [List.lookup]
  obtain ⟨u, hu, ru⟩ := RelO.some_of (v := v) (o := mA "limit") (by rw [← l]; exact hr "limit")
  have J : PySem.W.InstAt s1.heap a oe C (some od) := ⟨ha, hz.1, by unfold PySem.W.notCls; rw [hd] <;> rfl, by rw [hz.2]; exact ho⟩
  exact HandSPX.exc_get I1.kIn J T.ga T.gg T.exC (PySem.W.findObj_own T.hdC T.noN rfl (by rw [hl, hu])) (handed_of ru) ⟨v, H1, I1.tok _, ru, q⟩
end
end L2

/-! Rules of my own beside the hand layer. -/
namespace Tm
open PySem PySem.Spec PyProof.Rows L2

/-! ### v in o, v not in o: the class has a method for it -/
structure InM (K : PySem.W.Frag) (C f : Addr) : Prop where
  fnd : PySem.W.findIn K (.ref C) "__contains__" = some (some (.ref f))
  isf : PySem.W.isFn K (.ref f) = true
def rInO (C : Addr) (sp : Sp) (E : XK) (neg : Bool) : R2 := fun x y H Q => ∃ a dx fs, y = .ref a ∧ H a = some (.ins C dx fs) ∧
  sp [.ref a, x] H (fun v H' => ∃ b : Bool, v = .bl b ∧ Q (.bl (if neg then !b else b)) H') E
section
variable {X : Cx} {CX : CXT} {k : Nat} {C f : Addr} {fd : FuncData} {ps : List Str} {sp : Sp} {E : XK}
theorem in_run (M : InM X.K C f) (F : FnOk X.prog X.w X.K X.mg X.base CX k f fd ps sp) (hr : Room k X.A) (hb : Binds X.K fd ps []) (hx : Passes CX X E)
    {pins : List (Addr × Obj)} {σ : L2.St} {H : Hp} {s : Shared} {x : V} {v : Value} {a dx : Addr} {fs : List (Str × V)} {Q : Bool → VK} (I : Inv X pins σ H s) (rx : RelV x v) (ha : H a = some (.ins C dx fs))
    (g : Bool → Bool) (hq : sp [.ref a, x] H (fun v H' => ∃ b : Bool, v = .bl b ∧ Q b (.bl (g b)) H') E) :
    wpAny (model X.prog X.w) X.A (call (.ref f) [.ref a, v]) (fun r s' => wpAny (model X.prog X.w) X.A (truthy r) (fun b => EP X pins σ (Q b) (.bool (g b))) X.xe s') X.xe s := by
  have hv : Vals [V.ref a, x] [Value.ref a, v] := .cons rfl (.cons rx .nil)
  have run := run_fn (us := [.ref a, v]) (vs := [.ref a, x]) (Q := fun v H' => ∃ b : Bool, v = .bl b ∧ Q b (.bl (g b)) H') F hr hb .nil hx I hv (by simpa using hq)
  refine wpAny_mono run (fun r s' z => ?_) fun _ _ z => z
  obtain ⟨w, H', I', rw', b, ew, q⟩ := z
  subst ew
  have e : r = Value.bool b := rw'
  subst e
  exact wpAny_truthy_bool ⟨.bl (g b), H', I', rfl, q⟩
theorem op_inO (M : InM X.K C f) (F : FnOk X.prog X.w X.K X.mg X.base CX k f fd ps sp) (hr : Room k X.A) (hb : Binds X.K fd ps []) (hx : Passes CX X E) : OpR X (compareOp .In) (rInO C sp E false) := by
  intro pins s σ H x y v u Q I rx ry h
  obtain ⟨a, dx, fs, ey, ha, hq⟩ := h
  subst ey
  cases ry
  obtain ⟨mA, O, _⟩ := ins_get I.hok ha
  obtain ⟨od, J, _⟩ := O.look
  obtain ⟨m, hF⟩ := I.fr
  exact PySem.W.in_K hF I.ok.mod.kin J M.fnd M.isf (in_run (Q := fun _ => Q) M F hr hb hx I rx ha (fun b => b) (by simpa using hq))
theorem op_notInO (M : InM X.K C f) (F : FnOk X.prog X.w X.K X.mg X.base CX k f fd ps sp) (hr : Room k X.A) (hb : Binds X.K fd ps []) (hx : Passes CX X E) : OpR X (compareOp .NotIn) (rInO C sp E true) := by
  intro pins s σ H x y v u Q I rx ry h
  obtain ⟨a, dx, fs, ey, ha, hq⟩ := h
  subst ey
  cases ry
  obtain ⟨mA, O, _⟩ := ins_get I.hok ha
  obtain ⟨od, J, _⟩ := O.look
  obtain ⟨m, hF⟩ := I.fr
  exact PySem.W.notIn_K hF I.ok.mod.kin J M.fnd M.isf (in_run (Q := fun _ => Q) M F hr hb hx I rx ha (fun b => !b) (by simpa using hq))
end
/-! ### list(e.values()) -/
def tListVals (te : TE) : TE := fun σ H Q => te σ H fun x H1 => ∃ (d : Addr) (kvs : List (L2.Key × V)), x = .ref d ∧ H1 d = some (.dK kvs) ∧ ∀ p, H1 p = none → Q (.ref p) (upd H1 p (.lst (kvs.map (·.2))))
theorem kvals_map : ∀ {kvs : List (L2.Key × V)} {vs : List (L2.Key × Value)}, KV kvs vs → Vals (kvs.map (·.2)) (vs.map (·.2))
  | _, _, .nil => .nil
  | _, _, .cons r t => .cons r.2 (kvals_map t)
theorem vals_of_ix {vs : List (L2.Key × Value)} (acc : List Value) (hl : acc.length = vs.length) (h : ∀ (i : Nat) (v : Value), acc[i]? = some v → ∃ k : L2.Key, vs[i]? = some (k, v)) : acc = vs.map (·.2) := by
  apply List.ext_getElem?
  intro i
  rw [List.getElem?_map]
  cases e : acc[i]? with
  | none =>
    have : vs.length ≤ i := by rw [← hl]; exact List.getElem?_eq_none_iff.mp e
    rw [List.getElem?_eq_none_iff.mpr this]; rfl
  | some v =>
    obtain ⟨k, hk⟩ := h i v e
    rw [hk]; rfl
section
variable {X : Cx} {e : Expr} {te : TE} {p apos cpos pos : Pos}
theorem pe_listVals (hc : X.calm = true) (he : PE X e te) (hg : Gl X "list") (hm : X.mg "list" = none)
    (hb : attributeBase e "values" X.env (eval e X.env) = eval e X.env := by rfl) (hli : (apos.endLine == cpos.line) = true := by rfl)
    (hst : starEach [.Call (.Attribute e "values" apos) [] [] cpos] X.env = (false, eval (.Call (.Attribute e "values" apos) [] [] cpos) X.env) :: starEach [] X.env := by rfl) :
    PE X (.Call (.Name "list" p) [.Call (.Attribute e "values" apos) [] [] cpos] [] pos) (tListVals te) := by
  refine ⟨fun pins s σ H Q I hq => ?_⟩
  have hv : bootBuiltins "list" = some (.type "list") := by decide +kernel
  refine wpAny_Call_Name_kw (ld_blt I hg hm hv ?_)
  refine PyProof.Rows.callWith_type1 ?_ hst rfl
  rw [hst]
  show wpAny _ _ (spliced ((false, eval (.Call (.Attribute e "values" apos) [] [] cpos) X.env) :: backTo pos (starEach [] X.env))) _ _ s
  refine Calls.spliced_cons ?_
  have evd := he.run pins s σ H _ I hq
  refine wpAny_Call_method (T := "dict") (id := "dict.values") hb rfl hli F.plainAttrs_dict F.slot_dict_values F.type_dict_values (thn evd fun u s1 z => ?_)
  obtain ⟨x, H1, I1, rx, d, kvs, ex, hd, q⟩ := z
  subst ex
  have eu : u = Value.ref d := rx
  subst eu
  obtain ⟨hz, sys, vs, kv, hdo⟩ := I1.hok d _ hd
  obtain ⟨ep, hat⟩ := hdo.dictAt
  have lk : kvs.length = vs.length := Paired.length kv
  generalize hview : ({ cls := .type "dict_values", data := .fields #[.ref d] } : Obj) = view
  have I2 : Inv X pins σ H1 { s1 with heap := s1.heap.push view } := I1.kept (t' := s1.toks) fun b ob q => Heap.get?_push_of_some _ q
  refine ⟨hdo.typeIs, hdo.mapOf.noDict, ?_⟩
  show wpAny _ _ (callWith cpos (.builtin "dict.values") [.ref d] [] []) _ X.xe s1
  refine method_meetsIn F.slot_dict_values F.entry_dict_values rfl (PySem.evalArgs_none ⟨rfl, hdo.typeIs, F.args_dict_values_1 _, _, meets_dict_values (mixKind X.prog X.w) d sys, ⟨vs, hdo⟩, ?_⟩)
  subst hview
  refine Calls.spliced_nil ?_
  refine PySem.W.kdl_call (PySem.W.kdl_values (knd := mixKind X.prog X.w) (kvs := vs) (ep := ep)) (I1.ok.hd hc) ⟨⟨_, Heap.get?_push_size _ rfl, rfl, rfl⟩, hat.push _⟩ (by rw [← lk]; exact hz) fun h' tk acc c hk hS hacc => ?_
  have new : H1 (s1.heap.push ({ cls := .type "dict_values", data := .fields #[.ref d] } : Obj)).objs.size = none := I2.hok.fresh (Nat.le_refl _)
  have ea : acc.toList = vs.map (·.2) := vals_of_ix acc.toList (by rw [Array.length_toList]; exact hacc.1) fun i v hv' => hacc.2 i v (by rw [← Array.getElem?_toList]; exact hv')
  refine ⟨.ref _, _, I2.laid (t' := tk) (o := .lst (kvs.map (·.2))) hk (Nat.le_refl _) ⟨by rw [List.length_map]; exact hz, acc.toList, c, ?_, ?_⟩, rfl, q _ new⟩
  · rw [ea]; exact kvals_map kv
  · rw [Array.toArray_toList]; exact hS
end
end Tm

namespace Tm
open PySem PySem.Spec PyProof.Rows L2

/-! ### calls by name: a def of the top, a method, a property, the class -/
section
variable (P : Program) (w : World) (K : PySem.W.Frag) (mg : Str → Option Value) (base : Heap)
/-- the name x of the top stands for a def that keeps its promise -/
structure Ok (x : Str) (k : Nat) (ps : List Str) (sp : Sp) : Prop where
  ex : ∃ (f : Addr) (fd : FuncData), mg x = some (.ref f) ∧ PySem.W.keepIn K (.ref f) = true ∧ FnOk P w K mg base CX0 k f fd ps sp ∧ Binds K fd ps []
structure OkM (C : Addr) (m : Str) (k : Nat) (ps : List Str) (sp : Sp) : Prop where
  ex : ∃ (f : Addr) (fd : FuncData), Meth K C m f ∧ FnOk P w K mg base CX0 k f fd ps sp ∧ Binds K fd ps []
structure OkP (C : Addr) (m : Str) (k : Nat) (sp : Sp) : Prop where
  ex : ∃ (p g : Addr) (fd : FuncData), PropOf K C m p g ∧ FnOk P w K mg base CX0 k g fd ["self"] sp ∧ Binds K fd ["self"] []
structure OkC (x : Str) (C : Addr) (k : Nat) (ps : List Str) (sp : Sp) : Prop where
  ex : ∃ (f : Addr) (fd : FuncData), mg x = some (.ref C) ∧ Mk K C f ∧ FnOk P w K mg base CX0 k f fd ps sp ∧ Binds K fd ps []
structure OkIn (C : Addr) (k : Nat) (ps : List Str) (sp : Sp) : Prop where
  ex : ∃ (f : Addr) (fd : FuncData), InM K C f ∧ FnOk P w K mg base CX0 k f fd ps sp ∧ Binds K fd ps []
end
section
variable {X : Cx} {x m : Str} {k j : Nat} {C : Addr} {ps : List Str} {sp : Sp} {o e : Expr} {es : List Expr} {ta : TE} {t : TA} {p apos pos : Pos}
theorem Ok.call (O : Ok X.prog X.w X.K X.mg X.base x k ps sp) (hr : Room j X.A) (hk : k ≤ j := by decide) (ha : PA X (e :: es) t) (hg : Gl X x := by rfl) (hdb : (x == ("__debug__" : Str)) = false := by decide)
    (he : starEach (e :: es) X.env = (false, eval e X.env) :: starEach es X.env := by rfl) (hpl : (backTo pos (starEach es X.env)).any (·.1) = false := by rfl) :
    PE X (.Call (.Name x p) (e :: es) [] pos) (tCall sp [] E0 t) := by
  obtain ⟨f, fd, h1, h2, h3, h4⟩ := O.ex
  exact pe_call h3 (hr.mono hk) hg h1 h2 h4 .nil pass0 ha hdb he hpl
theorem Ok.call0 (O : Ok X.prog X.w X.K X.mg X.base x k ps sp) (hr : Room j X.A) (hk : k ≤ j := by decide) (hg : Gl X x := by rfl) (hdb : (x == ("__debug__" : Str)) = false := by decide) :
    PE X (.Call (.Name x p) [] [] pos) (tCall sp [] E0 tNil) := by
  obtain ⟨f, fd, h1, h2, h3, h4⟩ := O.ex
  exact pe_call0 h3 (hr.mono hk) hg h1 h2 h4 .nil pass0 hdb
theorem OkM.call {pl : Sem Bool} (O : OkM X.prog X.w X.K X.mg X.base C m k ps sp) (hr : Room j X.A) (c : Cls X.K C) (hk : k ≤ j := by decide) (he : PE X o ta) (ha : PA X (e :: es) t)
    (hst : starEach (e :: es) X.env = (false, eval e X.env) :: starEach es X.env := by rfl) (hpl : (backTo pos (starEach es X.env)).any (·.1) = false := by rfl)
    (ht : eval (.Call (.Attribute o m apos) (e :: es) [] pos) X.env = (do
      let v ← eval o X.env
      standAt apos.atName
      let (g, one) ← holding [v] (getMethod v m pl)
      callWith pos g one (backTo pos (starEach (e :: es) X.env)) (backToKw pos (keywordEach [] X.env))) := by rfl) :
    PE X (.Call (.Attribute o m apos) (e :: es) [] pos) (tMeth C m sp [] E0 ta t) := by
  obtain ⟨f, fd, h1, h2, h3⟩ := O.ex
  exact pe_meth he c h1 h2 (hr.mono hk) h3 .nil pass0 ha hst hpl ht
theorem OkP.get (O : OkP X.prog X.w X.K X.mg X.base C m k sp) (hr : Room j X.A) (c : Cls X.K C) (hk : k + 1 ≤ j := by decide) (he : PE X e ta) (hab : attributeBase e m X.env (eval e X.env) = eval e X.env := by rfl) :
    PE X (.Attribute e m pos) (tProp C sp [] E0 ta) := by
  obtain ⟨p, g, fd, h1, h2, h3⟩ := O.ex
  exact pe_prop he c h1 h2 (hr.mono hk) h3 .nil pass0 hab
theorem OkC.make (O : OkC X.prog X.w X.K X.mg X.base x C k ps sp) (hr : Room j X.A) (hk : k + 1 ≤ j := by decide) (ha : PA X (e :: es) t) (hg : Gl X x := by rfl) (hdb : (x == ("__debug__" : Str)) = false := by decide)
    (he : starEach (e :: es) X.env = (false, eval e X.env) :: starEach es X.env := by rfl) (hpl : (backTo pos (starEach es X.env)).any (·.1) = false := by rfl) :
    PE X (.Call (.Name x p) (e :: es) [] pos) (tMake C sp [] E0 t) := by
  obtain ⟨f, fd, h1, h2, h3, h4⟩ := O.ex
  exact pe_make h2 h3 (hr.mono hk) hg h1 h4 .nil pass0 ha hdb he hpl
theorem OkIn.isIn (O : OkIn X.prog X.w X.K X.mg X.base C k ps sp) (hr : Room j X.A) (hk : k ≤ j := by decide) : OpR X (compareOp .In) (rInO C sp E0 false) := by
  obtain ⟨f, fd, h1, h2, h3⟩ := O.ex
  exact op_inO h1 h2 (hr.mono hk) h3 pass0
theorem OkIn.notIn (O : OkIn X.prog X.w X.K X.mg X.base C k ps sp) (hr : Room j X.A) (hk : k ≤ j := by decide) : OpR X (compareOp .NotIn) (rInO C sp E0 true) := by
  obtain ⟨f, fd, h1, h2, h3⟩ := O.ex
  exact op_notInO h1 h2 (hr.mono hk) h3 pass0
end
/-! ### heaps that keep their tuples -/
def TupS (H H' : Hp) : Prop := ∀ a xs, H a = some (.tup xs) → H' a = some (.tup xs)
theorem tups_of {H H' : Hp} (e : Same H H') : TupS H H' := fun a xs h => e a _ h
theorem TupS.trans {H H1 H2 : Hp} (a : TupS H H1) (b : TupS H1 H2) : TupS H H2 := fun c xs h => b c xs (a c xs h)
theorem TupS.refl (H : Hp) : TupS H H := fun _ _ h => h
theorem tups_upd {H : Hp} {p : Addr} {o u : HO} (h : H p = some u) (hu : ∀ xs, u ≠ .tup xs) : TupS H (upd H p o) := fun a xs e => by
  rw [upd_ne (ne_of e h (fun z => hu xs z.symm))]; exact e
theorem same_new {H : Hp} {p : Addr} {o : HO} (h : H p = none) : Same H (upd H p o) := fun a u e => by
  rw [upd_ne (ne_of_none e h)]; exact e
theorem same_mut {H H' : Hp} {p : Addr} {o : HO} (e : Same H H') (h : H p = none) : Same H (upd H' p o) := fun a u ha => by
  rw [upd_ne (ne_of_none ha h)]; exact e a u ha
theorem sz_le {n : Nat} (h : n ≤ 100000) : n ≤ sizeLine := Nat.le_trans h (by decide)
theorem sz_lt {n : Nat} (h : n < 100000) : n < sizeLine := Nat.lt_of_lt_of_le h (by decide)

/-! ### what a reading gives, all that was tracked kept -/
def Ev (te : TE) (σ : L2.St) (H : Hp) (P : V → Hp → Prop) : Prop := ∀ Q : VK, (∀ v H', Same H H' → P v H' → Q v H') → te σ H Q
def EvT (t : TT) (σ : L2.St) (H : Hp) (b : Bool) : Prop := ∀ Q : Bool → Hp → Prop, (∀ H', Same H H' → Q b H') → t σ H Q
def EvA (t : TA) (σ : L2.St) (H : Hp) (P : List V → Hp → Prop) : Prop := ∀ Q : List V → Hp → Prop, (∀ vs H', Same H H' → P vs H' → Q vs H') → t σ H Q
section
variable {σ : L2.St} {H : Hp} {te ta tb : TE} {t : TA} {v x y : V} {P : V → Hp → Prop}
theorem Ev.imp {P' : V → Hp → Prop} (h : Ev te σ H P) (i : ∀ v H', Same H H' → P v H' → P' v H') : Ev te σ H P' := fun Q q => h Q fun v H' e p => q v H' e (i v H' e p)
theorem Ev.go {Q : VK} (h : Ev te σ H P) (q : ∀ v H', Same H H' → P v H' → Q v H') : te σ H Q := h Q q
theorem ev_is {i : Nat} (h : σ[i]? = some (some v)) (p : P v H) : Ev (tVar i) σ H P := fun Q q => ⟨v, h, q v H (Same.refl H) p⟩
theorem ev_c (p : P v H) : Ev (tC v) σ H P := fun Q q => q v H (Same.refl H) p
theorem eva_nil : EvA tNil σ H (fun vs _ => vs = []) := fun Q q => q [] H (Same.refl H) rfl
theorem eva_cons {P : V → Hp → Prop} {P2 : V → List V → Hp → Prop} (h : Ev te σ H P) (k : ∀ v H1, Same H H1 → P v H1 → EvA t σ H1 (P2 v)) : EvA (tCons te t) σ H (fun vs H' => ∃ v r H1, vs = v :: r ∧ Same H1 H' ∧ P v H1 ∧ P2 v r H') := fun Q q =>
  h _ fun v H1 e1 p1 => k v H1 e1 p1 _ fun r H2 e2 p2 => q (v :: r) H2 (e1.trans e2) ⟨v, r, H1, rfl, e2, p1, p2⟩
end
/-! ### comprehensions over any walk -/
/-- what the list at D is so far -/
def LcInv {α : Type} (H1 : Hp) (D : Addr) (zs : List α) (b : α → Bool) (R : α → V → Hp → Prop) (i : Nat) (H : Hp) : Prop :=
  H1 D = none ∧ Same H1 H ∧ ∃ ys, H D = some (.lst ys) ∧ Paired (fun v z => R z v H) ys ((zs.take i).filter b)
theorem take_one {α : Type} : ∀ {l : List α} {i : Nat} {x : α}, l[i]? = some x → l.take (i + 1) = l.take i ++ [x]
  | [], i, x, h => by simp at h
  | a :: l, 0, x, h => by
    have e : a = x := by simpa using h
    subst e; rfl
  | a :: l, i + 1, x, h => by
    have ih := take_one (l := l) (i := i) (x := x) (by simpa using h)
    show a :: l.take (i + 1) = (a :: l.take i) ++ [x]
    rw [ih]; rfl
theorem paired_app {α β : Type} {F : α → β → Prop} : ∀ {xs : List α} {ys : List β} {x : α} {y : β}, Paired F xs ys → F x y → Paired F (xs ++ [x]) (ys ++ [y])
  | _, _, _, _, .nil, h => .cons h .nil
  | _, _, _, _, .cons r t, h => .cons r (paired_app t h)
theorem lcinv_step {α : Type} {H1 H H2 : Hp} {D : Addr} {zs : List α} {b : α → Bool} {R : α → V → Hp → Prop} {i : Nat} {z : α} {σ2 : L2.St} {tt : TT} {te : TE}
    (hR : ∀ z v H H', TupS H H' → R z v H → R z v H') (hz : zs.length ≤ 100000) (hi : zs[i]? = some z) (p : LcInv H1 D zs b R i H) (e2 : Same H H2)
    (ht : EvT tt σ2 H2 (b z)) (he : b z = true → ∀ H3, Same H2 H3 → Ev te σ2 H3 (R z)) :
    tt σ2 H2 fun c H3 => if c = true then te σ2 H3 fun y H4 => ∃ acc, H4 D = some (.lst acc) ∧ acc.length < sizeLine ∧ LcInv H1 D zs b R (i + 1) (upd H4 D (.lst (acc ++ [y]))) else LcInv H1 D zs b R (i + 1) H3 := by
  obtain ⟨hD, e, ys, hys, hp⟩ := p
  refine ht _ fun H3 e3 => ?_
  cases hb : b z with
  | false =>
    rw [if_neg (by decide)]
    refine ⟨hD, e.trans (e2.trans e3), ys, e3 _ _ (e2 _ _ hys), ?_⟩
    rw [take_one hi, List.filter_append, List.filter_cons, if_neg (by rw [hb]; decide)]
    show Paired _ ys (_ ++ [])
    rw [List.append_nil]
    exact Paired.mapP hp fun v z r => hR _ _ _ _ (tups_of (e2.trans e3)) r
  | true =>
    rw [if_pos rfl]
    refine he hb H3 e3 _ fun y H4 e4 ry => ?_
    have hD4 : H4 D = some (.lst ys) := e4 _ _ (e3 _ _ (e2 _ _ hys))
    have hlt : ys.length < 100000 := by
      have l1 := Paired.length hp
      have l2 := List.length_filter_le b (zs.take i)
      have l3 := List.length_take_le i zs
      have l4 : i < zs.length := (List.getElem?_eq_some_iff.mp hi).1
      rw [List.length_take] at l2
      omega
    have tu : TupS H4 (upd H4 D (.lst (ys ++ [y]))) := tups_upd hD4 (fun xs z => by cases z)
    refine ⟨ys, hD4, sz_lt hlt, hD, same_mut (e.trans (e2.trans (e3.trans e4))) hD, ys ++ [y], upd_same, ?_⟩
    rw [take_one hi, List.filter_append, List.filter_cons, if_pos hb]
    exact paired_app (Paired.mapP hp fun v z r => hR _ _ _ _ ((tups_of (e2.trans (e3.trans e4))).trans tu) r) (hR _ _ _ _ tu ry)
/-- a list comprehension, over any walk -/
theorem lc_go {α : Type} {J : It} {n : Nat} {G : Hp → Prop} {Y : Nat → Hp → V → Hp → Prop} (w : Walk J n G Y) {g : TG} {tt : TT} {te : TE} {vs : List Nat} {σ : L2.St} {H1 : Hp} {Q : VK}
    (zs : List α) (b : α → Bool) (R : α → V → Hp → Prop) (hn : zs.length = n) (hz : n ≤ 100000) (hR : ∀ z v H H', TupS H H' → R z v H → R z v H') (hG : ∀ H, Same H1 H → G H)
    (hs : ∀ (i : Nat) z x H H', zs[i]? = some z → Same H1 H → Y i H x H' → ∀ Qg : L2.St → Hp → Prop, (∀ σ2 H2, wipe σ2 vs = wipe σ vs → Same H H2 → EvT tt σ2 H2 (b z) → (b z = true → ∀ H3, Same H2 H3 → Ev te σ2 H3 (R z)) → Qg σ2 H2) → g x (wipe σ vs) H' Qg)
    (hq : ∀ p H ys, H1 p = none → Same H1 H → H p = some (.lst ys) → Paired (fun v z => R z v H) ys (zs.filter b) → Q (.ref p) H) :
    ∀ D, H1 D = none → ∃ W : Nat → Nat → Hp → Prop, (∃ m, W 0 m (upd H1 D (.lst []))) ∧ ∀ i m H, W i m H → (J.stop i H ∧ Q (.ref D) H) ∨ (J.go i H ∧ ∃ Nx : Hp → Prop, (∀ H', Nx H' → ∃ m', m' < m ∧ W (i + 1) m' H') ∧
      ∀ x H', J.yld i H x H' → g x (wipe σ vs) H' fun σ2 H2 => wipe σ2 vs = wipe σ vs ∧ tt σ2 H2 fun b H3 => if b = true then te σ2 H3 fun y H4 => ∃ acc, H4 D = some (.lst acc) ∧ acc.length < sizeLine ∧ Nx (upd H4 D (.lst (acc ++ [y]))) else Nx H3) := by
  intro D hD
  refine lc_it w (LcInv H1 D zs b R) ⟨hD, same_new hD, [], upd_same, .nil⟩ (fun i H _ p => hG H p.2.1) (fun i x H H' hi p y => ?_) (fun H p => ?_)
  · obtain ⟨z, hz'⟩ : ∃ z, zs[i]? = some z := ⟨zs[i]'(by omega), List.getElem?_eq_getElem (by omega)⟩
    exact hs i z x H H' hz' p.2.1 y _ fun σ2 H2 hw e2 ht he => ⟨hw, lcinv_step hR (by omega) hz' p e2 ht he⟩
  · obtain ⟨_, e, ys, hys, hp⟩ := p
    rw [← hn, List.take_length] at hp
    exact hq D H ys hD e hys hp
/-- .. each item given to one name -/
theorem lc_name {α : Type} {J : It} {G : Hp → Prop} {Y : Nat → Hp → V → Hp → Prop} {n j : Nat} (w : Walk J n G Y) {tt : TT} {te : TE} {vs : List Nat} {σ : L2.St} {H1 : Hp} {Q : VK}
    (zs : List α) (b : α → Bool) (R : α → V → Hp → Prop) (hn : zs.length = n) (hz : n ≤ 100000) (hw : ∀ x, wipe ((wipe σ vs).set j (some x)) vs = wipe σ vs) (hR : ∀ z v H H', TupS H H' → R z v H → R z v H') (hG : ∀ H, Same H1 H → G H)
    (hY : ∀ i H x H', Y i H x H' → Same H H')
    (hs : ∀ (i : Nat) z x H H', zs[i]? = some z → Same H1 H → Y i H x H' → EvT tt ((wipe σ vs).set j (some x)) H' (b z) ∧ (b z = true → ∀ H3, Same H' H3 → Ev te ((wipe σ vs).set j (some x)) H3 (R z)))
    (hq : ∀ p H ys, H1 p = none → Same H1 H → H p = some (.lst ys) → Paired (fun v z => R z v H) ys (zs.filter b) → Q (.ref p) H) :
    ∀ D, H1 D = none → ∃ W : Nat → Nat → Hp → Prop, (∃ m, W 0 m (upd H1 D (.lst []))) ∧ ∀ i m H, W i m H → (J.stop i H ∧ Q (.ref D) H) ∨ (J.go i H ∧ ∃ Nx : Hp → Prop, (∀ H', Nx H' → ∃ m', m' < m ∧ W (i + 1) m' H') ∧
      ∀ x H', J.yld i H x H' → gName j x (wipe σ vs) H' fun σ2 H2 => wipe σ2 vs = wipe σ vs ∧ tt σ2 H2 fun b H3 => if b = true then te σ2 H3 fun y H4 => ∃ acc, H4 D = some (.lst acc) ∧ acc.length < sizeLine ∧ Nx (upd H4 D (.lst (acc ++ [y]))) else Nx H3) :=
  lc_go w zs b R hn hz hR hG (fun i z x H H' hi e y Qg q => q _ _ (hw x) (hY i H x H' y) (hs i z x H H' hi e y).1 (hs i z x H H' hi e y).2) hq
theorem evt_yes {σ : L2.St} {H : Hp} : EvT tYes σ H true := fun Q q => q H (Same.refl H)
theorem filter_all {α : Type} : ∀ (l : List α), l.filter (fun _ => true) = l
  | [] => rfl
  | a :: l => by rw [List.filter_cons, if_pos rfl, filter_all l]
end Tm

namespace Tm
open PySem PySem.Spec PyProof.Rows L2

/-! ### dict comprehensions over any walk: keys that differ -/
def DcInv {α : Type} (H1 : Hp) (D : Addr) (zs : List α) (b : α → Bool) (key : α → L2.Key) (R : α → V → Hp → Prop) (i : Nat) (H : Hp) : Prop :=
  H1 D = none ∧ Same H1 H ∧ ∃ kvs, H D = some (.dK kvs) ∧ Paired (fun kv z => kv.1 = key z ∧ R z kv.2 H) kvs ((zs.take i).filter b)
theorem valV_no {kvs : List (L2.Key × V)} {k : L2.Key} (h : k ∉ kvs.map (·.1)) : valV kvs k = none := by
  unfold valV
  rw [List.find?_eq_none.mpr fun kv hkv => by
    simp only [decide_eq_true_eq]
    intro e
    exact h (List.mem_map.mpr ⟨kv, hkv, e⟩)]
  rfl
theorem paired_keys {α : Type} {key : α → L2.Key} {F : L2.Key × V → α → Prop} (hF : ∀ kv z, F kv z → kv.1 = key z) : ∀ {kvs : List (L2.Key × V)} {zs : List α}, Paired F kvs zs → kvs.map (·.1) = zs.map key
  | _, _, .nil => rfl
  | _, _, .cons r t => by
    rw [List.map_cons, List.map_cons, paired_keys hF t, hF _ _ r]
theorem nd_split {α : Type} {l : List α} {i : Nat} {x : α} (h : l.Nodup) (hi : l[i]? = some x) : x ∉ l.take i := fun hm => by
  obtain ⟨j, hj, e⟩ := List.mem_iff_getElem.mp hm
  rw [List.length_take] at hj
  rw [List.getElem_take] at e
  obtain ⟨h1, e1⟩ := List.getElem?_eq_some_iff.mp hi
  have := (List.getElem_inj h).mp (e.trans e1.symm)
  omega
theorem dcinv_step {α : Type} {H1 H H2 : Hp} {D : Addr} {zs : List α} {b : α → Bool} {key : α → L2.Key} {R : α → V → Hp → Prop} {i : Nat} {z : α} {σ2 : L2.St} {tt : TT} {tk tv : TE}
    (hR : ∀ z v H H', TupS H H' → R z v H → R z v H') (hz : zs.length ≤ 100000) (nd : (zs.map key).Nodup) (hi : zs[i]? = some z) (p : DcInv H1 D zs b key R i H) (e2 : Same H H2)
    (ht : EvT tt σ2 H2 (b z)) (hk : b z = true → ∀ H3, Same H2 H3 → Ev tk σ2 H3 (fun v _ => v = kV (key z))) (he : b z = true → ∀ H3, Same H2 H3 → Ev tv σ2 H3 (R z)) :
    tt σ2 H2 fun c H3 => if c = true then tk σ2 H3 fun y H4 => tv σ2 H4 fun v H5 => ∃ kvs k, y = kV k ∧ H5 D = some (.dK kvs) ∧ kvs.length < sizeLine ∧ DcInv H1 D zs b key R (i + 1) (upd H5 D (.dK (putK kvs k v))) else DcInv H1 D zs b key R (i + 1) H3 := by
  obtain ⟨hD, e, kvs, hys, hp⟩ := p
  refine ht _ fun H3 e3 => ?_
  cases hb : b z with
  | false =>
    rw [if_neg (by decide)]
    refine ⟨hD, e.trans (e2.trans e3), kvs, e3 _ _ (e2 _ _ hys), ?_⟩
    rw [take_one hi, List.filter_append, List.filter_cons, if_neg (by rw [hb]; decide)]
    show Paired _ kvs (_ ++ [])
    rw [List.append_nil]
    exact Paired.mapP hp fun v z r => ⟨r.1, hR _ _ _ _ (tups_of (e2.trans e3)) r.2⟩
  | true =>
    rw [if_pos rfl]
    refine hk hb H3 e3 _ fun y H4 e4 ey => ?_
    refine he hb H4 (e3.trans e4) _ fun v H5 e5 rv => ?_
    have hD5 : H5 D = some (.dK kvs) := e5 _ _ (e4 _ _ (e3 _ _ (e2 _ _ hys)))
    have hlt : kvs.length < 100000 := by
      have l1 := Paired.length hp
      have l2 := List.length_filter_le b (zs.take i)
      have l4 : i < zs.length := (List.getElem?_eq_some_iff.mp hi).1
      rw [List.length_take] at l2
      omega
    have hno : key z ∉ kvs.map (·.1) := by
      rw [paired_keys (fun kv z h => h.1) hp]
      intro hm
      obtain ⟨z', hz', e'⟩ := List.mem_map.mp hm
      have h1 := (List.mem_filter.mp hz').1
      have h2 : key z ∉ (zs.map key).take i := nd_split nd (by rw [List.getElem?_map, hi]; rfl)
      rw [← List.map_take] at h2
      exact h2 (List.mem_map.mpr ⟨z', h1, e'⟩)
    have ep : putK kvs (key z) v = kvs ++ [(key z, v)] := putK_new _ (valV_no hno)
    have tu : ∀ o, TupS H5 (upd H5 D o) := fun o => tups_upd hD5 (fun xs z => by cases z)
    refine ⟨kvs, key z, ey, hD5, sz_lt hlt, hD, same_mut (e.trans (e2.trans (e3.trans (e4.trans e5)))) hD, kvs ++ [(key z, v)], by rw [ep]; exact upd_same, ?_⟩
    rw [take_one hi, List.filter_append, List.filter_cons, if_pos hb]
    exact paired_app (Paired.mapP hp fun v z r => ⟨r.1, hR _ _ _ _ ((tups_of (e2.trans (e3.trans (e4.trans e5)))).trans (tu _)) r.2⟩) ⟨rfl, hR _ _ _ _ (tu _) rv⟩
theorem dc_go {α : Type} {J : It} {n : Nat} {G : Hp → Prop} {Y : Nat → Hp → V → Hp → Prop} (w : Walk J n G Y) {g : TG} {tt : TT} {tk tv : TE} {vs : List Nat} {σ : L2.St} {H1 : Hp} {Q : VK}
    (zs : List α) (b : α → Bool) (key : α → L2.Key) (R : α → V → Hp → Prop) (hn : zs.length = n) (hz : n ≤ 100000) (nd : (zs.map key).Nodup) (hR : ∀ z v H H', TupS H H' → R z v H → R z v H') (hG : ∀ H, Same H1 H → G H)
    (hs : ∀ (i : Nat) z x H H', zs[i]? = some z → Same H1 H → Y i H x H' → ∀ Qg : L2.St → Hp → Prop, (∀ σ2 H2, wipe σ2 vs = wipe σ vs → Same H H2 → EvT tt σ2 H2 (b z) →
      (b z = true → ∀ H3, Same H2 H3 → Ev tk σ2 H3 (fun v _ => v = kV (key z))) → (b z = true → ∀ H3, Same H2 H3 → Ev tv σ2 H3 (R z)) → Qg σ2 H2) → g x (wipe σ vs) H' Qg)
    (hq : ∀ p H kvs, H1 p = none → Same H1 H → H p = some (.dK kvs) → Paired (fun kv z => kv.1 = key z ∧ R z kv.2 H) kvs (zs.filter b) → Q (.ref p) H) :
    ∀ D, H1 D = none → ∃ W : Nat → Nat → Hp → Prop, (∃ m, W 0 m (upd H1 D (.dK []))) ∧ ∀ i m H, W i m H → (J.stop i H ∧ Q (.ref D) H) ∨ (J.go i H ∧ ∃ Nx : Hp → Prop, (∀ H', Nx H' → ∃ m', m' < m ∧ W (i + 1) m' H') ∧
      ∀ x H', J.yld i H x H' → g x (wipe σ vs) H' fun σ2 H2 => wipe σ2 vs = wipe σ vs ∧ tt σ2 H2 fun b H3 => if b = true then tk σ2 H3 fun y H4 => tv σ2 H4 fun z H5 => ∃ kvs k, y = kV k ∧ H5 D = some (.dK kvs) ∧ kvs.length < sizeLine ∧ Nx (upd H5 D (.dK (putK kvs k z))) else Nx H3) := by
  intro D hD
  refine ⟨fun i m H => m = n - i ∧ i ≤ n ∧ DcInv H1 D zs b key R i H, ⟨n, by simp, Nat.zero_le _, hD, same_new hD, [], upd_same, .nil⟩, ?_⟩
  rintro i m H ⟨em, hi, p⟩
  have q := hG H p.2.1
  by_cases hlt : i < n
  · refine .inr ⟨w.goes i H hlt q, DcInv H1 D zs b key R (i + 1), fun H' p' => ⟨n - (i + 1), by omega, rfl, hlt, p'⟩, fun x H' y => ?_⟩
    obtain ⟨z, hz'⟩ : ∃ z, zs[i]? = some z := ⟨zs[i]'(by omega), List.getElem?_eq_getElem (by omega)⟩
    exact hs i z x H H' hz' p.2.1 (w.yields i H x H' hlt q y) _ fun σ2 H2 hw e2 ht hk he => ⟨hw, dcinv_step hR (by omega) nd hz' p e2 ht hk he⟩
  · have e : i = n := by omega
    subst e
    obtain ⟨_, e, kvs, hys, hp⟩ := p
    rw [← hn, List.take_length] at hp
    exact .inl ⟨w.stops H q, hq D H kvs hD e hys hp⟩
/-! ### a pair unpacked into two names -/
theorem pair_names {K : PySem.W.Frag} {i j : Nat} {σ : L2.St} {H : Hp} {T : Addr} {x y : V} {Q : L2.St → Hp → Prop} (hT : SqT K H T [x, y]) (q : Q ((σ.set i (some x)).set j (some y)) H) :
    gTup K 2 (gCons (gName i) (gCons (gName j) gNil)) (.ref T) σ H Q := ⟨T, [x, y], rfl, hT, rfl, x, [y], rfl, y, [], rfl, rfl, q⟩

/-! ### pairs, rows, tables -/
abbrev Row := List (Int × Int)
abbrev Tab := List (Str × Row)
def PairV (H : Hp) (v : V) (p : Int × Int) : Prop := ∃ a, v = .ref a ∧ H a = some (.tup [.int p.1, .int p.2])
def RowV (H : Hp) (v : V) (r : Row) : Prop := ∃ a vs, v = .ref a ∧ H a = some (.tup vs) ∧ Paired (PairV H) vs r
def TabV (H : Hp) (kvs : List (L2.Key × V)) (t : Tab) : Prop := Paired (fun kv e => kv.1 = Sum.inr e.1 ∧ RowV H kv.2 e.2) kvs t
theorem PairV.mono {H H' : Hp} {v : V} {p : Int × Int} (e : TupS H H') (h : PairV H v p) : PairV H' v p := by
  obtain ⟨a, e1, e2⟩ := h
  exact ⟨a, e1, e a _ e2⟩
theorem RowV.mono {H H' : Hp} {v : V} {r : Row} (e : TupS H H') (h : RowV H v r) : RowV H' v r := by
  obtain ⟨a, vs, e1, e2, e3⟩ := h
  exact ⟨a, vs, e1, e a _ e2, Paired.mapP e3 fun _ _ h => h.mono e⟩
theorem TabV.mono {H H' : Hp} {kvs : List (L2.Key × V)} {t : Tab} (e : TupS H H') (h : TabV H kvs t) : TabV H' kvs t :=
  Paired.mapP h fun _ _ h => ⟨h.1, h.2.mono e⟩
theorem paired_ix {α β : Type} {F : α → β → Prop} : ∀ {xs : List α} {ys : List β} {i : Nat} {y : β}, Paired F xs ys → ys[i]? = some y → ∃ x, xs[i]? = some x ∧ F x y
  | _, _, i, y, .nil, h => by simp at h
  | _, _, 0, y, .cons r t, h => by
    simp at h
    subst h
    exact ⟨_, rfl, r⟩
  | _, _, i + 1, y, .cons r t, h => by
    obtain ⟨x, h1, h2⟩ := paired_ix (i := i) t (by simpa using h)
    exact ⟨x, by simpa using h1, h2⟩
theorem paired_ix2 {α β : Type} {F : α → β → Prop} : ∀ {xs : List α} {ys : List β} {i : Nat} {x : α}, Paired F xs ys → xs[i]? = some x → ∃ y, ys[i]? = some y ∧ F x y
  | _, _, i, y, .nil, h => by simp at h
  | _, _, 0, y, .cons r t, h => by
    simp at h
    subst h
    exact ⟨_, rfl, r⟩
  | _, _, i + 1, y, .cons r t, h => by
    obtain ⟨x, h1, h2⟩ := paired_ix2 (i := i) t (by simpa using h)
    exact ⟨x, by simpa using h1, h2⟩
/-! ### what a right table is -/
def okName (x : Str) : Bool := decide (1 ≤ x.length) && decide (x.length ≤ 8) && x.cps.toList.all fun c => decide (97 ≤ c) && decide (c ≤ 122)
def okPair (n : Nat) (p : Int × Int) : Bool := decide (0 ≤ p.1) && decide (p.1 ≤ (n : Int) - 1) && decide (0 ≤ p.2) && decide (p.2 ≤ 99)
def okRow (n : Nat) (r : Row) : Bool := decide (r.length = n) && r.all (okPair n)
def sizeT (t : Tab) : Nat := match t with
  | [] => 0
  | e :: _ => e.2.length
def okTab (t : Tab) : Bool := decide (1 ≤ t.length) && decide (t.length ≤ 6) && decide (1 ≤ sizeT t) && decide (sizeT t ≤ 12) && t.all fun e => okName e.1 && okRow (sizeT t) e.2
theorem pe_ty {X : Cx} {n : String} {x : Str} {pos : Pos} (hg : Gl X x) (hm : X.mg x = none) (hv : bootBuiltins x = some (.type n)) (hn : x ≠ "__name__" := by decide) (hd : (x == ("__debug__" : Str)) = false := by decide) : PE X (.Name x pos) (tC (.ty n)) := pe_bltn (v := .ty n) hg hm hv rfl hn hd
/-- a constant of the top -/
structure GV (mg : Str → Option Value) (x : Str) (v : V) : Prop where
  ex : ∃ u, mg x = some u ∧ RelV v u
theorem GV.pe {X : Cx} {x : Str} {v : V} {pos : Pos} (g : GV X.mg x v) (hg : Gl X x := by rfl) (hd : (x == ("__debug__" : Str)) = false := by decide) : PE X (.Name x pos) (tC v) := by
  obtain ⟨u, h1, h2⟩ := g.ex
  exact pe_glob hg h1 h2 hd
theorem ifT {c : Bool} {A B : Prop} (hc : c = true) (h : A) : if c = true then A else B := by
  rw [if_pos hc]; exact h
theorem ifF {c : Bool} {A B : Prop} (hc : c = false) (h : B) : if c = true then A else B := by
  rw [hc, if_neg (by decide)]; exact h
/-- constants of the program's own modules -/
structure Gb (mg : Str → Option Value) : Prop where
  MAX_LETTERS : GV mg "MAX_LETTERS" (.int 8)
  MAX_STATES : GV mg "MAX_STATES" (.int 12)
  MAX_OPERATIONS : GV mg "MAX_OPERATIONS" (.int 6)
  MAX_ANSWER : GV mg "MAX_ANSWER" (.int 99)
  ALPHABET : GV mg "ALPHABET" (.str (PySem.Str.ofString "abcdefghijklmnopqrstuvwxyz"))
theorem bools_all {α : Type} (f : α → Bool) : ∀ {ys : List V} {zs : List α}, Paired (fun v z => v = V.bl (f z)) ys zs → ys = (zs.map f).map V.bl
  | _, _, .nil => rfl
  | _, _, .cons r t => by rw [r, bools_all f t]; rfl
theorem all_id_map {α : Type} (f : α → Bool) (zs : List α) : (zs.map f).all id = zs.all f := by
  rw [List.all_map]; rfl
theorem alpha_in {c : Nat} (h : (decide (97 ≤ c) && decide (c ≤ 122)) = true) : decide (c ∈ (PySem.Str.ofString "abcdefghijklmnopqrstuvwxyz").cps.toList) = true := by
  rw [Bool.and_eq_true, decide_eq_true_eq, decide_eq_true_eq] at h
  have e : (PySem.Str.ofString "abcdefghijklmnopqrstuvwxyz").cps.toList = (List.range 26).map (97 + ·) := by decide +kernel
  rw [e, decide_eq_true_eq, List.mem_map]
  exact ⟨c - 97, List.mem_range.mpr (by omega), by omega⟩
theorem same_seqT {K : PySem.W.Frag} {H H' : Hp} {a : Addr} {xs : List V} (e : Same H H') (h : SqT K H a xs) : SqT K H' a xs := by
  rcases h with (h | ⟨o, h⟩) | h
  · exact .inl (.inl (e _ _ h))
  · exact .inl (.inr ⟨o, e _ _ h⟩)
  · exact .inr h
theorem lc_runL {α : Type} {K : PySem.W.Frag} {σ : L2.St} {H : Hp} {Q : VK} {j : Nat} {tt : TT} {te : TE} {vs : List Nat} {tl : TE} {xs : List V} (hl : Ev tl σ H fun v H1 => ∃ a, v = .ref a ∧ SqL K H1 a xs) (zs : List α) (hlen : xs.length = zs.length)
    (b : α → Bool) (R : α → V → Hp → Prop) (hz : zs.length ≤ 100000) (hw : ∀ x, wipe ((wipe σ vs).set j (some x)) vs = wipe σ vs) (hR : ∀ z v H H', TupS H H' → R z v H → R z v H')
    (hs : ∀ (i : Nat) z x H1, zs[i]? = some z → xs[i]? = some x → Same H H1 → EvT tt ((wipe σ vs).set j (some x)) H1 (b z) ∧ (b z = true → ∀ H3, Same H1 H3 → Ev te ((wipe σ vs).set j (some x)) H3 (R z)))
    (hq : ∀ p H1 ys, H p = none → Same H H1 → H1 p = some (.lst ys) → Paired (fun v z => R z v H1) ys (zs.filter b) → Q (.ref p) H1) : tLc (iList K tl) (gName j) tt te vs σ H Q := by
  refine hl _ fun v H1 e h => ?_
  obtain ⟨a, ea, hs'⟩ := h
  refine ⟨a, ea, ⟨xs, hs'⟩, lc_name (Q := Q) (walk_list) zs b R (hlen.symm) (by omega) hw hR (fun H2 e2 => e2.seq hs') (fun i H v H' y => by rw [y.1]; exact Same.refl _) (fun i z x H2 H' hz' e2 y => ?_) (fun p H2 ys hp e2 => hq p H2 ys (e.free hp) (e.trans e2))⟩
  obtain ⟨e3, y⟩ := y
  subst e3
  exact hs i z x _ hz' y (e.trans e2)
theorem lc_runT {α : Type} {K : PySem.W.Frag} {σ : L2.St} {H : Hp} {Q : VK} {j : Nat} {tt : TT} {te : TE} {vs : List Nat} {tl : TE} {xs : List V} (hl : Ev tl σ H fun v H1 => ∃ a, v = .ref a ∧ SqT K H1 a xs) (zs : List α) (hlen : xs.length = zs.length)
    (b : α → Bool) (R : α → V → Hp → Prop) (hz : zs.length ≤ 100000) (hw : ∀ x, wipe ((wipe σ vs).set j (some x)) vs = wipe σ vs) (hR : ∀ z v H H', TupS H H' → R z v H → R z v H')
    (hs : ∀ (i : Nat) z x H1, zs[i]? = some z → xs[i]? = some x → Same H H1 → EvT tt ((wipe σ vs).set j (some x)) H1 (b z) ∧ (b z = true → ∀ H3, Same H1 H3 → Ev te ((wipe σ vs).set j (some x)) H3 (R z)))
    (hq : ∀ p H1 ys, H p = none → Same H H1 → H1 p = some (.lst ys) → Paired (fun v z => R z v H1) ys (zs.filter b) → Q (.ref p) H1) : tLc (iTup K tl) (gName j) tt te vs σ H Q := by
  refine hl _ fun v H1 e h => ?_
  obtain ⟨a, ea, hs'⟩ := h
  refine ⟨a, ea, ⟨xs, hs'⟩, lc_name (Q := Q) (walk_tup) zs b R (hlen.symm) (by omega) hw hR (fun H2 e2 => same_seqT e2 hs') (fun i H v H' y => by rw [y.1]; exact Same.refl _) (fun i z x H2 H' hz' e2 y => ?_) (fun p H2 ys hp e2 => hq p H2 ys (e.free hp) (e.trans e2))⟩
  obtain ⟨e3, y⟩ := y
  subst e3
  exact hs i z x _ hz' y (e.trans e2)
theorem lc_runR {α : Type} {σ : L2.St} {H : Hp} {Q : VK} {j : Nat} {tt : TT} {te : TE} {vs : List Nat} {ta : TA} {n : Int} (h : EvA ta σ H fun l _ => l = [.int n]) (hn : -100000 ≤ n ∧ n ≤ 100000) (zs : List α) (hlen : zs.length = n.toNat)
    (b : α → Bool) (R : α → V → Hp → Prop) (hz : zs.length ≤ 100000) (hw : ∀ x, wipe ((wipe σ vs).set j (some x)) vs = wipe σ vs) (hR : ∀ z v H H', TupS H H' → R z v H → R z v H')
    (hs : ∀ (i : Nat) z x H1, zs[i]? = some z → x = .int (i : Int) → Same H H1 → EvT tt ((wipe σ vs).set j (some x)) H1 (b z) ∧ (b z = true → ∀ H3, Same H1 H3 → Ev te ((wipe σ vs).set j (some x)) H3 (R z)))
    (hq : ∀ p H1 ys, H p = none → Same H H1 → H1 p = some (.lst ys) → Paired (fun v z => R z v H1) ys (zs.filter b) → Q (.ref p) H1) : tLc (iRng1 ta) (gName j) tt te vs σ H Q := by
  refine h _ fun l H1 e el => ⟨n, el, by omega, by omega, lc_name (Q := Q) (walk_range) zs b R (hlen) (by omega) hw hR (fun _ _ => trivial) (fun i H v H' y => by rw [y.1]; exact Same.refl _) (fun i z x H2 H' hz' e2 y => ?_) (fun p H2 ys hp e2 => hq p H2 ys (e.free hp) (e.trans e2))⟩
  obtain ⟨e3, y⟩ := y
  subst e3
  exact hs i z x _ hz' (by rw [y]; show V.int (0 + (i : Int)) = _; rw [Int.zero_add]) (e.trans e2)
theorem lc_runR2 {α : Type} {σ : L2.St} {H : Hp} {Q : VK} {j : Nat} {tt : TT} {te : TE} {vs : List Nat} {ta : TA} {lo n : Int} (h : EvA ta σ H fun l _ => l = [.int lo, .int n]) (hn : -100000 ≤ lo ∧ lo ≤ 100000 ∧ -100000 ≤ n ∧ n ≤ 100000) (zs : List α) (hlen : zs.length = (n - lo).toNat)
    (b : α → Bool) (R : α → V → Hp → Prop) (hz : zs.length ≤ 100000) (hw : ∀ x, wipe ((wipe σ vs).set j (some x)) vs = wipe σ vs) (hR : ∀ z v H H', TupS H H' → R z v H → R z v H')
    (hs : ∀ (i : Nat) z x H1, zs[i]? = some z → x = .int (lo + (i : Int)) → Same H H1 → EvT tt ((wipe σ vs).set j (some x)) H1 (b z) ∧ (b z = true → ∀ H3, Same H1 H3 → Ev te ((wipe σ vs).set j (some x)) H3 (R z)))
    (hq : ∀ p H1 ys, H p = none → Same H H1 → H1 p = some (.lst ys) → Paired (fun v z => R z v H1) ys (zs.filter b) → Q (.ref p) H1) : tLc (iRng2 ta) (gName j) tt te vs σ H Q := by
  refine h _ fun l H1 e el => ⟨lo, n, el, by omega, lc_name (Q := Q) (walk_range) zs b R (hlen) (by omega) hw hR (fun _ _ => trivial) (fun i H v H' y => by rw [y.1]; exact Same.refl _) (fun i z x H2 H' hz' e2 y => ?_) (fun p H2 ys hp e2 => hq p H2 ys (e.free hp) (e.trans e2))⟩
  obtain ⟨e3, y⟩ := y
  subst e3
  exact hs i z x _ hz' y (e.trans e2)
theorem lc_runS {α : Type} {σ : L2.St} {H : Hp} {Q : VK} {j : Nat} {tt : TT} {te : TE} {vs : List Nat} {te0 : TE} {x0 : Str} (h : Ev te0 σ H fun v _ => v = .str x0) (zs : List α) (hlen : zs.length = x0.cps.size)
    (b : α → Bool) (R : α → V → Hp → Prop) (hz : zs.length ≤ 100000) (hw : ∀ x, wipe ((wipe σ vs).set j (some x)) vs = wipe σ vs) (hR : ∀ z v H H', TupS H H' → R z v H → R z v H')
    (hs : ∀ (i : Nat) z x H1, zs[i]? = some z → (∃ c, x0.cps[i]? = some c ∧ x = .str ⟨#[c]⟩) → Same H H1 → EvT tt ((wipe σ vs).set j (some x)) H1 (b z) ∧ (b z = true → ∀ H3, Same H1 H3 → Ev te ((wipe σ vs).set j (some x)) H3 (R z)))
    (hq : ∀ p H1 ys, H p = none → Same H H1 → H1 p = some (.lst ys) → Paired (fun v z => R z v H1) ys (zs.filter b) → Q (.ref p) H1) : tLc (iStr te0) (gName j) tt te vs σ H Q := by
  refine h _ fun v H1 e ev => ⟨x0, ev, lc_name (Q := Q) (walk_str) zs b R (hlen) (by omega) hw hR (fun _ _ => trivial) (fun i H v H' y => by rw [y.1]; exact Same.refl _) (fun i z x H2 H' hz' e2 y => ?_) (fun p H2 ys hp e2 => hq p H2 ys (e.free hp) (e.trans e2))⟩
  obtain ⟨e3, y⟩ := y
  subst e3
  exact hs i z x _ hz' y (e.trans e2)
end Tm

namespace Tm
open PySem PySem.Spec PyProof.Rows L2

section
variable {α : Type} {K : PySem.W.Frag} {σ : L2.St} {H : Hp} {Q : VK} {i j : Nat} {tt : TT} {te tk tv : TE} {vs : List Nat}
/-- a comprehension over the items of a locked dict -/
theorem lc_runI {td : TE} {d : Addr} {o : Obj} {kvs : List (L2.Key × V)} (hd : Ev td σ H fun v _ => v = .ref d) (hf : H d = some (.frz o (.dK kvs))) (zs : List α) (hlen : zs.length = kvs.length) (b : α → Bool) (R : α → V → Hp → Prop) (hz : zs.length ≤ 100000)
    (hw : ∀ x y, wipe (((wipe σ vs).set i (some x)).set j (some y)) vs = wipe σ vs) (hR : ∀ z v H H', TupS H H' → R z v H → R z v H')
    (hs : ∀ (k : Nat) z kv H1, zs[k]? = some z → kvs[k]? = some kv → Same H H1 → EvT tt (((wipe σ vs).set i (some (kV kv.1))).set j (some kv.2)) H1 (b z) ∧ (b z = true → ∀ H3, Same H1 H3 → Ev te (((wipe σ vs).set i (some (kV kv.1))).set j (some kv.2)) H3 (R z)))
    (hq : ∀ p H1 ys, H p = none → Same H H1 → H1 p = some (.lst ys) → Paired (fun v z => R z v H1) ys (zs.filter b) → Q (.ref p) H1) :
    tLc (iItems td) (gTup K 2 (gCons (gName i) (gCons (gName j) gNil))) tt te vs σ H Q := by
  refine hd _ fun v H1 e ev => ⟨d, o, kvs, ev, e _ _ hf, ?_⟩
  refine lc_go (Q := Q) walk_items zs b R hlen (by omega) hR (fun H2 e2 => e2 _ _ (e _ _ hf)) (fun k z x H2 H' hz' e2 y Qg qg => ?_) (fun p H2 ys hp e2 => hq p H2 ys (e.free hp) (e.trans e2))
  obtain ⟨T, x', y', rfl, hT, rfl, hx, hy⟩ := y
  replace hx : kvs[k]?.map (fun kv => kV kv.1) = some x' := hx
  replace hy : kvs[k]?.map Prod.snd = some y' := hy
  cases hk : kvs[k]? with
  | none =>
    rw [hk] at hx
    cases hx
  | some kv =>
    rw [hk] at hx hy
    have ex : kV kv.1 = x' := Option.some.inj hx
    have ey : kv.2 = y' := Option.some.inj hy
    subst ex ey
    have e3 : Same H2 (upd H2 T (.tup [kV kv.1, kv.2])) := same_new hT
    refine pair_names (SqT.of upd_same) (qg _ _ (hw _ _) e3 (hs k z kv _ hz' hk (e.trans (e2.trans e3))).1 (hs k z kv _ hz' hk (e.trans (e2.trans e3))).2)
/-- a dict comprehension over a list, one name -/
theorem dc_runL {tl : TE} {xs : List V} (hl : Ev tl σ H fun v H1 => ∃ a, v = .ref a ∧ SqL K H1 a xs) (zs : List α) (hlen : xs.length = zs.length) (b : α → Bool) (key : α → L2.Key) (R : α → V → Hp → Prop) (hz : zs.length ≤ 100000) (nd : (zs.map key).Nodup)
    (hw : ∀ x, wipe ((wipe σ vs).set j (some x)) vs = wipe σ vs) (hR : ∀ z v H H', TupS H H' → R z v H → R z v H')
    (hs : ∀ (k : Nat) z x H1, zs[k]? = some z → xs[k]? = some x → Same H H1 → EvT tt ((wipe σ vs).set j (some x)) H1 (b z) ∧ (b z = true → ∀ H3, Same H1 H3 → Ev tk ((wipe σ vs).set j (some x)) H3 (fun v _ => v = kV (key z))) ∧ (b z = true → ∀ H3, Same H1 H3 → Ev tv ((wipe σ vs).set j (some x)) H3 (R z)))
    (hq : ∀ p H1 kvs, H p = none → Same H H1 → H1 p = some (.dK kvs) → Paired (fun kv z => kv.1 = key z ∧ R z kv.2 H1) kvs (zs.filter b) → Q (.ref p) H1) : tDc (iList K tl) (gName j) tt tk tv vs σ H Q := by
  refine hl _ fun v H1 e h => ?_
  obtain ⟨a, ea, hs'⟩ := h
  refine ⟨a, ea, ⟨xs, hs'⟩, dc_go (Q := Q) walk_list zs b key R hlen.symm (by omega) nd hR (fun H2 e2 => e2.seq hs') (fun k z x H2 H' hz' e2 y Qg qg => ?_) (fun p H2 ys hp e2 => hq p H2 ys (e.free hp) (e.trans e2))⟩
  obtain ⟨e3, y⟩ := y
  subst e3
  obtain ⟨h1, h2, h3⟩ := hs k z x _ hz' y (e.trans e2)
  exact qg _ _ (hw x) (Same.refl _) h1 h2 h3
/-- .. over enumerate of a list -/
theorem dc_runE {ta : TA} {xs : List V} (hl : EvA ta σ H fun l H1 => ∃ a, l = [.ref a] ∧ SqL K H1 a xs) (zs : List α) (hlen : xs.length = zs.length) (b : α → Bool) (key : α → L2.Key) (R : α → V → Hp → Prop) (hz : zs.length ≤ 100000) (nd : (zs.map key).Nodup)
    (hw : ∀ x y, wipe (((wipe σ vs).set i (some x)).set j (some y)) vs = wipe σ vs) (hR : ∀ z v H H', TupS H H' → R z v H → R z v H')
    (hs : ∀ (k : Nat) z x H1, zs[k]? = some z → xs[k]? = some x → Same H H1 → EvT tt (((wipe σ vs).set i (some (.int (k : Int)))).set j (some x)) H1 (b z) ∧ (b z = true → ∀ H3, Same H1 H3 → Ev tk (((wipe σ vs).set i (some (.int (k : Int)))).set j (some x)) H3 (fun v _ => v = kV (key z))) ∧
      (b z = true → ∀ H3, Same H1 H3 → Ev tv (((wipe σ vs).set i (some (.int (k : Int)))).set j (some x)) H3 (R z)))
    (hq : ∀ p H1 kvs, H p = none → Same H H1 → H1 p = some (.dK kvs) → Paired (fun kv z => kv.1 = key z ∧ R z kv.2 H1) kvs (zs.filter b) → Q (.ref p) H1) : tDc (iEnum K ta) (gTup K 2 (gCons (gName i) (gCons (gName j) gNil))) tt tk tv vs σ H Q := by
  refine hl _ fun v H1 e h => ?_
  obtain ⟨a, ea, hs'⟩ := h
  refine ⟨a, xs, ea, hs', dc_go (Q := Q) walk_enum zs b key R hlen.symm (by omega) nd hR (fun H2 e2 => e2.seq hs') (fun k z x H2 H' hz' e2 y Qg qg => ?_) (fun p H2 ys hp e2 => hq p H2 ys (e.free hp) (e.trans e2))⟩
  obtain ⟨T, x', y', rfl, hT, rfl, hx, hy⟩ := y
  have ex : V.int (k : Int) = x' := Option.some.inj hx
  subst ex
  have e3 : Same H2 (upd H2 T (.tup [V.int (k : Int), y'])) := same_new hT
  obtain ⟨h1, h2, h3⟩ := hs k z y' _ hz' hy (e.trans (e2.trans e3))
  exact pair_names (SqT.of upd_same) (qg _ _ (hw _ _) e3 h1 h2 h3)
/-- .. over the items of a locked dict -/
theorem dc_runI {td : TE} {d : Addr} {o : Obj} {kvs : List (L2.Key × V)} (hd : Ev td σ H fun v _ => v = .ref d) (hf : H d = some (.frz o (.dK kvs))) (zs : List α) (hlen : zs.length = kvs.length) (b : α → Bool) (key : α → L2.Key) (R : α → V → Hp → Prop) (hz : zs.length ≤ 100000) (nd : (zs.map key).Nodup)
    (hw : ∀ x y, wipe (((wipe σ vs).set i (some x)).set j (some y)) vs = wipe σ vs) (hR : ∀ z v H H', TupS H H' → R z v H → R z v H')
    (hs : ∀ (k : Nat) z kv H1, zs[k]? = some z → kvs[k]? = some kv → Same H H1 → EvT tt (((wipe σ vs).set i (some (kV kv.1))).set j (some kv.2)) H1 (b z) ∧ (b z = true → ∀ H3, Same H1 H3 → Ev tk (((wipe σ vs).set i (some (kV kv.1))).set j (some kv.2)) H3 (fun v _ => v = kV (key z))) ∧
      (b z = true → ∀ H3, Same H1 H3 → Ev tv (((wipe σ vs).set i (some (kV kv.1))).set j (some kv.2)) H3 (R z)))
    (hq : ∀ p H1 kvs', H p = none → Same H H1 → H1 p = some (.dK kvs') → Paired (fun kv z => kv.1 = key z ∧ R z kv.2 H1) kvs' (zs.filter b) → Q (.ref p) H1) :
    tDc (iItems td) (gTup K 2 (gCons (gName i) (gCons (gName j) gNil))) tt tk tv vs σ H Q := by
  refine hd _ fun v H1 e ev => ⟨d, o, kvs, ev, e _ _ hf, ?_⟩
  refine dc_go (Q := Q) walk_items zs b key R hlen (by omega) nd hR (fun H2 e2 => e2 _ _ (e _ _ hf)) (fun k z x H2 H' hz' e2 y Qg qg => ?_) (fun p H2 ys hp e2 => hq p H2 ys (e.free hp) (e.trans e2))
  obtain ⟨T, x', y', rfl, hT, rfl, hx, hy⟩ := y
  replace hx : kvs[k]?.map (fun kv => kV kv.1) = some x' := hx
  replace hy : kvs[k]?.map Prod.snd = some y' := hy
  cases hk : kvs[k]? with
  | none =>
    rw [hk] at hx
    cases hx
  | some kv =>
    rw [hk] at hx hy
    have ex : kV kv.1 = x' := Option.some.inj hx
    have ey : kv.2 = y' := Option.some.inj hy
    subst ex ey
    have e3 : Same H2 (upd H2 T (.tup [kV kv.1, kv.2])) := same_new hT
    obtain ⟨h1, h2, h3⟩ := hs k z kv _ hz' hk (e.trans (e2.trans e3))
    exact pair_names (SqT.of upd_same) (qg _ _ (hw _ _) e3 h1 h2 h3)
end
/-! ### a locked dict: what is within, what is behind -/
theorem lock_in {H : Hp} {d : Addr} {u : HO} {o : Obj} (h : H d = some u) (hu : ∀ xs, u ≠ .tup xs) : TupS H (upd H d (.frz o u)) := tups_upd h hu
theorem lock_out {H H' : Hp} {d : Addr} {u : HO} {o : Obj} (h : H d = some u) (e : Same (upd H d (.frz o u)) H') : Same H (upd H' d u) := fun b v hb => by
  by_cases hd : b = d
  · subst hd
    rw [upd_same, ← h]
    exact hb
  · rw [upd_ne hd]
    exact e b v (by rw [upd_ne hd]; exact hb)
/-! ### rules whose reading speaks of the written part, the same in a comprehension's block -/
section
variable {X : Cx} {K : PySem.W.Frag}
theorem lenK (hK : X.K = K := by rfl) : CallR X (.builtin "len") (fun xs H Q => ∃ p ys, xs = [.ref p] ∧ (SqL K H p ys ∨ SqT K H p ys) ∧ Q (.int ys.length) H) := by subst hK; exact call_len_seq
theorem ixTK (hK : X.K = K := by rfl) : IxR X (rIxT K) := by subst hK; exact ix_tup
theorem ixLK (hK : X.K = K := by rfl) : IxR X (rIxL K) := by subst hK; exact ix_list
theorem allK (hc : X.calm = true := by rfl) (hK : X.K = K := by rfl) : CallR X (.builtin "all") (rAll K) := by subst hK; exact cr_all hc
theorem tupleK (hK : X.K = K := by rfl) : CallR X (.type "tuple") (fun xs H Q => ∃ p ys, xs = [.ref p] ∧ ((SqL K H p ys ∧ ∀ l, H l = none → Q (.ref l) (upd H l (.tup ys))) ∨ (SqT K H p ys ∧ Q (.ref p) H))) := by subst hK; exact call_tuple_of
theorem isiK (hK : X.K = K := by rfl) : CallR X (.builtin "isinstance") (rIsi K) := by subst hK; exact call_isi
theorem repTK (hK : X.K = K := by rfl) : OpR X (binaryOp .Mult) (rRepT K) := by subst hK; exact op_repT
theorem pa_starK {e : Expr} {es : List Expr} {te : TE} {t : TA} {p : Pos} (he : PE X e te) (hr : PA X es t) (hK : X.K = K := by rfl) (hs : starEach (.Starred e p :: es) X.env = (true, eval e X.env) :: starEach es X.env := by rfl) : PA X (.Starred e p :: es) (StX.tStar K te t) := by subst hK; exact StX.pa_star he hr hs
theorem indexK (hK : X.K = K := by rfl) (hu : X.A.units + 65 < cLine) : MtR X "list.index" (rIndexD K) := by subst hK; exact mt_indexD hu
end
/-! ### what is walked, made first -/
section
variable {K : PySem.W.Frag} {tl : TE} {g : TG} {tt : TT} {te tk tv : TE} {vs : List Nat} {σ : L2.St} {H : Hp} {Q : VK} {P : V → Hp → Prop}
theorem dc_bind (hl : Ev tl σ H P) (k : ∀ v H1, Same H H1 → P v H1 → tDc (iList K (tC v)) g tt tk tv vs σ H1 Q) : tDc (iList K tl) g tt tk tv vs σ H Q := hl _ fun v H1 e p => k v H1 e p
theorem lc_bind (hl : Ev tl σ H P) (k : ∀ v H1, Same H H1 → P v H1 → tLc (iList K (tC v)) g tt te vs σ H1 Q) : tLc (iList K tl) g tt te vs σ H Q := hl _ fun v H1 e p => k v H1 e p
theorem lc_bindT (hl : Ev tl σ H P) (k : ∀ v H1, Same H H1 → P v H1 → tLc (iTup K (tC v)) g tt te vs σ H1 Q) : tLc (iTup K tl) g tt te vs σ H Q := hl _ fun v H1 e p => k v H1 e p
end
end Tm

namespace Tm
open PySem PySem.Spec PyProof.Rows L2
local macro_rules | `(tactic| walk_at "x") => `(tactic| dsimp only [tNext, tRet, tSeq, tCB, tCons, tNil, tAsg, tDrop])
def top (i : Nat) : Stmt := PySem.Challenge.pw_teamtells_k12_whole_histories_of_plans.main.body.getD i (.Pass ⟨0, 0, 0, 0⟩)
/-- names of the built-in things, that the top leaves alone -/
structure Bt (mg : Str → Option Value) : Prop where
  isinstance : mg "isinstance" = none
  int : mg "int" = none
  bool : mg "bool" = none
  str : mg "str" = none
  tuple : mg "tuple" = none
  list : mg "list" = none
  dict : mg "dict" = none
  len : mg "len" = none
  all : mg "all" = none
  range : mg "range" = none
  enumerate : mg "enumerate" = none
  sorted : mg "sorted" = none
  min : mg "min" = none
  max : mg "max" = none
  abs : mg "abs" = none
/-- a def of the top -/
structure Df (K : PySem.W.Frag) (mg : Str → Option Value) (x : Str) (st : Stmt) (ps : List Str) : Prop where
  ex : ∃ (f : Addr) (fd : FuncData), mg x = some (.ref f) ∧ PySem.W.keepIn K (.ref f) = true ∧ Fun K x x st f fd ∧ Binds K fd ps []
section
variable {P : Program} {w : World} {K : PySem.W.Frag} {mg : Str → Option Value} {base : Heap}
theorem Df.ok {x : Str} {st : Stmt} {ps N : List Str} {k : Nat} {sp : Sp} (D : Df K mg x st ps) (S : FnScope N ps (defScope st)) (len : ∀ vs H Q E, sp vs H Q E → vs.length = ps.length)
    (hb : ∀ (f : Addr) (cdv : Value) (A : Around) (outer : List Env) (s : Shared) (H : Hp) (vs : List V) (Q : VK) (E : XK), Room k (A.deeper (envOfC x (defScope st) s.heap.objs.size f cdv)) → sp vs H Q E →
      ∃ t, PSs (cxOf CX0 P w K mg base N x (defScope st) f cdv A outer s H E).nox (defBody st) t ∧ t { nx := fun _ H' => Q .non H', rt := Q } (start N vs) H) : Ok P w K mg base x (k + 1) ps sp := by
  obtain ⟨f, fd, h1, h2, h3, h4⟩ := D.ex
  exact ⟨f, fd, h1, h2, h3.ok S len (fun cdv A outer s H vs Q E hr h => hb f cdv A outer s H vs Q E hr h), h4⟩
/-! ### is_number_in, need_number -/
abbrev s_num : Stmt := top 10
theorem sc_num : FnScope ["value", "least", "most"] ["value", "least", "most"] (defScope s_num) := ⟨rfl, rfl, rfl, by decide +kernel, rfl, by decide +kernel, by decide +kernel⟩
def sp_num : Sp := fun vs H Q _ => ∃ n lo hi : Int, vs = [.int n, .int lo, .int hi] ∧ Q (.bl (decide (lo ≤ n) && decide (n ≤ hi))) H
theorem ok_num (B : Bt mg) (D : Df K mg "is_number_in" s_num ["value", "least", "most"]) : Ok P w K mg base "is_number_in" 1 ["value", "least", "most"] sp_num := by
  refine D.ok sc_num (fun vs H Q E h => ?_) (fun f cdv A outer s H vs Q E hr h => ?_)
  · obtain ⟨n, lo, hi, rfl, _⟩ := h
    rfl
  · obtain ⟨n, lo, hi, rfl, q⟩ := h
    refine ⟨_, pss_one (ps_ret (pe_and (pe_callB call_isi (by rfl) B.isinstance (by decide +kernel) (pa_cons (pv 0) (pa_cons (pe_ty (n := "int") (by rfl) B.int (by decide +kernel)) (pa_nil)))) (pe_and (pe_not (pe_callB call_isi (by rfl) B.isinstance (by decide +kernel) (pa_cons (pv 0) (pa_cons (pe_ty (n := "bool") (by rfl) B.bool (by decide +kernel)) (pa_nil))))) (pe_one (pe_chain op_le op_le (pv 1) (pv 0) (pv 2)))))), ?_⟩
    refine ⟨_, rfl, .int n, .ty "int", _, _, true, rfl, .ty "int", .base (.int n), kit_ty (by decide +kernel), ?_⟩
    refine ⟨_, rfl, ?_⟩; refine iteT ?_
    refine ⟨_, rfl, .int n, .ty "bool", _, _, false, rfl, .ty "bool", .base (.int n), kit_ty (by decide +kernel), ?_⟩
    refine ⟨_, rfl, true, rfl, ?_⟩; refine iteT ?_
    refine ⟨_, rfl, _, rfl, _, _, rfl, rfl, _, rfl, ite2 (fun h1 => ?_) (fun h1 => ?_)⟩
    · refine ⟨_, rfl, _, _, rfl, rfl, ?_⟩
      rw [show decide (lo ≤ n) = true from h1, Bool.true_and] at q
      exact q
    · have e : decide (lo ≤ n) = false := by simpa using h1
      rw [e, Bool.false_and] at q
      exact q
abbrev s_need : Stmt := top 11
theorem sc_need : FnScope ["value", "least", "most"] ["value", "least", "most"] (defScope s_need) := ⟨rfl, rfl, rfl, by decide +kernel, rfl, by decide +kernel, by decide +kernel⟩
/-- the number is let -/
def sp_need : Sp := fun vs H Q _ => ∃ n lo hi : Int, vs = [.int n, .int lo, .int hi] ∧ lo ≤ n ∧ n ≤ hi ∧ Q .non H
theorem ok_need (O_num : Ok P w K mg base "is_number_in" 1 ["value", "least", "most"] sp_num) (D : Df K mg "need_number" s_need ["value", "least", "most"]) : Ok P w K mg base "need_number" 2 ["value", "least", "most"] sp_need := by
  refine D.ok sc_need (fun vs H Q E h => ?_) (fun f cdv A outer s H vs Q E hr h => ?_)
  · obtain ⟨n, lo, hi, rfl, _⟩ := h
    rfl
  · obtain ⟨n, lo, hi, rfl, h1, h2, q⟩ := h
    refine ⟨_, pss_one (ps_if (pt_not (pt_val (O_num.call hr (ha := pa_cons (pv 0) (pa_cons (pv 1) (pa_cons (pv 2) pa_nil)))))) (pss_one ps_never) pss_nil), ?_⟩
    refine ⟨_, rfl, _, rfl, _, rfl, n, lo, hi, rfl, _, rfl, ?_⟩
    rw [decide_eq_true h1, decide_eq_true h2]
    exact iteF q
/-! ### is_name -/
abbrev s_name : Stmt := top 18
theorem sc_name : FnScope ["value", "letter"] ["value"] (defScope s_name) := ⟨rfl, rfl, rfl, by decide +kernel, rfl, by decide +kernel, by decide +kernel⟩
def sp_name : Sp := fun vs H Q _ => ∃ x : Str, vs = [.str x] ∧ okName x = true ∧ ∀ H', Same H H' → Q (.bl true) H'
theorem ok_name (B : Bt mg) (G : Gb mg) (D : Df K mg "is_name" s_name ["value"]) : Ok P w K mg base "is_name" 1 ["value"] sp_name := by
  refine D.ok sc_name (fun vs H Q E h => ?_) (fun f cdv A outer s H vs Q E hr h => ?_)
  · obtain ⟨x, rfl, _⟩ := h
    rfl
  · obtain ⟨x, rfl, hx, q⟩ := h
    unfold okName at hx
    simp only [Bool.and_eq_true, decide_eq_true_eq] at hx
    obtain ⟨⟨h1, h8⟩, ha⟩ := hx
    refine ⟨_, pss_cons (ps_if (PW.pt (pw_or (pt_not (pt_val (pe_callB call_isi (by rfl) B.isinstance (by decide +kernel) (pa_cons (pv 0) (pa_cons (pe_ty (n := "str") (by rfl) B.str (by decide +kernel)) pa_nil))))) (pw_or1 (pt_not (pt_chain op_le op_le pe_int (pe_callB call_len_str (by rfl) B.len (by decide +kernel) (pa_cons (pv 0) pa_nil)) G.MAX_LETTERS.pe)))))
        (pss_one (ps_ret pe_bl)) pss_nil)
      (pss_one (ps_ret (pe_callB (cr_all rfl) (by rfl) B.all (by decide +kernel) (pa_cons (pe_lc (own := [("letter", 1)]) (g := gName 1) (tt := tYes) rfl sc_name.nd (pi_str (pv 0)) (blkOk_by (own := [("letter", 1)]) (N := ["value", "letter"]) (sc := defScope s_name) (by decide +kernel)) (fun _ _ _ _ _ => pg_name (i := 1) sc_name.nd rfl (.inl rfl)) (fun _ _ _ _ _ => pts_nil) (fun _ _ _ _ _ => pe_cmpR op_in_sign (pv 1) G.ALPHABET.pe rfl)) pa_nil)))), ?_⟩
    refine ⟨_, rfl, .str x, .ty "str", _, _, true, rfl, .ty "str", .base (.str x), kit_ty (by decide +kernel), _, rfl, ?_⟩
    refine ifF rfl ?_
    refine ⟨_, rfl, x, rfl, sz_le (by omega), _, _, rfl, rfl, _, rfl, ?_⟩
    refine ifT (decide_eq_true (by omega)) ?_
    refine ⟨_, _, rfl, rfl, _, rfl, ?_⟩
    refine ifF (by rw [decide_eq_true (show (x.length : Int) ≤ 8 by omega)]; rfl) ?_
    walk_at "x"
    refine lc_runS (x0 := x) (ev_is rfl rfl) x.cps.toList (Array.length_toList ..) (fun _ => true) (fun c v _ => v = V.bl (decide (c ∈ (PySem.Str.ofString "abcdefghijklmnopqrstuvwxyz").cps.toList))) (by rw [Array.length_toList]; show x.length ≤ 100000; omega) (by intro _; rfl) (fun _ _ _ _ _ h => h)
      (fun i z v H hi y e => ⟨evt_yes, fun _ H3 e3 Q q => ?_⟩) (fun p H ys hp e hl hP => ?_)
    · obtain ⟨c, hc, rfl⟩ := y
      have ez : c = z := by
        rw [Array.getElem?_toList, hc] at hi
        exact Option.some.inj hi
      subst ez
      exact ⟨_, rfl, c, _, rfl, rfl, q _ _ (Same.refl _) rfl⟩
    · rw [filter_all] at hP
      have ey := bools_all _ hP
      rw [ey] at hl
      refine ⟨p, _, rfl, SqL.of hl, ?_⟩
      rw [all_id_map, List.all_eq_true.mpr fun c hc => alpha_in (List.all_eq_true.mp ha c hc)]
      exact q H e
/-! ### _is_pair, _is_row -/
abbrev s_pair : Stmt := top 20
theorem sc_pair : FnScope ["value", "size"] ["value", "size"] (defScope s_pair) := ⟨rfl, rfl, rfl, by decide +kernel, rfl, by decide +kernel, by decide +kernel⟩
def sp_pair : Sp := fun vs H Q _ => ∃ (v : V) (p : Int × Int) (n : Nat), vs = [v, .int n] ∧ PairV H v p ∧ okPair n p = true ∧ Q (.bl true) H
theorem ok_pair (B : Bt mg) (G : Gb mg) (O_is_number_in : Ok P w K mg base "is_number_in" 1 ["value", "least", "most"] sp_num) (D : Df K mg "_is_pair" s_pair ["value", "size"]) : Ok P w K mg base "_is_pair" 2 ["value", "size"] sp_pair := by
  refine D.ok sc_pair (fun vs H Q E h => ?_) (fun f cdv A outer s H vs Q E hr h => ?_)
  · obtain ⟨v, p, n, rfl, _⟩ := h
    rfl
  · obtain ⟨v, p, n, rfl, ⟨a, rfl, ha⟩, hp, q⟩ := h
    unfold okPair at hp
    simp only [Bool.and_eq_true, decide_eq_true_eq] at hp
    obtain ⟨⟨⟨h1, h2⟩, h3⟩, h4⟩ := hp
    refine ⟨_, pss_cons (ps_if (PW.pt (pw_or (pt_not (pt_val (pe_callB call_isi (by rfl) B.isinstance (by decide +kernel) (pa_cons (pv 0) (pa_cons (pe_ty (n := "tuple") (by rfl) B.tuple (by decide +kernel)) (pa_nil)))))) (pw_or1 (pt_cmpR op_ne (pe_callB (lenK (K := K)) (by rfl) B.len (by decide +kernel) (pa_cons (pv 0) (pa_nil))) (pe_int) (nomark _)))))
        (pss_one (ps_ret (pe_bl)))
        (pss_nil))
      (pss_one (ps_ret (pe_and (O_is_number_in.call hr (ha := pa_cons (pe_ix ix_tup (pv 0) (pe_int) (fun _ _ => rfl)) (pa_cons (pe_int) (pa_cons (pe_op op_sub (pv 1) (pe_int)) (pa_nil))))) (pe_one (O_is_number_in.call hr (ha := pa_cons (pe_ix ix_tup (pv 0) (pe_int) (fun _ _ => rfl)) (pa_cons (pe_int) (pa_cons (G.MAX_ANSWER.pe) (pa_nil))))))))), ?_⟩
    refine ⟨_, rfl, .ref a, .ty "tuple", _, _, true, rfl, .ty "tuple", .base (.tup ha), kit_ty (by decide +kernel), _, rfl, ?_⟩
    refine ifF rfl ?_
    refine ⟨_, rfl, a, _, rfl, .inr (SqT.of ha), rfl, _, rfl, ?_⟩
    refine ifF (by simp) ?_
    refine ⟨_, rfl, a, _, 0, _, rfl, rfl, SqT.of ha, rfl, _, rfl, n, 1, rfl, rfl, p.1, 0, (n : Int) - 1, rfl, _, rfl, ?_⟩
    refine ifT (by rw [decide_eq_true h1, decide_eq_true h2]; rfl) ?_
    refine ⟨_, rfl, a, _, 1, _, rfl, rfl, SqT.of ha, rfl, p.2, 0, 99, rfl, ?_⟩
    rw [decide_eq_true h3, decide_eq_true h4]
    exact q
abbrev s_row : Stmt := top 21
theorem sc_row : FnScope ["value", "size", "pair"] ["value", "size"] (defScope s_row) := ⟨rfl, rfl, rfl, by decide +kernel, rfl, by decide +kernel, by decide +kernel⟩
def sp_row : Sp := fun vs H Q _ => ∃ (v : V) (r : Row) (n : Nat), vs = [v, .int n] ∧ RowV H v r ∧ okRow n r = true ∧ n ≤ 12 ∧ ∀ H', Same H H' → Q (.bl true) H'
theorem ok_row (B : Bt mg) (G : Gb mg) (O_is_pair : Ok P w K mg base "_is_pair" 2 ["value", "size"] sp_pair) (D : Df K mg "_is_row" s_row ["value", "size"]) : Ok P w K mg base "_is_row" 3 ["value", "size"] sp_row := by
  refine D.ok sc_row (fun vs H Q E h => ?_) (fun f cdv A outer s H vs Q E hr h => ?_)
  · obtain ⟨v, p, n, rfl, _⟩ := h
    rfl
  · obtain ⟨v, r, n, rfl, ⟨a, xs, rfl, ha, hx⟩, hp, h12, q⟩ := h
    unfold okRow at hp
    simp only [Bool.and_eq_true, decide_eq_true_eq] at hp
    obtain ⟨hl, hall⟩ := hp
    have hlx := Paired.length hx
    refine ⟨_, pss_cons (ps_if (PW.pt (pw_or (pt_not (pt_val (pe_callB call_isi (by rfl) B.isinstance (by decide +kernel) (pa_cons (pv 0) (pa_cons (pe_ty (n := "tuple") (by rfl) B.tuple (by decide +kernel)) (pa_nil)))))) (pw_or1 (pt_cmpR op_ne (pe_callB (lenK (K := K)) (by rfl) B.len (by decide +kernel) (pa_cons (pv 0) (pa_nil))) (pv 1) (nomark _)))))
        (pss_one (ps_ret (pe_bl)))
        (pss_nil))
      (pss_one (ps_ret (pe_callB (cr_all rfl) (by rfl) B.all (by decide +kernel) (pa_cons (pe_lc (own := [("pair", 2)]) (g := gName 2) (tt := tYes) rfl sc_row.nd (pi_tup (pv 0)) (blkOk_by (own := [("pair", 2)]) (N := ["value", "size", "pair"]) (sc := defScope s_row) (by decide +kernel)) (fun _ _ _ _ _ => pg_name (i := 2) sc_row.nd rfl (.inl rfl)) (fun _ _ _ _ _ => pts_nil) (fun _ _ _ _ _ => O_is_pair.call hr (ha := pa_cons (pv 2) (pa_cons (pv 1) (pa_nil))))) (pa_nil))))), ?_⟩
    refine ⟨_, rfl, .ref a, .ty "tuple", _, _, true, rfl, .ty "tuple", .base (.tup ha), kit_ty (by decide +kernel), _, rfl, ?_⟩
    refine ifF rfl ?_
    refine ⟨_, rfl, a, _, rfl, .inr (SqT.of ha), _, rfl, rfl, _, rfl, ?_⟩
    refine ifF (by rw [hlx, hl]; simp) ?_
    walk_at "x"
    refine lc_runT (K := K) (xs := xs) (ev_is rfl ⟨a, rfl, SqT.of ha⟩) r hlx (fun _ => true) (fun z v _ => v = V.bl (okPair n z)) (by omega) (by intro _; rfl) (fun _ _ _ _ _ h => h)
      (fun i z v H1 hi y e => ⟨evt_yes, fun _ H3 e3 Q q => ?_⟩) (fun p H1 ys hp e hl' hP => ?_)
    · obtain ⟨z', hz', hpz⟩ := paired_ix2 hx y
      rw [hi] at hz'
      cases hz'
      have hok : okPair n z = true := List.all_eq_true.mp hall z (List.mem_of_getElem? hi)
      exact ⟨_, rfl, _, rfl, v, z, n, rfl, hpz.mono (tups_of (e.trans e3)), hok, q _ _ (Same.refl _) (by rw [hok])⟩
    · rw [filter_all] at hP
      have ey := bools_all _ hP
      rw [ey] at hl'
      refine ⟨p, _, rfl, SqL.of hl', ?_⟩
      rw [all_id_map, hall]
      exact q H1 e
/-! ### _is_table -/
abbrev s_table : Stmt := top 22
theorem sc_table : FnScope ["value", "first", "name", "row"] ["value"] (defScope s_table) := ⟨rfl, rfl, rfl, by decide +kernel, rfl, by decide +kernel, by decide +kernel⟩
def sp_table : Sp := fun vs H Q _ => ∃ (a : Addr) (kvs : List (L2.Key × V)) (t : Tab), vs = [.ref a] ∧ H a = some (.dK kvs) ∧ TabV H kvs t ∧ okTab t = true ∧ ∀ H', Same H H' → Q (.bl true) H'
theorem ok_table (B : Bt mg) (G : Gb mg) (O_is_name : Ok P w K mg base "is_name" 1 ["value"] sp_name) (O_is_row : Ok P w K mg base "_is_row" 3 ["value", "size"] sp_row) (D : Df K mg "_is_table" s_table ["value"]) : Ok P w K mg base "_is_table" 4 ["value"] sp_table := by
  refine D.ok sc_table (fun vs H Q E h => ?_) (fun f cdv A outer s H vs Q E hr h => ?_)
  · obtain ⟨a, kvs, t, rfl, _⟩ := h
    rfl
  · obtain ⟨a, kvs, t, rfl, ha, ht, hok, q⟩ := h
    unfold okTab at hok
    simp only [Bool.and_eq_true, decide_eq_true_eq] at hok
    obtain ⟨⟨⟨⟨h1, h6⟩, hs1⟩, hs12⟩, hall⟩ := hok
    have hlen := Paired.length ht
    obtain ⟨e0, t', rfl⟩ : ∃ e0 t', t = e0 :: t' := by
      cases t with
      | nil => simp at h1
      | cons e0 t' => exact ⟨e0, t', rfl⟩
    obtain ⟨kv0, kvs', rfl⟩ : ∃ kv0 kvs', kvs = kv0 :: kvs' := by
      cases kvs with
      | nil => simp at hlen
      | cons kv0 kvs' => exact ⟨kv0, kvs', rfl⟩
    have hz : kv0.1 = Sum.inr e0.1 ∧ RowV H kv0.2 e0.2 := by
      cases ht with
      | cons r _ => exact r
    obtain ⟨_, b, rs, eb, hb, hrs⟩ := hz
    have hrl := Paired.length hrs
    have hsz : sizeT (e0 :: t') = e0.2.length := rfl
    refine ⟨_, pss_cons (ps_if (PW.pt (pw_or (pt_not (pt_val (pe_callB call_isi (by rfl) B.isinstance (by decide +kernel) (pa_cons (pv 0) (pa_cons (pe_ty (n := "dict") (by rfl) B.dict (by decide +kernel)) (pa_nil)))))) (pw_or1 (pt_not (pt_chain op_le op_le (pe_int) (pe_callB call_lenD (by rfl) B.len (by decide +kernel) (pa_cons (pv 0) (pa_nil))) (G.MAX_OPERATIONS.pe))))))
        (pss_one (ps_ret (pe_bl)))
        (pss_nil))
      (pss_cons (ps_set (i := 1) sc_table.nd rfl (.inr rfl) (pe_ix ix_list (pe_listVals rfl (pv 0) (by rfl) B.list) (pe_int) (fun _ _ => rfl)))
      (pss_cons (ps_if (PW.pt (pw_or (pt_not (pt_val (pe_callB call_isi (by rfl) B.isinstance (by decide +kernel) (pa_cons (pv 1) (pa_cons (pe_ty (n := "tuple") (by rfl) B.tuple (by decide +kernel)) (pa_nil)))))) (pw_or1 (pt_not (pt_chain op_le op_le (pe_int) (pe_callB (lenK (K := K)) (by rfl) B.len (by decide +kernel) (pa_cons (pv 1) (pa_nil))) (G.MAX_STATES.pe))))))
        (pss_one (ps_ret (pe_bl)))
        (pss_nil))
      (pss_one (ps_ret (pe_callB (cr_all rfl) (by rfl) B.all (by decide +kernel) (pa_cons (pe_lock (pe_lc (own := [("name", 2), ("row", 3)]) (g := gTup K 2 (gCons (gName 2) (gCons (gName 3) (gNil)))) (tt := tYes) rfl sc_table.nd (pi_items (pv 0)) (blkOk_by (own := [("name", 2), ("row", 3)]) (N := ["value", "first", "name", "row"]) (sc := defScope s_table) (by decide +kernel)) (fun _ _ _ _ _ => pg_tup (by rfl) (pgs_cons (pg_name (i := 2) sc_table.nd rfl (.inl rfl)) (pgs_cons (pg_name (i := 3) sc_table.nd rfl (.inl rfl)) (pgs_nil)))) (fun _ _ _ _ _ => pts_nil) (fun _ _ _ _ _ => pe_and (O_is_name.call hr (ha := pa_cons (pv 2) (pa_nil))) (pe_one (O_is_row.call hr (ha := pa_cons (pv 3) (pa_cons (pe_callB (lenK (K := K)) (by rfl) B.len (by decide +kernel) (pa_cons (pv 1) (pa_nil))) (pa_nil)))))))) (pa_nil))))))), ?_⟩
    refine ⟨_, rfl, .ref a, .ty "dict", _, _, true, rfl, .ty "dict", .base (.dK ha), kit_ty (by decide +kernel), _, rfl, ?_⟩
    refine ifF rfl ?_
    refine ⟨_, rfl, a, _, rfl, ha, _, _, rfl, rfl, _, rfl, ?_⟩
    refine ifT (decide_eq_true (by rw [hlen]; omega)) ?_
    refine ⟨_, _, rfl, rfl, _, rfl, ?_⟩
    refine ifF (by rw [decide_eq_true (by rw [hlen]; omega)]; rfl) ?_
    refine ⟨_, rfl, a, _, rfl, ha, fun p hp => ?_⟩
    refine ⟨p, _, 0, kv0.2, rfl, rfl, SqL.of upd_same, at_of (j := 0) rfl rfl, ?_⟩
    rw [eb]
    have e1 : Same H (upd H p (.lst (List.map (·.2) (kv0 :: kvs')))) := same_new hp
    generalize upd H p (.lst (List.map (·.2) (kv0 :: kvs'))) = H1 at e1 ⊢
    refine ⟨_, rfl, .ref b, .ty "tuple", _, _, true, rfl, .ty "tuple", .base (.tup (e1 _ _ hb)), kit_ty (by decide +kernel), _, rfl, ?_⟩
    refine ifF rfl ?_
    refine ⟨_, rfl, b, _, rfl, .inr (SqT.of (e1 _ _ hb)), _, _, rfl, rfl, _, rfl, ?_⟩
    refine ifT (decide_eq_true (by rw [hrl]; omega)) ?_
    refine ⟨_, _, rfl, rfl, _, rfl, ?_⟩
    refine ifF (by rw [decide_eq_true (by rw [hrl]; omega)]; rfl) ?_
    walk_at "x"
    refine ⟨a, .dK (kv0 :: kvs'), e1 _ _ ha, trivial, fun od => ?_⟩
    have tu : TupS H1 (upd H1 a (.frz od (.dK (kv0 :: kvs')))) := lock_in (e1 _ _ ha) (fun xs z => by cases z)
    refine lc_runI (K := K) (o := od) (kvs := kv0 :: kvs') (ev_is rfl rfl) upd_same (e0 :: t') hlen.symm (fun _ => true) (fun z v _ => v = V.bl true) (by omega) (by intro _ _; rfl) (fun _ _ _ _ _ h => h)
      (fun i z kv H2 hi hk e => ⟨evt_yes, fun _ H3 e3 Q q => ?_⟩) (fun p2 H2 ys hp2 e2 hl' hP => ?_)
    · obtain ⟨z', hz', hk1, hk2⟩ := paired_ix2 ht hk
      rw [hi] at hz'
      cases hz'
      have hin := List.all_eq_true.mp hall z (List.mem_of_getElem? hi)
      rw [Bool.and_eq_true] at hin
      have t3 : TupS H H3 := ((tups_of e1).trans tu).trans (tups_of (e.trans e3))
      refine ⟨_, rfl, z.1, by rw [hk1]; rfl, hin.1, fun H4 e4 => ⟨_, rfl, ?_⟩⟩
      refine ifT rfl ?_
      refine ⟨_, rfl, _, rfl, b, _, rfl, .inr (SqT.of (e4 _ _ (t3 _ _ hb))), kv.2, z.2, e0.2.length, by rw [hrl]; rfl, hk2.mono (t3.trans (tups_of e4)), hin.2, hs12, fun H5 e5 => q _ _ (e4.trans e5) rfl⟩
    · rw [filter_all] at hP
      have ey := bools_all (fun _ => true) hP
      rw [ey] at hl'
      have np : p2 ≠ a := fun z => by rw [z, upd_same] at hp2; cases hp2
      refine ⟨e2 _ _ upd_same, p2, _, rfl, SqL.of (by rw [upd_ne np]; exact hl'), ?_⟩
      rw [all_id_map, List.all_eq_true.mpr fun _ _ => rfl]
      exact q _ (e1.trans (lock_out (e1 _ _ ha) e2))
end
end Tm

namespace Tm
open PySem PySem.Spec PyProof.Rows L2
local macro_rules | `(tactic| walk_at "x") => `(tactic| dsimp only [tNext, tRet, tSeq, tCB, tCons, tNil, tAsg, tDrop])
/-! ### the class -/
structure DfM (K : PySem.W.Frag) (C : Addr) (m q : Str) (st : Stmt) (ps : List Str) : Prop where
  ex : ∃ (f : Addr) (fd : FuncData), Meth K C m f ∧ Fun K m q st f fd ∧ Binds K fd ps []
structure DfP (K : PySem.W.Frag) (C : Addr) (m q : Str) (st : Stmt) : Prop where
  ex : ∃ (p g : Addr) (fd : FuncData), PropOf K C m p g ∧ Fun K m q st g fd ∧ Binds K fd ["self"] []
structure DfC (K : PySem.W.Frag) (mg : Str → Option Value) (x : Str) (C : Addr) (q : Str) (st : Stmt) (ps : List Str) : Prop where
  ex : ∃ (f : Addr) (fd : FuncData), mg x = some (.ref C) ∧ Mk K C f ∧ Fun K "__init__" q st f fd ∧ Binds K fd ps []
structure DfIn (K : PySem.W.Frag) (C : Addr) (q : Str) (st : Stmt) (ps : List Str) : Prop where
  ex : ∃ (f : Addr) (fd : FuncData), InM K C f ∧ Fun K "__contains__" q st f fd ∧ Binds K fd ps []
/-- a body of the text keeps its promise -/
def BodyOk (P : Program) (w : World) (K : PySem.W.Frag) (mg : Str → Option Value) (base : Heap) (q : Str) (st : Stmt) (N : List Str) (k : Nat) (sp : Sp) : Prop :=
  ∀ (f : Addr) (cdv : Value) (A : Around) (outer : List Env) (s : Shared) (H : Hp) (vs : List V) (Q : VK) (E : XK), Room k (A.deeper (envOfC q (defScope st) s.heap.objs.size f cdv)) → sp vs H Q E →
      ∃ t, PSs (cxOf CX0 P w K mg base N q (defScope st) f cdv A outer s H E).nox (defBody st) t ∧ t { nx := fun _ H' => Q .non H', rt := Q } (start N vs) H
section
variable {P : Program} {w : World} {K : PySem.W.Frag} {mg : Str → Option Value} {base : Heap} {C : Addr} {m q x : Str} {st : Stmt} {ps N : List Str} {k : Nat} {sp : Sp}
theorem DfM.ok (D : DfM K C m q st ps) (S : FnScope N ps (defScope st)) (len : ∀ vs H Q E, sp vs H Q E → vs.length = ps.length) (hb : BodyOk P w K mg base q st N k sp) : OkM P w K mg base C m (k + 1) ps sp := by
  obtain ⟨f, fd, h1, h2, h3⟩ := D.ex
  exact ⟨f, fd, h1, h2.ok S len (fun cdv A outer s H vs Q E hr h => hb f cdv A outer s H vs Q E hr h), h3⟩
theorem DfP.ok (D : DfP K C m q st) (S : FnScope N ["self"] (defScope st)) (len : ∀ vs H Q E, sp vs H Q E → vs.length = 1) (hb : BodyOk P w K mg base q st N k sp) : OkP P w K mg base C m (k + 1) sp := by
  obtain ⟨p, g, fd, h1, h2, h3⟩ := D.ex
  exact ⟨p, g, fd, h1, h2.ok S len (fun cdv A outer s H vs Q E hr h => hb g cdv A outer s H vs Q E hr h), h3⟩
theorem DfC.ok (D : DfC K mg x C q st ps) (S : FnScope N ps (defScope st)) (len : ∀ vs H Q E, sp vs H Q E → vs.length = ps.length) (hb : BodyOk P w K mg base q st N k sp) : OkC P w K mg base x C (k + 1) ps sp := by
  obtain ⟨f, fd, h0, h1, h2, h3⟩ := D.ex
  exact ⟨f, fd, h0, h1, h2.ok S len (fun cdv A outer s H vs Q E hr h => hb f cdv A outer s H vs Q E hr h), h3⟩
theorem DfIn.ok (D : DfIn K C q st ps) (S : FnScope N ps (defScope st)) (len : ∀ vs H Q E, sp vs H Q E → vs.length = ps.length) (hb : BodyOk P w K mg base q st N k sp) : OkIn P w K mg base C (k + 1) ps sp := by
  obtain ⟨f, fd, h1, h2, h3⟩ := D.ex
  exact ⟨f, fd, h1, h2.ok S len (fun cdv A outer s H vs Q E hr h => hb f cdv A outer s H vs Q E hr h), h3⟩
end
/-- what is true of the class Kind -/
structure Kc (K : PySem.W.Frag) (C : Addr) : Prop where
  cl : Cls K C
  nT : NoAttr K C "_table"
  nS : NoAttr K C "_size"
def kflds (d : Addr) (n : Int) : List (Str × V) := [("_table", .ref d), ("_size", .int n)]
theorem kT_ne : ¬ (("_table" : Str) = "_size") := by decide +kernel
theorem kf_put (d : Addr) (n : Int) : putF "_size" (.int n) (putF "_table" (.ref d) []) = kflds d n := by
  show (if ("_table" : Str) = "_size" then _ else (("_table" : Str), V.ref d) :: putF "_size" (V.int n) []) = _
  rw [if_neg kT_ne]
  rfl
theorem kf_T (d : Addr) (n : Int) : (kflds d n).lookup ("_table" : Str) = some (.ref d) := by simp [kflds, List.lookup]
theorem kf_S (d : Addr) (n : Int) : (kflds d n).lookup ("_size" : Str) = some (.int n) := by
  have h : (("_size" : Str) == ("_table" : Str)) = false := by decide +kernel
  simp [kflds, List.lookup, h]
theorem kf_no (d : Addr) (n : Int) {m : Str} (h1 : (m == ("_table" : Str)) = false := by decide +kernel) (h2 : (m == ("_size" : Str)) = false := by decide +kernel) : (kflds d n).lookup m = none := by
  simp [kflds, List.lookup, h1, h2]
def namesT (t : Tab) : List Str := t.map (·.1)
/-- at v a kind with the table t -/
def KindV (C : Addr) (H : Hp) (v : V) (t : Tab) : Prop := ∃ a dx d kvs, v = .ref a ∧ H a = some (.ins C dx (kflds d (sizeT t))) ∧ H d = some (.dK kvs) ∧ TabV H kvs t ∧ okTab t = true ∧ (namesT t).Nodup ∧ sortedS (namesT t) = true
theorem KindV.mono {C : Addr} {H H' : Hp} {v : V} {t : Tab} (e : Same H H') (h : KindV C H v t) : KindV C H' v t := by
  obtain ⟨a, dx, d, kvs, e1, e2, e3, e4, e5⟩ := h
  exact ⟨a, dx, d, kvs, e1, e _ _ e2, e _ _ e3, e4.mono (tups_of e), e5⟩
/-! ### look-ups in a table -/
theorem tabV_keys {H : Hp} {kvs : List (L2.Key × V)} {t : Tab} (h : TabV H kvs t) : kvs.map (·.1) = (namesT t).map Sum.inr := by
  unfold namesT
  rw [paired_keys (key := fun e : Str × Row => Sum.inr e.1) (fun kv z h => h.1) h, List.map_map]
  rfl
theorem valV_cons {kv : L2.Key × V} {kvs : List (L2.Key × V)} {k : L2.Key} : valV (kv :: kvs) k = if kv.1 = k then some kv.2 else valV kvs k := by
  unfold valV
  rw [List.find?_cons]
  by_cases h : kv.1 = k
  · rw [if_pos h, decide_eq_true h]; rfl
  · rw [if_neg h, decide_eq_false h]
theorem tab_look {H : Hp} : ∀ {kvs : List (L2.Key × V)} {t : Tab} {x : Str} {r : Row}, TabV H kvs t → (namesT t).Nodup → (x, r) ∈ t → ∃ v, valV kvs (Sum.inr x) = some v ∧ RowV H v r
  | _, _, x, r, .nil, _, hm => by simp at hm
  | kv :: kvs, e :: t, x, r, .cons h ht, nd, hm => by
    have nd' := List.nodup_cons.mp (show (e.1 :: namesT t).Nodup from nd)
    rw [valV_cons, h.1]
    rcases List.mem_cons.mp hm with e1 | hm
    · subst e1
      exact ⟨kv.2, if_pos rfl, h.2⟩
    · have hne : e.1 ≠ x := fun z => nd'.1 (by rw [z]; exact List.mem_map.mpr ⟨(x, r), hm, rfl⟩)
      rw [if_neg (fun z => hne (Sum.inr.inj z))]
      exact tab_look ht nd'.2 hm
theorem row_unique {t : Tab} {x : Str} {r r' : Row} (nd : (namesT t).Nodup) (h : (x, r) ∈ t) (h' : (x, r') ∈ t) : r = r' := by
  obtain ⟨i, hi, e⟩ := List.mem_iff_getElem.mp h
  obtain ⟨j, hj, e'⟩ := List.mem_iff_getElem.mp h'
  have q : (namesT t)[i]'(by simpa [namesT] using hi) = (namesT t)[j]'(by simpa [namesT] using hj) := by simp [namesT, e, e']
  have ij := (List.getElem_inj nd).mp q
  subst ij
  rw [e] at e'
  exact (Prod.mk.inj e').2
/-- from names with rows to a table -/
theorem tab_of {H : Hp} {t : Tab} : ∀ {kvs : List (L2.Key × V)} {ys : List Str}, Paired (fun kv z => kv.1 = Sum.inr z ∧ ∃ r, (z, r) ∈ t ∧ RowV H kv.2 r) kvs ys → ∃ t', TabV H kvs t' ∧ namesT t' = ys ∧ ∀ e ∈ t', e ∈ t
  | _, _, .nil => ⟨[], .nil, rfl, fun _ h => by simp at h⟩
  | kv :: kvs, z :: ys, .cons h ht => by
    obtain ⟨t', h1, h2, h3⟩ := tab_of ht
    obtain ⟨r, hr, hv⟩ := h.2
    refine ⟨(z, r) :: t', .cons ⟨h.1, hv⟩ h1, by show z :: namesT t' = _; rw [h2], fun e he => ?_⟩
    rcases List.mem_cons.mp he with z | z
    · rw [z]; exact hr
    · exact h3 e z
theorem nd_of_map {α β : Type} {l : List α} {f : α → β} (h : (l.map f).Nodup) : l.Nodup :=
  (List.pairwise_map.mp h).imp fun h e => h (congrArg f e)
theorem perm_of_names {t t' : Tab} (nd : (namesT t).Nodup) (hn : (namesT t').Perm (namesT t)) (hs : ∀ e ∈ t', e ∈ t) : t'.Perm t := by
  have nd' : (namesT t').Nodup := hn.nodup_iff.mpr nd
  have n1 : t.Nodup := nd_of_map nd
  have n2 : t'.Nodup := nd_of_map nd'
  refine (List.perm_ext_iff_of_nodup n2 n1).mpr fun e => ⟨hs e, fun he => ?_⟩
  have hm : e.1 ∈ namesT t' := hn.mem_iff.mpr (List.mem_map.mpr ⟨e, he, rfl⟩)
  obtain ⟨e', he', q⟩ := List.mem_map.mp hm
  have hr : e'.2 = e.2 := row_unique nd (x := e.1) (by rw [← q]; exact hs e' he') he
  have : e' = e := Prod.ext q hr
  rw [← this]; exact he'
theorem size_of_ok {t : Tab} (h : okTab t = true) : ∀ e ∈ t, e.2.length = sizeT t := fun e he => by
  unfold okTab at h
  simp only [Bool.and_eq_true] at h
  have q := List.all_eq_true.mp h.2 e he
  simp only [Bool.and_eq_true, okRow, decide_eq_true_eq] at q
  exact q.2.1
theorem size_perm {t t' : Tab} (h : okTab t = true) (p : t'.Perm t) : sizeT t' = sizeT t := by
  cases t' with
  | nil =>
    have := p.length_eq
    cases t with
    | nil => rfl
    | cons => simp at this
  | cons e t' =>
    show e.2.length = _
    exact size_of_ok h e (p.mem_iff.mp List.mem_cons_self)
theorem ok_perm {t t' : Tab} (h : okTab t = true) (p : t'.Perm t) : okTab t' = true := by
  have hs := size_perm h p
  unfold okTab at h ⊢
  rw [hs, p.length_eq]
  simp only [Bool.and_eq_true] at h ⊢
  refine ⟨h.1, List.all_eq_true.mpr fun e he => ?_⟩
  have := List.all_eq_true.mp h.2 e (p.mem_iff.mp he)
  simpa using this
end Tm

/-! What the top leaves: defs found by any path, facts, the tables of code objects. -/
namespace TmH
open PySem PySem.Spec PyProof.Rows L2 LamX He Tm
structure AD where
  ad : PySem.W.Frag → Addr
  name : Str
  qual : Str
  st : Stmt
def fnA (K : PySem.W.Frag) (a : Addr) : FnV := match K.lookup a with
  | some ⟨_, _, .func fd, _⟩ => some (fd.name, fd.qualname, fd.params, fd.body, fd.scope, fd.globals, fd.closure, fd.defaults, fd.builtins)
  | _ => none
def AD.val (d : AD) : FnV := some (d.name, d.qual, defArgs d.st, .stmts (defBody d.st), defScope d.st, mainGlobals, [], .none, builtinsNs)
def AD.ok (K : PySem.W.Frag) (d : AD) : Bool := PySem.W.keepIn K (.ref (d.ad K)) && (match K.lookup (d.ad K) with
  | some ⟨_, _, .func fd, _⟩ => PySem.W.codeIn K fd.code d.qual
  | _ => false)
structure FunA (K : PySem.W.Frag) (d : AD) : Prop where
  ex : ∃ (oc : Value) (od : Option Addr) (kV doc pm : Value) (an : Option Addr) (cdv ct : Value) (osl : Array (Option Value)),
    K.lookup (d.ad K) = some ⟨oc, od, .func (PySem.W.fnOf d.name d.qual (defArgs d.st) (defBody d.st) (defScope d.st) .none kV doc pm an cdv ct), osl⟩ ∧ PySem.W.codeIn K cdv d.qual = true
  kp : PySem.W.keepIn K (.ref (d.ad K)) = true
theorem AD.funA {K : PySem.W.Frag} {d : AD} (e : fnA K (d.ad K) = d.val) (c : d.ok K = true) : FunA K d := by
  obtain ⟨kp, c2⟩ := ba c
  refine ⟨?_, kp⟩
  unfold fnA at e
  cases q : K.lookup (d.ad K) with
  | none =>
    rw [q] at c2
    cases c2
  | some o =>
    obtain ⟨oc, od, dt, osl⟩ := o
    rw [q] at c2 e
    cases dt with
    | func fd =>
      obtain ⟨n1, n2, n3, n4, n5, n6, n7, n8, n9, n10, n11, n12, n13, n14, n15⟩ := fd
      have e2 : (some (n1, n2, n3, n4, n5, n6, n7, n8, n15) : FnV) = some (d.name, d.qual, defArgs d.st, .stmts (defBody d.st), defScope d.st, mainGlobals, [], .none, builtinsNs) := e
      simp only [Option.some.injEq, Prod.mk.injEq] at e2
      obtain ⟨h1, h2, h3, h4, h5, h6, h7, h8, h9⟩ := e2
      subst h1 h2 h3 h4 h5 h6 h7 h8 h9
      exact ⟨oc, od, n9, n10, n11, n12, n13, n14, osl, rfl, c2⟩
    | _ => cases c2
theorem FunA.fun_ {K : PySem.W.Frag} {d : AD} (F : FunA K d) : ∃ fd, Fun K d.name d.qual d.st (d.ad K) fd := by
  obtain ⟨oc, od, kV, doc, pm, an, cdv, ct, osl, l, c⟩ := F.ex
  exact ⟨_, fun_mk l c F.kp⟩
/-! ### the hook -/
abbrev AlY : Type := Bool × List FnV
def obsK (fa : List Fa) (ds : List AD) (ex : PySem.W.Frag → Bool) (K : PySem.W.Frag) : AlY := ((fa.all fun f => f.ok K) && ((ds.all fun d => d.ok K) && ex K), ds.map fun d => fnA K (d.ad K))
def valY (ds : List AD) : AlY := (true, ds.map AD.val)
def obsY (n : Nat) (fa : List Fa) (ds : List AD) (tf : List Defn) (ex : PySem.W.Frag → Bool) (g : Addr → Option Obj) : AlY × Bool := (obsK fa ds ex (frT g (asD g n)), tabsB g tf (frT g (asD g n)))
structure SaysY (fa : List Fa) (ds : List AD) (tf : List Defn) (ex : PySem.W.Frag → Bool) (h : Heap) (K : PySem.W.Frag) : Prop where
  k : obsK fa ds ex K = valY ds
  hd : ∀ p ∈ tf, PySem.W.codeHdIn K (cT K p).1 (cT K p).2 = true
  out : ∀ p ∈ tf, K.lookup (cT K p).2 = none
  empty : ∀ p ∈ tf, h.get? (cT K p).2 = some { cls := .none, data := .fields #[] }
theorem saysY_of {n : Nat} {fa : List Fa} {ds : List AD} {tf : List Defn} {ex : PySem.W.Frag → Bool} {h : Heap} (e : obsY n fa ds tf ex h.get? = (valY ds, true)) : SaysY fa ds tf ex h (frT h.get? (asD h.get? n)) := by
  have e1 : obsK fa ds ex (frT h.get? (asD h.get? n)) = valY ds := congrArg (fun z : AlY × Bool => z.1) e
  have e2 : tabsB h.get? tf (frT h.get? (asD h.get? n)) = true := congrArg (fun z : AlY × Bool => z.2) e
  have one : ∀ p ∈ tf, PySem.W.codeHdIn (frT h.get? (asD h.get? n)) (cT (frT h.get? (asD h.get? n)) p).1 (cT (frT h.get? (asD h.get? n)) p).2 = true ∧ ∃ o, h.get? (cT (frT h.get? (asD h.get? n)) p).2 = some o ∧ emptyTab o = true := fun p hp => by
    obtain ⟨a1, a2⟩ := ba (List.all_eq_true.mp e2 p hp)
    refine ⟨a1, ?_⟩
    cases q : h.get? (cT (frT h.get? (asD h.get? n)) p).2 with
    | none =>
      rw [q] at a2
      cases a2
    | some o =>
      rw [q] at a2
      exact ⟨o, rfl, a2⟩
  refine ⟨e1, fun p hp => (one p hp).1, fun p hp => ?_, fun p hp => ?_⟩
  · obtain ⟨_, o, q, z⟩ := one p hp
    exact frT_none q z
  · obtain ⟨_, o, q, z⟩ := one p hp
    rw [q, emptyTab_eq z]
def hookY (n : Nat) (fa : List Fa) (ds : List AD) (tf : List Defn) (ex : PySem.W.Frag → Bool) : PySem.W.Hook where
  α := AlY × Bool
  obs := fun s => obsY n fa ds tf ex s.heap.get?
  val := fun _ => (valY ds, true)
  says := fun _ h => ∃ K : PySem.W.Frag, K.In h ∧ SaysY fa ds tf ex h K
  of := fun _ _ e => ⟨_, frT_in, saysY_of e⟩
  keeps := fun _ _ _ ⟨K, hK, c⟩ k => ⟨K, PySem.W.Frag.In.keeps hK k, ⟨c.k, c.hd, c.out, fun p hp => k _ _ (c.empty p hp)⟩⟩
theorem obsY_eq {n : Nat} {fa : List Fa} {ds : List AD} {tf : List Defn} {ex : PySem.W.Frag → Bool} {g : Addr → Option Obj} {s : Shared} (h : ∀ a, g a = s.heap.get? a) : obsY n fa ds tf ex g = (hookY n fa ds tf ex).obs s := by
  have e : g = s.heap.get? := funext h
  rw [e] <;> rfl
section
variable {fa : List Fa} {ds : List AD} {tf : List Defn} {ex : PySem.W.Frag → Bool} {h : Heap} {K : PySem.W.Frag}
theorem SaysY.fact (c : SaysY fa ds tf ex h K) {f : Fa} (hf : f ∈ fa) : f.ok K = true := by
  have c1 := (ba (show ((fa.all fun f => f.ok K) && ((ds.all fun d => d.ok K) && ex K)) = true from congrArg (fun z : AlY => z.1) c.k)).1
  exact List.all_eq_true.mp c1 f hf
theorem SaysY.more (c : SaysY fa ds tf ex h K) : ex K = true :=
  (ba (ba (show ((fa.all fun f => f.ok K) && ((ds.all fun d => d.ok K) && ex K)) = true from congrArg (fun z : AlY => z.1) c.k)).2).2
theorem SaysY.def_ (c : SaysY fa ds tf ex h K) (i : Nat) {d : AD} (hi : ds[i]? = some d) : FunA K d := by
  have c2 := (ba (ba (show ((fa.all fun f => f.ok K) && ((ds.all fun d => d.ok K) && ex K)) = true from congrArg (fun z : AlY => z.1) c.k)).2).1
  have e : ds.map (fun d => fnA K (d.ad K)) = ds.map AD.val := congrArg (fun z : AlY => z.2) c.k
  have e2 : (ds.map fun d => fnA K (d.ad K))[i]? = (ds.map AD.val)[i]? := by rw [e]
  rw [List.getElem?_map, List.getElem?_map, hi] at e2
  exact AD.funA (Option.some.inj e2) (List.all_eq_true.mp c2 d (List.mem_of_getElem? hi))
end
end TmH

set_option maxHeartbeats 0
namespace TmH
open PySem PySem.Spec PyProof.Rows L2 LamX He Tm
def getP (K : PySem.W.Frag) (m : Str) : Addr := match PySem.W.recIn K (ma K (ga K "Kind") m) "property" with
  | some (.ref g :: _) => g
  | _ => 0
def propB (K : PySem.W.Frag) (m : Str) : Bool := eqO (PySem.W.findIn K (.ref (ga K "Kind")) m) (some (some (.ref (ma K (ga K "Kind") m)))) && (eqO (PySem.W.specialIn K (.ref (ma K (ga K "Kind") m)) "__get__") (some (some (.builtin "property.__get__"))) &&
  (decide (PySem.W.takesIn K (.ref (ma K (ga K "Kind") m)) = some true) && (match PySem.W.recIn K (ma K (ga K "Kind") m) "property" with
    | some (.ref _ :: _) => true
    | _ => false)))
def clsB (K : PySem.W.Frag) : Bool := eqO (PySem.W.findIn K (.ref (ga K "Kind")) "__ne__") (some (some (.builtin "object.__ne__"))) && (decide (PySem.W.mroIn K (ga K "Kind") (.type "object") = some true) && (decide (PySem.W.kitOne K (.ref (ga K "Kind")) (.ref (ga K "Kind")) = some true) &&
  (eqO (PySem.W.findIn K (.ref (ga K "Kind")) "__class__") (some (some (.builtin "object.__class__"))) && (eqO (PySem.W.specialIn K (.builtin "object.__class__") "__get__") (some (some (.builtin "getset_descriptor.__get__"))) && decide (PySem.W.takesIn K (.builtin "object.__class__") = some true)))))
def getPC (K : PySem.W.Frag) (c m : Str) : Addr := match PySem.W.recIn K (ma K (ga K c) m) "property" with
  | some (.ref g :: _) => g
  | _ => 0
def propC (K : PySem.W.Frag) (c m : Str) : Bool := eqO (PySem.W.findIn K (.ref (ga K c)) m) (some (some (.ref (ma K (ga K c) m)))) && (eqO (PySem.W.specialIn K (.ref (ma K (ga K c) m)) "__get__") (some (some (.builtin "property.__get__"))) &&
  (decide (PySem.W.takesIn K (.ref (ma K (ga K c) m)) = some true) && (match PySem.W.recIn K (ma K (ga K c) m) "property" with
    | some (.ref _ :: _) => true
    | _ => false)))
def clsC (K : PySem.W.Frag) (c : Str) : Bool := eqO (PySem.W.findIn K (.ref (ga K c)) "__ne__") (some (some (.builtin "object.__ne__"))) && (decide (PySem.W.mroIn K (ga K c) (.type "object") = some true) && (decide (PySem.W.kitOne K (.ref (ga K c)) (.ref (ga K c)) = some true) &&
  (eqO (PySem.W.findIn K (.ref (ga K c)) "__class__") (some (some (.builtin "object.__class__"))) && (eqO (PySem.W.specialIn K (.builtin "object.__class__") "__get__") (some (some (.builtin "getset_descriptor.__get__"))) && decide (PySem.W.takesIn K (.builtin "object.__class__") = some true)))))
/-! the exceptions' classes -/
abbrev CN (K : PySem.W.Frag) : Addr := ga K "TooMany"
abbrev FN (K : PySem.W.Frag) : Addr := ma K (CN K) "__init__"
abbrev CO (K : PySem.W.Frag) : Addr := ga K "InvalidOperation"
def excB (K : PySem.W.Frag) (C : Addr) : Bool := match K.lookup C with
  | some ⟨.type "type", _, .cls cd, sl⟩ => (match cd.mro, sl.toList with
    | .ref C' :: bm, [_, _, _, _, some (.builtin n), _] => decide (C' = C) && (decide (n = "OverflowError.__new__") && (!cd.hasDel && (cd.hasDict && PySem.TooX.refsOE bm)))
    | _, _ => false)
  | _ => false
def noKw (K : PySem.W.Frag) (f : Addr) : Bool := match K.lookup f with
  | some ⟨_, _, .func fd, _⟩ => (match fd.kwdefaults with
    | .none => true
    | _ => false)
  | _ => false
def numB (K : PySem.W.Frag) : Bool := excB K (CN K) && (eqO (PySem.W.findIn K (.ref (CN K)) "__setattr__") (some (some (.builtin "object.__setattr__"))) && (eqO (PySem.W.findIn K (.ref (CN K)) "__getattribute__") (some (some (.builtin "BaseException.__getattribute__"))) &&
  (eqO (PySem.W.findIn K (.ref (CN K)) "__getattr__") (some none) && (eqO (PySem.W.findIn K (.ref (CN K)) "limit") (some none) && (eqO (PySem.W.findIn K (.ref (CN K)) "__init__") (some (some (.ref (FN K)))) && (decide (PySem.W.typeIn K (.ref (FN K)) = some (.type "function")) &&
  (PySem.W.keepIn K (.ref (CN K)) && (decide (PySem.W.subIn K (.ref (CN K)) (.type "BaseException") = some true) && (decide (PySem.W.typeIn K (.ref (CN K)) = some (.type "type")) && (PySem.W.hasDictIn K (CN K) && (decide (PySem.W.exmOne K (.ref (CN K)) (.ref (CN K)) = some true) && noKw K (FN K))))))))))))
def errB (K : PySem.W.Frag) (C : Addr) : Bool := PySem.W.keepIn K (.ref C) && (PySem.W.excIn K C [.type "ValueError", .type "Exception", .type "BaseException", .type "object"] "ValueError.__new__" && (decide (PySem.W.subIn K (.ref C) (.type "BaseException") = some true) && decide (PySem.W.typeIn K (.ref C) = some (.type "type"))))
def metB (K : PySem.W.Frag) : Bool := decide (PySem.W.exmOne K (.ref (CO K)) (.ref (CO K)) = some true) && (decide (PySem.W.exmOne K (.ref (CN K)) (.ref (CO K)) = some false) && decide (PySem.W.exmOne K (.ref (CN K)) (.ref (CN K)) = some true))
def exP (K : PySem.W.Frag) : Bool := propB K "operations" && (propB K "size" && (propC K "Plan" "kind" && (propC K "Plan" "start" && (propC K "Plan" "teams" && (propC K "Plan" "threads" && (clsC K "Plan" && (numB K && (errB K (CO K) && (metB K && (decide (PySem.W.kitOne K (.ref (ga K "Plan")) (.type "str") = some false) && (clsB K)))))))))))
def ds : List AD := [
  ⟨fun K => ga K "is_number_in", "is_number_in", "is_number_in", top 10⟩,
  ⟨fun K => ga K "need_number", "need_number", "need_number", top 11⟩,
  ⟨fun K => ga K "is_name", "is_name", "is_name", top 18⟩,
  ⟨fun K => ga K "need_kind", "need_kind", "need_kind", top 19⟩,
  ⟨fun K => ga K "_is_pair", "_is_pair", "_is_pair", top 20⟩,
  ⟨fun K => ga K "_is_row", "_is_row", "_is_row", top 21⟩,
  ⟨fun K => ga K "_is_table", "_is_table", "_is_table", top 22⟩,
  ⟨fun K => ga K "_is_state_tuple", "_is_state_tuple", "_is_state_tuple", top 23⟩,
  ⟨fun K => ga K "_kind_over", "_kind_over", "_kind_over", top 25⟩,
  ⟨fun K => ga K "_is_team", "_is_team", "_is_team", top 28⟩,
  ⟨fun K => ga K "_law_purse_of", "_law_purse_of", "_law_purse_of", top 31⟩,
  ⟨fun K => ga K "_law_coin", "_law_coin", "_law_coin", top 32⟩,
  ⟨fun K => ga K "_law_pick", "_law_pick", "_law_pick", top 33⟩,
  ⟨fun K => ga K "_law_some_of", "_law_some_of", "_law_some_of", top 34⟩,
  ⟨fun K => ga K "_law_table_drawn", "_law_table_drawn", "_law_table_drawn", top 35⟩,
  ⟨fun K => ga K "_law_plan_drawn", "_law_plan_drawn", "_law_plan_drawn", top 36⟩,
  ⟨fun K => ga K "_law_plan_of", "_law_plan_of", "_law_plan_of", top 37⟩,
  ⟨fun K => ga K "_law_normal_teams", "_law_normal_teams", "_law_normal_teams", top 38⟩,
  ⟨fun K => ga K "_law_turned_table", "_law_turned_table", "_law_turned_table", top 39⟩,
  ⟨fun K => ga K "_law_tried", "_law_tried", "_law_tried", top 40⟩,
  ⟨fun K => ga K "_law_sized_deed", "_law_sized_deed", "_law_sized_deed", top 41⟩,
  ⟨fun K => ga K "_law_named_deed", "_law_named_deed", "_law_named_deed", top 42⟩,
  ⟨fun K => ga K "_law_deed", "_law_deed", "_law_deed", top 43⟩,
  ⟨fun K => ga K "_law_is_like", "_law_is_like", "_law_is_like", top 44⟩,
  ⟨fun K => ga K "_law_right", "_law_right", "_law_right", top 45⟩,
  ⟨fun K => ga K "law", "law", "law", top 46⟩,
  ⟨fun K => ma K (ga K "Kind") "__init__", "__init__", "Kind.__init__", inClass (top 24) 0⟩,
  ⟨fun K => ma K (ga K "Kind") "renamed", "renamed", "Kind.renamed", inClass (top 24) 9⟩,
  ⟨fun K => ma K (ga K "Kind") "turned", "turned", "Kind.turned", inClass (top 24) 10⟩,
  ⟨fun K => ma K (ga K "Kind") "_is_renaming", "_is_renaming", "Kind._is_renaming", inClass (top 24) 13⟩,
  ⟨fun K => ma K (ga K "Kind") "__contains__", "__contains__", "Kind.__contains__", inClass (top 24) 14⟩,
  ⟨fun K => ma K (ga K "Kind") "__eq__", "__eq__", "Kind.__eq__", inClass (top 24) 16⟩,
  ⟨fun K => getP K "operations", "operations", "Kind.operations", inClass (top 24) 1⟩,
  ⟨fun K => getP K "size", "size", "Kind.size", inClass (top 24) 3⟩,
  ⟨fun K => ma K (ga K "TooMany") "__init__", "__init__", "TooMany.__init__", inClass (top 8) 0⟩,
  ⟨fun K => ma K (ga K "Plan") "__init__", "__init__", "Plan.__init__", inClass (top 29) 0⟩,
  ⟨fun K => ma K (ga K "Plan") "team_of", "team_of", "Plan.team_of", inClass (top 29) 5⟩,
  ⟨fun K => ma K (ga K "Plan") "fewer", "fewer", "Plan.fewer", inClass (top 29) 9⟩,
  ⟨fun K => ma K (ga K "Plan") "more", "more", "Plan.more", inClass (top 29) 10⟩,
  ⟨fun K => ma K (ga K "Plan") "exchanged", "exchanged", "Plan.exchanged", inClass (top 29) 11⟩,
  ⟨fun K => ma K (ga K "Plan") "normal", "normal", "Plan.normal", inClass (top 29) 12⟩,
  ⟨fun K => ma K (ga K "Plan") "is_normal", "is_normal", "Plan.is_normal", inClass (top 29) 13⟩,
  ⟨fun K => ma K (ga K "Plan") "renamed", "renamed", "Plan.renamed", inClass (top 29) 14⟩,
  ⟨fun K => ma K (ga K "Plan") "turned", "turned", "Plan.turned", inClass (top 29) 15⟩,
  ⟨fun K => ma K (ga K "Plan") "_with_team", "_with_team", "Plan._with_team", inClass (top 29) 17⟩,
  ⟨fun K => ma K (ga K "Plan") "__len__", "__len__", "Plan.__len__", inClass (top 29) 18⟩,
  ⟨fun K => ma K (ga K "Plan") "__eq__", "__eq__", "Plan.__eq__", inClass (top 29) 19⟩,
  ⟨fun K => getPC K "Plan" "kind", "kind", "Plan.kind", inClass (top 29) 1⟩,
  ⟨fun K => getPC K "Plan" "start", "start", "Plan.start", inClass (top 29) 2⟩,
  ⟨fun K => getPC K "Plan" "teams", "teams", "Plan.teams", inClass (top 29) 3⟩,
  ⟨fun K => getPC K "Plan" "threads", "threads", "Plan.threads", inClass (top 29) 4⟩]
def fa : List Fa := [.glo "is_number_in", .glo "need_number", .glo "is_name", .glo "need_kind", .glo "_is_pair", .glo "_is_row", .glo "_is_table", .glo "_is_state_tuple", .glo "_kind_over", .glo "_is_team", .glo "_law_purse_of", .glo "_law_coin", .glo "_law_pick", .glo "_law_some_of", .glo "_law_table_drawn", .glo "_law_plan_drawn", .glo "_law_plan_of", .glo "_law_normal_teams", .glo "_law_turned_table", .glo "_law_tried", .glo "_law_sized_deed", .glo "_law_named_deed", .glo "_law_deed", .glo "_law_is_like", .glo "_law_right", .glo "law", .glo "Kind", .glo "InvalidOperation", .glo "TooMany", .free "isinstance", .free "int", .free "bool", .free "str", .free "tuple", .free "list", .free "dict", .free "len", .free "all", .free "range", .free "enumerate", .free "sorted", .free "min", .free "max", .free "abs", .free "set", .free "zip", .free "sum", .free "repr", .int "MAX_LETTERS" 8, .int "MAX_STATES" 12, .int "MAX_OPERATIONS" 6, .int "MAX_ANSWER" 99, .str "ALPHABET" "abcdefghijklmnopqrstuvwxyz", .cls "Kind", .noat "Kind" "_table", .noat "Kind" "_size", .mkr "Kind", .meth "Kind" "renamed", .meth "Kind" "turned", .meth "Kind" "_is_renaming", .meth "Kind" "__contains__", .meth "Kind" "__eq__", .int "MAX_THREADS" 6, .glo "Plan", .cls "Plan", .mkr "Plan", .noat "Plan" "_kind", .noat "Plan" "_start", .noat "Plan" "_teams", .noat "Plan" "_threads", .meth "Plan" "team_of", .meth "Plan" "fewer", .meth "Plan" "more", .meth "Plan" "exchanged", .meth "Plan" "normal", .meth "Plan" "is_normal", .meth "Plan" "renamed", .meth "Plan" "turned", .meth "Plan" "_with_team", .meth "Plan" "__len__", .meth "Plan" "__eq__"]
def loose : List PySem.Str := (["_wall", "TeamError", "InvalidKind", "InvalidPlan", "InvalidOperation", "InvalidNumber", "UnknownName", "TooMany", "is_number_in", "need_number", "ALPHABET", "MAX_LETTERS", "MAX_STATES"] : List PySem.Str) ++ (["MAX_OPERATIONS", "MAX_ANSWER", "is_name", "need_kind", "_is_pair", "_is_row", "_is_table", "_is_state_tuple", "Kind", "_kind_over", "MAX_THREADS", "_is_team", "Plan"] : List PySem.Str) ++ (["_law_purse_of", "_law_coin", "_law_pick", "_law_some_of", "_law_table_drawn", "_law_plan_drawn", "_law_plan_of", "_law_normal_teams", "_law_turned_table", "_law_tried", "_law_sized_deed", "_law_named_deed", "_law_deed"] : List PySem.Str) ++ (["_law_is_like", "_law_right"] : List PySem.Str)
def tf : List Defn := [("_law_sized_deed", none)]
abbrev R : PySem.W.OpenRow := PySem.W.OpenLaw.row PySem.Challenge.rw_teamtells_k12_whole_histories_of_plans
abbrev hk : PySem.W.Hook := hookY 6 fa ds tf exP
def ob (s : PySem.W.SharedT) : AlY × Bool := obsY 6 fa ds tf exP (HandSHeadRun.getT s)
theorem ob_eq (s : PySem.W.SharedT) : ob s = hk.obs s.abs := obsY_eq (HandSHeadRun.getT_eq s)
theorem run (w : World) : HandSHeadRun.RunEq R (PySem.W.view R.prog [46]) hk ob 6000 loose w := by
  intro os
  kernel_rfl
end TmH

set_option maxHeartbeats 2000000
namespace Tm
open PySem PySem.Spec PyProof.Rows L2
local macro_rules | `(tactic| walk_at "x") => `(tactic| dsimp only [tNext, tRet, tSeq, tCB, tCons, tNil, tAsg, tDrop, sFld])
section
variable {P : Program} {w : World} {K : PySem.W.Frag} {mg : Str → Option Value} {base : Heap} {C : Addr}
/-! ### Kind(operations) -/
abbrev s_init : Stmt := inClass (top 24) 0
theorem sc_init : FnScope ["self", "operations", "name"] ["self", "operations"] (defScope s_init) := ⟨rfl, rfl, rfl, by decide +kernel, rfl, by decide +kernel, by decide +kernel⟩
def sp_init (C : Addr) : Sp := fun vs H Q _ => ∃ (p dx a : Addr) (kvs : List (L2.Key × V)) (t : Tab), vs = [.ref p, .ref a] ∧ H p = some (.ins C dx []) ∧ H a = some (.dK kvs) ∧ TabV H kvs t ∧ okTab t = true ∧ (namesT t).Nodup ∧
  ∀ H' t', t'.Perm t → KindV C H' (.ref p) t' → (∀ b o, b ≠ p → H b = some o → H' b = some o) → Q .non H'
theorem ok_init (B : Bt mg) (T : Kc K C) (O_is_table : Ok P w K mg base "_is_table" 4 ["value"] sp_table) (D : DfC K mg "Kind" C "Kind.__init__" s_init ["self", "operations"]) : OkC P w K mg base "Kind" C 5 ["self", "operations"] (sp_init C) := by
  refine D.ok sc_init (fun vs H Q E h => ?_) (fun f cdv A outer s H vs Q E hr h => ?_)
  · obtain ⟨p, dx, a, kvs, t, rfl, _⟩ := h
    rfl
  · obtain ⟨p, dx, a, kvs, t, rfl, hp, ha, ht, hok, nd, q⟩ := h
    have hu := hu_of hr
    have hkeys := tabV_keys ht
    have h6 : (namesT t).length ≤ 6 := by
      have := hok
      unfold okTab at this
      simp only [Bool.and_eq_true, decide_eq_true_eq] at this
      unfold namesT
      rw [List.length_map]
      exact this.1.1.1.2
    refine ⟨_, pss_cons (ps_if (pt_not (pt_val (O_is_table.call hr (ha := pa_cons (pv 1) (pa_nil)))))
        (pss_one (ps_never))
        (pss_nil))
      (pss_cons (ps_fld (pv 0) (pe_dc (own := [("name", 2)]) (g := gName 2) (tt := tYes) rfl sc_init.nd (pi_list (pe_callB (call_sortedD rfl) (by rfl) B.sorted (by decide +kernel) (pa_cons (pv 1) (pa_nil)))) (blkOk_by (own := [("name", 2)]) (N := ["self", "operations", "name"]) (sc := defScope s_init) (by decide +kernel)) (fun _ _ _ _ _ => pg_name (i := 2) sc_init.nd rfl (.inl rfl)) (fun _ _ _ _ _ => pts_nil) (fun _ _ _ _ _ => pv 2) (fun _ _ _ _ _ => pe_dget hu (pv 1) (pv 2) (fun _ _ => rfl))) rfl)
      (pss_one (ps_fld (pv 0) (pe_callB (lenK (K := K)) (by rfl) B.len (by decide +kernel) (pa_cons (pe_ix (ixLK (K := K)) (pe_listVals rfl (pe_fld (pv 0) rfl) (by rfl) B.list) (pe_int) (fun _ _ => rfl)) (pa_nil))) rfl))), ?_⟩
    refine ⟨_, rfl, a, kvs, t, rfl, ha, ht, hok, fun H1 e1 => ⟨_, rfl, ?_⟩⟩
    refine ifF rfl ?_
    walk_at "x"
    refine dc_bind (P := fun v H2 => ∃ (b : Addr) (ys : List Str), v = .ref b ∧ H2 b = some (.lst (ys.map V.str)) ∧ ys.Perm (namesT t) ∧ sortedS ys = true) (fun Q q => ?_) (fun v H2 e2 hv => ?_)
    · exact ⟨_, rfl, a, kvs, namesT t, rfl, .inl (e1 _ _ ha), hkeys, by omega, fun ys b hpm hst hb => q _ _ (same_new hb) ⟨b, ys, rfl, upd_same, hpm, hst⟩⟩
    · obtain ⟨b, ys, rfl, hb, hpm, hst⟩ := hv
      have e12 := e1.trans e2
      have ndy : ys.Nodup := hpm.nodup_iff.mpr nd
      refine dc_runL (K := K) (xs := ys.map V.str) (ev_c ⟨b, rfl, SqL.of hb⟩) ys (List.length_map ..) (fun _ => true) Sum.inr (fun z v H => ∃ r, (z, r) ∈ t ∧ RowV H v r) (by rw [hpm.length_eq]; omega)
        (by rw [List.nodup_iff_pairwise_ne, List.pairwise_map]; exact (List.nodup_iff_pairwise_ne.mp ndy).imp fun h z => h (Sum.inr.inj z)) (by intro _; rfl)
        (fun z v H H' e h => by obtain ⟨r, h1, h2⟩ := h; exact ⟨r, h1, h2.mono e⟩) (fun i z x H3 hi hx e3 => ⟨evt_yes, fun _ H4 e4 => ?_, fun _ H4 e4 => ?_⟩) (fun d H3 kvs' hd e3 hdk hP => ?_)
      · rw [List.getElem?_map, hi] at hx
        have ex : V.str z = x := Option.some.inj hx
        subst ex
        exact ev_is rfl rfl
      · rw [List.getElem?_map, hi] at hx
        have ex : V.str z = x := Option.some.inj hx
        subst ex
        have hz : z ∈ namesT t := hpm.mem_iff.mp (List.mem_of_getElem? hi)
        obtain ⟨⟨x', r⟩, hr', exx⟩ := List.mem_map.mp hz
        have ex2 : x' = z := exx
        subst ex2
        obtain ⟨v, hv, hrow⟩ := tab_look ht nd hr'
        have hSame : Same H H4 := e12.trans (e3.trans e4)
        intro Q q
        refine ⟨_, rfl, _, rfl, a, v, rfl, ?_, q v H4 (Same.refl _) ⟨r, hr', hrow.mono (tups_of hSame)⟩⟩
        have := DGet.k (k := Sum.inr x') (hSame _ _ ha)
        rw [hv] at this
        exact this
      · rw [filter_all] at hP
        obtain ⟨t', ht', hn', hs'⟩ := tab_of hP
        have pm : t'.Perm t := perm_of_names nd (by rw [hn']; exact hpm) hs'
        have e13 := e12.trans e3
        have npd : p ≠ d := ne_of_none (e12 _ _ hp) hd
        refine ⟨_, rfl, p, C, dx, [], rfl, e13 _ _ hp, T.cl, T.nT, (by show 0 < 1000; decide), ?_⟩
        generalize hH4 : upd H3 p (.ins C dx (putF "_table" (.ref d) [])) = H4
        have hp4 : H4 p = some (.ins C dx (putF "_table" (.ref d) [])) := by rw [← hH4]; exact upd_same
        have hd4 : H4 d = some (.dK kvs') := by rw [← hH4, upd_ne npd.symm]; exact hdk
        have t4 : TupS H3 H4 := by rw [← hH4]; exact tups_upd (e13 _ _ hp) (fun xs z => by cases z)
        have hlk : (putF "_table" (V.ref d) []).lookup ("_table" : Str) = some (.ref d) := by simp [putF, List.lookup]
        obtain ⟨e0, t0, rfl⟩ : ∃ e0 t0, t' = e0 :: t0 := by
          cases t' with
          | nil =>
            have := ok_perm hok pm
            simp [okTab] at this
          | cons e0 t0 => exact ⟨e0, t0, rfl⟩
        obtain ⟨kv0, kvs0, rfl⟩ : ∃ kv0 kvs0, kvs' = kv0 :: kvs0 := by
          cases kvs' with
          | nil => cases ht'
          | cons kv0 kvs0 => exact ⟨kv0, kvs0, rfl⟩
        obtain ⟨b0, rs, eb, hb0, hrs⟩ : RowV H3 kv0.2 e0.2 := by
          cases ht' with
          | cons r _ => exact r.2
        refine ⟨_, rfl, p, C, dx, _, _, rfl, hp4, T.cl, T.nT, hlk, d, _, rfl, hd4, fun l hl => ?_⟩
        refine ⟨l, _, 0, kv0.2, rfl, rfl, SqL.of upd_same, at_of (j := 0) rfl rfl, ?_⟩
        rw [eb]
        have e5 : Same H4 (upd H4 l (.lst (List.map (·.2) (kv0 :: kvs0)))) := same_new hl
        generalize upd H4 l (.lst (List.map (·.2) (kv0 :: kvs0))) = H5 at e5 ⊢
        refine ⟨b0, rs, rfl, .inr (SqT.of (e5 _ _ (t4 _ _ hb0))), _, rfl, p, C, dx, _, rfl, e5 _ _ hp4, T.cl, T.nS, (by show 1 < 1000; decide), ?_⟩
        have hsz : (rs.length : Int) = (sizeT (e0 :: t0) : Int) := by rw [Paired.length hrs]; rfl
        refine q _ (e0 :: t0) pm ⟨p, dx, d, kv0 :: kvs0, rfl, ?_, ?_, ?_, ok_perm hok pm, ?_, ?_⟩ ?_
        · rw [upd_same, hsz, kf_put]
        · rw [upd_ne npd.symm]
          exact e5 _ _ hd4
        · exact ht'.mono (t4.trans ((tups_of e5).trans (tups_upd (e5 _ _ hp4) (fun xs z => by cases z))))
        · rw [hn']; exact ndy
        · rw [hn']; exact hst
        · intro c o hc hco
          rw [upd_ne hc]
          refine e5 _ _ ?_
          rw [← hH4, upd_ne hc]
          exact e13 _ _ hco
end
end Tm

namespace Tm
open PySem PySem.Spec PyProof.Rows L2
local macro_rules | `(tactic| walk_at "x") => `(tactic| dsimp only [tNext, tRet, tSeq, tCB, tCons, tNil, tAsg, tDrop, sFld])
/-- a kind is made of a dict -/
theorem mk_kind {C : Addr} {H1 : Hp} {a : Addr} {kvs : List (L2.Key × V)} {t : Tab} {Q : VK} {E : XK} (ha : H1 a = some (.dK kvs)) (ht : TabV H1 kvs t) (hok : okTab t = true) (nd : (namesT t).Nodup)
    (q : ∀ v H' t', Same H1 H' → KindV C H' v t' → t'.Perm t → Q v H') :
    ∀ x dx, H1 x = none → H1 dx = none → dx ≠ x → sp_init C (.ref x :: ([V.ref a] ++ [])) (upd (upd H1 dx (.own x)) x (.ins C dx [])) (fun v H2 => v = .non ∧ Q (.ref x) H2) E := by
  intro x dx hx hdx hne
  have e : Same H1 (upd (upd H1 dx (.own x)) x (.ins C dx [])) := fun b o hb => by
    rw [upd_ne (ne_of_none hb hx), upd_ne (ne_of_none hb hdx)]; exact hb
  refine ⟨x, dx, a, kvs, t, rfl, upd_same, e _ _ ha, ht.mono (tups_of e), hok, nd, fun H' t' pm hk hkeep => ⟨rfl, q _ H' t' (fun b o hb => ?_) hk pm⟩⟩
  exact hkeep b o (ne_of_none hb hx) (e _ _ hb)
section
variable {P : Program} {w : World} {K : PySem.W.Frag} {mg : Str → Option Value} {base : Heap} {C : Addr}
/-! ### in, _need_operation, after, names -/
abbrev s_cont : Stmt := inClass (top 24) 14
theorem sc_cont : FnScope ["self", "x"] ["self", "x"] (defScope s_cont) := ⟨rfl, rfl, rfl, by decide +kernel, rfl, by decide +kernel, by decide +kernel⟩
def sp_cont (C : Addr) : Sp := fun vs H Q _ => ∃ (v : V) (t : Tab) (x : Str), vs = [v, .str x] ∧ KindV C H v t ∧ Q (.bl (decide (x ∈ namesT t))) H
theorem tab_isSome {H : Hp} : ∀ {kvs : List (L2.Key × V)} {t : Tab} (x : Str), TabV H kvs t → (valV kvs (Sum.inr x)).isSome = decide (x ∈ namesT t)
  | _, _, x, .nil => by simp [valV, namesT]
  | kv :: kvs, e :: t, x, .cons h ht => by
    rw [valV_cons, h.1]
    by_cases hx : e.1 = x
    · rw [if_pos (by rw [hx])]
      have : x ∈ namesT (e :: t) := by rw [← hx]; exact List.mem_cons_self
      rw [decide_eq_true this]; rfl
    · rw [if_neg (fun z => hx (Sum.inr.inj z)), tab_isSome x ht]
      have hiff : x ∈ namesT (e :: t) ↔ x ∈ namesT t := by
        show x ∈ e.1 :: namesT t ↔ _
        rw [List.mem_cons]
        exact ⟨fun z => z.resolve_left (fun y => hx y.symm), .inr⟩
      exact decide_eq_decide.mpr hiff.symm
theorem ok_cont (B : Bt mg) (T : Kc K C) (D : DfIn K C "Kind.__contains__" s_cont ["self", "x"]) : OkIn P w K mg base C 1 ["self", "x"] (sp_cont C) := by
  refine D.ok sc_cont (fun vs H Q E h => ?_) (fun f cdv A outer s H vs Q E hr h => ?_)
  · obtain ⟨v, t, x, rfl, _⟩ := h
    rfl
  · obtain ⟨v, t, x, rfl, ⟨a, dx, d, kvs, rfl, ha, hd, ht, hok, nd, hst⟩, q⟩ := h
    have hu := hu_of hr
    refine ⟨_, pss_one (ps_ret (pe_and (pe_callB (isiK (K := K)) (by rfl) B.isinstance (by decide +kernel) (pa_cons (pv 1) (pa_cons (pe_ty (n := "str") (by rfl) B.str (by decide +kernel)) (pa_nil)))) (pe_one (pe_cmp (pc_din hu (pv 1) (pe_fld (pv 0) rfl)) rfl)))), ?_⟩
    refine ⟨_, rfl, .str x, .ty "str", _, _, true, rfl, .ty "str", .base (.str x), kit_ty (by decide +kernel), _, rfl, ?_⟩
    refine ifT rfl ?_
    refine ⟨_, rfl, _, rfl, a, C, dx, _, _, rfl, ha, T.cl, T.nT, kf_T _ _, d, _, rfl, DGet.k (k := Sum.inr x) hd, ?_⟩
    rw [tab_isSome x ht]
    exact q
abbrev s_needop : Stmt := inClass (top 24) 12
theorem sc_needop : FnScope ["self", "name"] ["self", "name"] (defScope s_needop) := ⟨rfl, rfl, rfl, by decide +kernel, rfl, by decide +kernel, by decide +kernel⟩
def sp_needop (C : Addr) : Sp := fun vs H Q _ => ∃ (v : V) (t : Tab) (x : Str), vs = [v, .str x] ∧ KindV C H v t ∧ x ∈ namesT t ∧ Q .non H
theorem ok_needop (O_in : OkIn P w K mg base C 1 ["self", "x"] (sp_cont C)) (D : DfM K C "_need_operation" "Kind._need_operation" s_needop ["self", "name"]) : OkM P w K mg base C "_need_operation" 2 ["self", "name"] (sp_needop C) := by
  refine D.ok sc_needop (fun vs H Q E h => ?_) (fun f cdv A outer s H vs Q E hr h => ?_)
  · obtain ⟨v, t, x, rfl, _⟩ := h
    rfl
  · obtain ⟨v, t, x, rfl, hk, hx, q⟩ := h
    obtain ⟨a, dx, d, kvs, rfl, ha, _⟩ := id hk
    refine ⟨_, pss_one (ps_if (pt_cmpR (O_in.notIn hr) (pv 1) (pv 0) rfl) (pss_one ps_never) pss_nil), ?_⟩
    refine ⟨_, rfl, _, rfl, a, dx, _, rfl, ha, _, t, x, rfl, hk, _, rfl, _, rfl, ?_⟩
    refine ifF (by rw [decide_eq_true hx]; rfl) q
abbrev s_names : Stmt := inClass (top 24) 2
theorem sc_names : FnScope ["self"] ["self"] (defScope s_names) := ⟨rfl, rfl, rfl, by decide +kernel, rfl, by decide +kernel, by decide +kernel⟩
def sp_names (C : Addr) : Sp := fun vs H Q _ => ∃ (v : V) (t : Tab), vs = [v] ∧ KindV C H v t ∧ ∀ p, H p = none → Q (.ref p) (upd H p (.tup ((namesT t).map V.str)))
end
end Tm

/-! tuple(d), d a dict: its keys -/
namespace TmD
open PySem PySem.Spec PyProof.Rows PySem.W
section
variable {prog : Program} {w : World} {A : Around} {E : Value → Shared → Prop} {s : Shared} {T : String} {r d : Addr} {n : Nat} {Pd : Nat → Value → Prop} {OK : Heap → Prop}
abbrev emptyL : Obj := { cls := .type "list", data := .seq ([] : List Value).toArray }
theorem gather (K : KdlSrc prog w T r d n Pd OK) (hh : A.handled = none) (hok : OK s.heap) (hn : n ≤ sizeLine) {Q : List Value → Shared → Prop}
    (hQ : ∀ (h' : Heap) (tk : Nat) (acc : Array Value), (∀ b o, s.heap.get? b = some o → h'.get? b = some o) → ItemsOf Pd acc n → Q acc.toList { s with heap := h', toks := tk }) :
    wpAny (model prog w) A (collect (.ref r)) Q E s := by
  unfold collect
  refine wpAny_bind (wpAny_runValue (codeAny_builtin F.entry_proto_collect ?_))
  rw [Around.under_plainId F.plain_proto_collect _]
  show wpAny _ A.in1 (newList [] >>= fun l => again (.builtin "list.__iadd__" ⟨[l, .ref r], []⟩)) _ _ s
  refine wpAny_bind (wpAny_newObj_type ?_)
  refine wpAny_pure ⟨plainId_quiet F.plain_list_iadd _, codeAny_builtin F.entry_list_iadd ?_⟩
  rw [Around.under_plainId F.plain_list_iadd _]
  generalize hs1 : ({ s with heap := s.heap.push emptyL } : Shared) = s1
  have e1 : s1.heap = s.heap.push emptyL := by rw [← hs1]
  have old : ∀ b o, s.heap.get? b = some o → s1.heap.get? b = some o := fun b o q => by rw [e1]; exact Heap.get?_push_of_some _ q
  have lt := K.there _ hok
  have hS : s1.heap.get? s.heap.objs.size = some { cls := .type "list", data := .seq #[] 0 } := by rw [e1]; exact Heap.get?_push_size _ rfl
  have run := kdl_extend (A := A) (s := s1) (R := fun rr s' => rr = .ok (.ret (.ref s.heap.objs.size)) ∧ ∃ (h' : Heap) (tk : Nat) (acc : Array Value) (c' : Nat), s' = { s with heap := h', toks := tk } ∧
      (∀ b o, s.heap.get? b = some o → h'.get? b = some o) ∧ h'.get? s.heap.objs.size = some { cls := .type "list", dict := none, data := .seq acc c', slots := #[] } ∧ ItemsOf Pd acc n)
    K hh (K.keep _ _ hok fun b _ o q => old b o q) s.heap.objs.size (Nat.ne_of_gt lt.1) (Nat.ne_of_gt lt.2) (.ref s.heap.objs.size) 0 hS
    (fun h' tk acc c' hk e hi => ⟨rfl, h', tk, acc, c', by rw [← hs1], fun b o q => hk b o (Nat.ne_of_lt (Heap.lt_size q)) (old b o q), e, hi⟩) hn
  refine wpAny_mono run (fun fin s' h => ?_) (fun e s' h => absurd h.1 (by simp))
  cases fin with
  | done f =>
    obtain ⟨e, h', tk, acc, c', rfl, hk, hS', hi⟩ := h
    cases e
    show wpAny _ A (load s.heap.objs.size >>= _) _ _ _
    exact wpAny_bind (wpAny_load hS' (wpAny_pure (hQ h' tk acc hk hi)))
  | again c' =>
    refine ⟨h.1, codeAny_mono h.2 fun rr s'' z => ?_⟩
    obtain ⟨rfl, h', tk, acc, c', rfl, hk, hS', hi⟩ := z
    show wpAny _ A (load s.heap.objs.size >>= _) _ _ _
    exact wpAny_bind (wpAny_load hS' (wpAny_pure (hQ h' tk acc hk hi)))
theorem new_tuple (K : KdlSrc prog w T r d n Pd OK) (hh : A.handled = none) (hok : OK s.heap) (hn : n ≤ sizeLine) {Q₁ : Value → Shared → Prop}
    (hq : ∀ (h' : Heap) (tk : Nat) (acc : Array Value), (∀ b o, s.heap.get? b = some o → h'.get? b = some o) → ItemsOf Pd acc n → Q₁ (.ref h'.objs.size) { s with heap := h'.push { cls := .type "tuple", data := .seq acc }, toks := tk }) :
    codeAny (model prog w) A (.call (.builtin "tuple.__new__") ⟨[.type "tuple", .ref r], []⟩) (wants Q₁ E) s := by
  refine codeAny_of_tree ?_
  show wpAny _ A.in1 (do checkBuiltinCall "tuple.__new__" ⟨[.type "tuple", .ref r], []⟩; again (.builtin "tuple.__new__" ⟨[.type "tuple", .ref r], []⟩)) _ _ s
  refine wpAny_bind (wpAny_of_eq (F.newCall_tuple_1 _) (wpAny_pure ⟨plainId_quiet F.plain_tuple_new _, codeAny_builtin F.entry_tuple_new ?_⟩))
  rw [Around.under_plainId F.plain_tuple_new _]
  have a1 := sub_tuple_self
  have a2 := init_tuple_lookup
  have a3 := madeHere_tuple
  have a4 : s.TypeIs (.ref r) T := K.type s hok
  have a5 : A.in1.handled = none := hh
  wp_walk using wpAny_typeOf a4, gather (A := A.in1) K a5 hok hn
  rw [if_neg (by rw [K.notTuple]; decide)]
  wp_walk using gather (A := A.in1) K a5 hok hn
  intro h' tk acc hk hacc
  have ea : acc.toList.toArray = acc := by simp
  have hz : acc.size ≤ sizeLine := by rw [hacc.1]; exact hn
  show wpAny _ _ (Builtin.Tuple.tupleExact acc.toList.toArray >>= fun v => ret v) _ _ _
  rw [ea]
  unfold Builtin.Tuple.tupleExact
  exact wpAny_bind (wpAny_newObj_type (wpAny_pure (hq h' tk acc hk hacc)) hz)
theorem call_tuple_src (K : KdlSrc prog w T r d n Pd OK) (hh : A.handled = none) (hok : OK s.heap) (hn : n ≤ sizeLine) {Q : Value → Shared → Prop}
    (hq : ∀ (h' : Heap) (tk : Nat) (acc : Array Value), (∀ b o, s.heap.get? b = some o → h'.get? b = some o) → ItemsOf Pd acc n → Q (.ref h'.objs.size) { s with heap := h'.push { cls := .type "tuple", data := .seq acc }, toks := tk }) :
    wpAny (model prog w) A (call (.type "tuple") [.ref r]) Q E s := by
  have made := new_tuple (A := A.in1) (E := E) K hh hok hn (Q₁ := fun obj s₁ => s₁.TypeIs obj "tuple" ∧ Q obj s₁) fun h' tk acc hk hacc => ⟨⟨_, Heap.get?_push_size _ rfl, rfl⟩, hq h' tk acc hk hacc⟩
  refine callType_codes F.called_tuple (F.typeCall_tuple_1 _) F.entry_object_init made fun obj s₁ z => ?_
  exact ⟨z.1, F.args_object_init_2 obj _, object_init_meets F.called_tuple.init.lookup F.called_tuple.made (by decide) prog w A.in1 _ s₁ ⟨z.1, rfl, z.2⟩⟩
end
end TmD
namespace Tm
open PySem PySem.Spec PyProof.Rows L2
theorem vals_keys {prog : Program} {w : World} {kvs : List (L2.Key × V)} {vs : List (L2.Key × Value)} (kv : KV kvs vs) (acc : List Value) (hl : acc.length = vs.length) (h : ∀ (i : Nat) (v : Value), acc[i]? = some v → ∃ k x, vs[i]? = some (k, x) ∧ (mixKind prog w).is k v = true) :
    Vals (kvs.map fun e => kV e.1) acc := by
  induction kv generalizing acc with
  | nil =>
    cases acc with
    | nil => exact .nil
    | cons a r => simp at hl
  | cons r t ih =>
    cases acc with
    | nil => simp at hl
    | cons a r' =>
      obtain ⟨k, x, e, hk⟩ := h 0 a rfl
      simp only [List.getElem?_cons_zero, Option.some.injEq] at e
      refine .cons ?_ (ih r' (by simpa using hl) fun i v hv => by simpa using h (i + 1) v (by simpa using hv))
      show RelV (kV _) a
      rw [r.1, e]
      exact relV_key (show keyIs k a = true from hk)
/-- tuple(d) -/
theorem tupleD {X : Cx} (hc : X.calm = true := by rfl) : CallR X (.type "tuple") (fun xs H Q => ∃ (d : Addr) (kvs : List (L2.Key × V)), xs = [.ref d] ∧ H d = some (.dK kvs) ∧ ∀ p, H p = none → Q (.ref p) (upd H p (.tup (kvs.map fun e => kV e.1)))) := by
  intro pins s σ H xs us Q I r h
  obtain ⟨d, kvs, rfl, hd, q⟩ := h
  obtain ⟨u, rfl, ru⟩ := vals1 r
  have eu : u = Value.ref d := ru
  subst eu
  obtain ⟨hz, sys, vs, kv, hdo⟩ := I.hok d _ hd
  obtain ⟨ep, hat⟩ := hdo.dictAt
  have lk : kvs.length = vs.length := Paired.length kv
  refine TmD.call_tuple_src (PySem.W.kdl_dict (knd := mixKind X.prog X.w) (kvs := vs) (ep := ep) sys) (I.ok.hd hc) hat (by rw [← lk]; exact hz) fun h' tk acc hk hacc => ?_
  have I1 : Inv X pins σ H { s with heap := h', toks := tk } := I.kept hk
  have hv : Vals (kvs.map fun e => kV e.1) acc.toList := vals_keys kv acc.toList (by rw [Array.length_toList]; exact hacc.1) fun i v hv => hacc.2 i v (by rw [← Array.getElem?_toList]; exact hv)
  have ea : acc.toList.toArray = acc := by simp
  have I2 : Inv X pins σ (upd H h'.objs.size (.tup (kvs.map fun e => kV e.1))) { s with heap := h'.push { cls := .type "tuple", data := .seq acc.toList.toArray }, toks := tk } :=
    I1.laid (t' := tk) (fun b o e => Heap.get?_push_of_some _ e) (Nat.le_refl _) (show ObjOk X.prog X.w _ _ _ (.tup _) from ⟨by rw [List.length_map]; exact hz, acc.toList, hv, IsTup.new _ _⟩)
  rw [ea] at I2
  exact ⟨.ref h'.objs.size, _, I2, rfl, q _ (I1.hok.fresh (Nat.le_refl _))⟩
local macro_rules | `(tactic| walk_at "x") => `(tactic| dsimp only [tNext, tRet, tSeq, tCB, tCons, tNil, tAsg, tDrop, sFld])
section
variable {P : Program} {w : World} {K : PySem.W.Frag} {mg : Str → Option Value} {base : Heap} {C : Addr}
theorem ok_names (B : Bt mg) (T : Kc K C) (D : DfP K C "names" "Kind.names" s_names) : OkP P w K mg base C "names" 1 (sp_names C) := by
  refine D.ok sc_names (fun vs H Q E h => ?_) (fun f cdv A outer s H vs Q E hr h => ?_)
  · obtain ⟨v, t, rfl, _⟩ := h
    rfl
  · obtain ⟨v, t, rfl, ⟨a, dx, d, kvs, rfl, ha, hd, ht, hok, nd, hst⟩, q⟩ := h
    refine ⟨_, pss_one (ps_ret (pe_callTy tupleD (by rfl) B.tuple (by decide +kernel) (pa_cons (pe_fld (pv 0) rfl) pa_nil))), ?_⟩
    refine ⟨_, rfl, a, C, dx, _, _, rfl, ha, T.cl, T.nT, kf_T _ _, d, kvs, rfl, hd, fun p hp => ?_⟩
    have e : (kvs.map fun e => kV e.1) = (namesT t).map V.str := by
      have h1 := congrArg (List.map kV) (tabV_keys ht)
      rw [List.map_map, List.map_map] at h1
      exact h1
    rw [e]
    exact q p hp
end
end Tm

namespace Tm
open PySem PySem.Spec PyProof.Rows L2
local macro_rules | `(tactic| walk_at "x") => `(tactic| dsimp only [tNext, tRet, tSeq, tCB, tCons, tNil, tAsg, tDrop, sFld])
/-! ### the tables of the made kinds -/
def letr (word : Str) (i : Nat) : Str := word ++ (⟨#[97 + i]⟩ : Str)
def letT (word : Str) (rows : List Row) : Tab := rows.zipIdx.map fun z => (letr word z.2, z.1)
def cellT (n : Nat) : Tab := letT "put" ((List.range n).map fun (v : Nat) => List.replicate n ((v : Int), (0 : Int)))
def swapT (n : Nat) : Tab := letT "swap" ((List.range n).map fun (v : Nat) => (List.range n).map fun (s : Nat) => ((v : Int), (s : Int)))
def highT (n : Nat) : Tab := letT "raise" ((List.range n).map fun (l : Nat) => (List.range n).map fun (s : Nat) => ((if (l : Int) > (s : Int) then (l : Int) else (s : Int)), (0 : Int)))
def keptR (n : Nat) : Row := (List.range n).map fun (i : Nat) => (1 + (i : Int), 1 + (i : Int))
def slotT (n : Nat) : Tab := letT "set" ((keptR n).map fun p => p :: keptR n)
def fadeS (s n : Int) : Int := if s = n then 2 * n + 1 else if 2 * n + 1 < s + 1 then 2 * n + 1 else s + 1
def laterR (n : Nat) : Row := (List.range (2 * n + 1)).map fun (i : Nat) => (fadeS (1 + (i : Int)) n, (0 : Int))
def fadeT (n : Nat) : Tab := letT "set" [(1, 0) :: laterR n, ((n : Int) + 1, 0) :: laterR n]
def adderT (n : Nat) : Tab := [("add", (List.range n).map fun (s : Nat) => (((s : Int) + 1) % (n : Int), (s : Int)))]
def flagT : Tab := [("set", [(1, 0), (1, 1)])]
structure Gm (mg : Str → Option Value) : Prop where
  LETTERS : GV mg "LETTERS" (.str (PySem.Str.ofString "abcdefgh"))
theorem letters_at : ∀ k, k < 8 → (PySem.Str.ofString "abcdefgh").cps.toList[k]? = some (97 + k) := by decide +kernel
theorem paired_mapR {α β γ : Type} {F : α → γ → Prop} (f : β → γ) : ∀ {xs : List α} {ys : List β}, Paired (fun x y => F x (f y)) xs ys → Paired F xs (ys.map f)
  | _, _, .nil => .nil
  | _, _, .cons r t => .cons r (paired_mapR f t)
theorem paired_unmapR {α β γ : Type} {F : α → γ → Prop} (f : β → γ) : ∀ {xs : List α} {ys : List β}, Paired F xs (ys.map f) → Paired (fun x y => F x (f y)) xs ys
  | [], [], _ => .nil
  | _ :: _, [], h => by cases h
  | [], _ :: _, h => by cases h
  | _ :: _, _ :: _, .cons r t => .cons r (paired_unmapR f t)
/-! ### tuples made on the way -/
section
variable {α : Type} {K : PySem.W.Frag} {σ : L2.St} {H : Hp} {ta tb te : TE} {vs : List Nat} {j : Nat}
theorem ev_pair {x y : Int} (ha : Ev ta σ H fun v _ => v = .int x) (hb : ∀ H1, Same H H1 → Ev tb σ H1 fun v _ => v = .int y) : Ev (tTup (tCons ta (tCons tb tNil))) σ H (fun v H1 => PairV H1 v (x, y)) := fun Q q =>
  ha _ fun v H1 e1 h1 => hb H1 e1 _ fun u H2 e2 h2 => ⟨by show 2 ≤ sizeLine; decide, fun p hp => q _ _ (e1.trans (e2.trans (same_new hp))) ⟨p, rfl, by rw [upd_same, h1, h2]⟩⟩
/-- tuple(a new list of pairs) -/
theorem ev_rowOf {zs : List α} {f : α → Int × Int} (h : Ev te σ H fun v H1 => ∃ p ys, v = .ref p ∧ H1 p = some (.lst ys) ∧ Paired (fun v z => PairV H1 v (f z)) ys zs) :
    Ev (tCB (fun xs H Q => ∃ p ys, xs = [.ref p] ∧ ((SqL K H p ys ∧ ∀ l, H l = none → Q (.ref l) (upd H l (.tup ys))) ∨ (SqT K H p ys ∧ Q (.ref p) H))) (tCons te tNil)) σ H (fun v H1 => RowV H1 v (zs.map f)) := fun Q q =>
  h _ fun v H1 e1 hv => by
    obtain ⟨p, ys, rfl, hl, hP⟩ := hv
    exact ⟨p, ys, rfl, .inl ⟨SqL.of hl, fun l hl' => q _ _ (e1.trans (same_new hl')) ⟨l, ys, rfl, upd_same, paired_mapR f (Paired.mapP hP fun _ _ r => r.mono (tups_of (same_new hl')))⟩⟩⟩
theorem range_at {n i : Nat} {z : Nat} (h : (List.range n)[i]? = some z) : z = i ∧ i < n := by
  have hl := (List.getElem?_eq_some_iff.mp h).1
  rw [List.length_range] at hl
  rw [List.getElem?_range hl] at h
  exact ⟨(Option.some.inj h).symm, hl⟩
/-- [e for x in range(n)], a row of pairs -/
theorem ev_lcR {ta' : TA} {n : Nat} (h : EvA ta' σ H fun l _ => l = [.int (n : Int)]) (hn : n ≤ 1000) (R : Nat → V → Hp → Prop) (hw : ∀ x, wipe ((wipe σ vs).set j (some x)) vs = wipe σ vs) (hR : ∀ z v H H', TupS H H' → R z v H → R z v H')
    (hs : ∀ (i : Nat) H1, i < n → Same H H1 → Ev te ((wipe σ vs).set j (some (.int (i : Int)))) H1 (R i)) :
    Ev (tLc (iRng1 ta') (gName j) tYes te vs) σ H (fun v H1 => ∃ p ys, v = .ref p ∧ H1 p = some (.lst ys) ∧ Paired (fun v z => R z v H1) ys (List.range n)) := fun Q q =>
  lc_runR h (by omega) (List.range n) (by rw [List.length_range]; omega) (fun _ => true) R (by rw [List.length_range]; omega) hw hR
    (fun i z x H1 hi hx e => ⟨evt_yes, fun _ H3 e3 => by
      obtain ⟨rfl, hlt⟩ := range_at hi
      rw [hx]
      exact hs z H3 hlt (e.trans e3)⟩)
    (fun p H1 ys hp e hl hP => q _ _ e ⟨p, ys, rfl, hl, by rw [filter_all] at hP; exact hP⟩)
theorem ev_lcR2 {ta' : TA} {lo m : Int} {n : Nat} (h : EvA ta' σ H fun l _ => l = [.int lo, .int m]) (hlo : 0 ≤ lo ∧ lo ≤ 1000) (hm : m = lo + n) (hn : n ≤ 1000) (R : Nat → V → Hp → Prop) (hw : ∀ x, wipe ((wipe σ vs).set j (some x)) vs = wipe σ vs) (hR : ∀ z v H H', TupS H H' → R z v H → R z v H')
    (hs : ∀ (i : Nat) H1, i < n → Same H H1 → Ev te ((wipe σ vs).set j (some (.int (lo + (i : Int))))) H1 (R i)) :
    Ev (tLc (iRng2 ta') (gName j) tYes te vs) σ H (fun v H1 => ∃ p ys, v = .ref p ∧ H1 p = some (.lst ys) ∧ Paired (fun v z => R z v H1) ys (List.range n)) := fun Q q =>
  lc_runR2 h (by omega) (List.range n) (by rw [List.length_range]; omega) (fun _ => true) R (by rw [List.length_range]; omega) hw hR
    (fun i z x H1 hi hx e => ⟨evt_yes, fun _ H3 e3 => by
      obtain ⟨rfl, hlt⟩ := range_at hi
      rw [hx]
      exact hs z H3 hlt (e.trans e3)⟩)
    (fun p H1 ys hp e hl hP => q _ _ e ⟨p, ys, rfl, hl, by rw [filter_all] at hP; exact hP⟩)
theorem lcR_go {Q : VK} {ta' : TA} {n : Nat} (h : EvA ta' σ H fun l _ => l = [.int (n : Int)]) (hn : n ≤ 1000) (R : Nat → V → Hp → Prop) (hw : ∀ x, wipe ((wipe σ vs).set j (some x)) vs = wipe σ vs) (hR : ∀ z v H H', TupS H H' → R z v H → R z v H')
    (hs : ∀ (i : Nat) H1, i < n → Same H H1 → Ev te ((wipe σ vs).set j (some (.int (i : Int)))) H1 (R i))
    (hq : ∀ p H1 ys, Same H H1 → H1 p = some (.lst ys) → Paired (fun v z => R z v H1) ys (List.range n) → Q (.ref p) H1) : tLc (iRng1 ta') (gName j) tYes te vs σ H Q :=
  ev_lcR h hn R hw hR hs Q fun v H1 e hv => by
    obtain ⟨p, ys, rfl, hl, hP⟩ := hv
    exact hq p H1 ys e hl hP
theorem lcR2_go {Q : VK} {ta' : TA} {lo m : Int} {n : Nat} (h : EvA ta' σ H fun l _ => l = [.int lo, .int m]) (hlo : 0 ≤ lo ∧ lo ≤ 1000) (hm : m = lo + n) (hn : n ≤ 1000) (R : Nat → V → Hp → Prop) (hw : ∀ x, wipe ((wipe σ vs).set j (some x)) vs = wipe σ vs) (hR : ∀ z v H H', TupS H H' → R z v H → R z v H')
    (hs : ∀ (i : Nat) H1, i < n → Same H H1 → Ev te ((wipe σ vs).set j (some (.int (lo + (i : Int))))) H1 (R i))
    (hq : ∀ p H1 ys, Same H H1 → H1 p = some (.lst ys) → Paired (fun v z => R z v H1) ys (List.range n) → Q (.ref p) H1) : tLc (iRng2 ta') (gName j) tYes te vs σ H Q :=
  ev_lcR2 h hlo hm hn R hw hR hs Q fun v H1 e hv => by
    obtain ⟨p, ys, rfl, hl, hP⟩ := hv
    exact hq p H1 ys e hl hP
end
section
variable {P : Program} {w : World} {K : PySem.W.Frag} {mg : Str → Option Value} {base : Heap} {C : Addr}
/-! ### _lettered -/
theorem zip_at {rows : List Row} {k : Nat} {z : Row × Nat} (h : rows.zipIdx[k]? = some z) : z.2 = k ∧ rows[k]? = some z.1 := by
  rw [List.getElem?_zipIdx] at h
  cases e : rows[k]? with
  | none => rw [e] at h; cases h
  | some r =>
    rw [e] at h
    have := Option.some.inj h
    rw [← this]
    exact ⟨Nat.zero_add _, rfl⟩
end
end Tm

namespace Tm
open PySem PySem.Spec PyProof.Rows L2
local macro_rules | `(tactic| walk_at "x") => `(tactic| dsimp only [tNext, tRet, tSeq, tCall, tC, tCons, tNil, tAsg, tDrop, sFld])
theorem cell_ok : ∀ n, n < 7 → 2 ≤ n → okTab (cellT n) = true ∧ (namesT (cellT n)).Nodup := by decide +kernel
theorem swap_ok : ∀ n, n < 7 → 2 ≤ n → okTab (swapT n) = true ∧ (namesT (swapT n)).Nodup := by decide +kernel
theorem high_ok : ∀ n, n < 7 → 2 ≤ n → okTab (highT n) = true ∧ (namesT (highT n)).Nodup := by decide +kernel
theorem slot_ok : ∀ n, n < 7 → 1 ≤ n → okTab (slotT n) = true ∧ (namesT (slotT n)).Nodup := by decide +kernel
theorem fade_ok : ∀ n, n < 6 → 1 ≤ n → okTab (fadeT n) = true ∧ (namesT (fadeT n)).Nodup := by decide +kernel
theorem adder_ok : ∀ n, n < 13 → 2 ≤ n → okTab (adderT n) = true ∧ (namesT (adderT n)).Nodup := by decide +kernel
theorem flag_ok : okTab flagT = true ∧ (namesT flagT).Nodup := by decide +kernel
/-- x = tuple(a new list of pairs), then the rest -/
theorem asg_row {α : Type} {K : PySem.W.Frag} {D : Ends} {σ : L2.St} {H : Hp} {te : TE} {i : Nat} {rest : TS} {zs : List α} {f : α → Int × Int} (h : Ev te σ H fun v H1 => ∃ p ys, v = .ref p ∧ H1 p = some (.lst ys) ∧ Paired (fun v z => PairV H1 v (f z)) ys zs)
    (k : ∀ v H1, Same H H1 → RowV H1 v (zs.map f) → rest D (σ.set i (some v)) H1) :
    tSeq (tAsg (tCB (fun xs H Q => ∃ p ys, xs = [.ref p] ∧ ((SqL K H p ys ∧ ∀ l, H l = none → Q (.ref l) (upd H l (.tup ys))) ∨ (SqT K H p ys ∧ Q (.ref p) H))) (tCons te tNil)) (gName i)) rest D σ H :=
  ev_rowOf (K := K) h _ fun v H1 e hv => k v H1 e hv
theorem paired_rep {α β : Type} {F : α → β → Prop} {x : α} {y : β} (h : F x y) : ∀ n, Paired F (List.replicate n x) (List.replicate n y)
  | 0 => .nil
  | n + 1 => .cons h (paired_rep h n)
section
variable {P : Program} {w : World} {K : PySem.W.Frag} {mg : Str → Option Value} {base : Heap} {C : Addr}
def sp_made (C : Addr) (lo hi : Nat) (T : Nat → Tab) : Sp := fun vs H Q _ => ∃ n : Nat, vs = [.int (n : Int)] ∧ lo ≤ n ∧ n ≤ hi ∧ ∀ v H' t', Same H H' → KindV C H' v t' → t'.Perm (T n) → Q v H'
abbrev NeedNum (P : Program) (w : World) (K : PySem.W.Frag) (mg : Str → Option Value) (base : Heap) := Ok P w K mg base "need_number" 2 ["value", "least", "most"] sp_need
/-! ### cells -/
/-! ### swap and highest kinds: rows of rows -/
/-! ### slots -/
end
end Tm

namespace Tm
open PySem PySem.Spec PyProof.Rows L2
local macro_rules | `(tactic| walk_at "x") => `(tactic| dsimp only [tNext, tRet, tSeq, tCall, tCB, tC, tCons, tNil, tAsg, tDrop, sFld])
/-! ### the place of a text in a list -/
def idxS : List Str → Str → Nat
  | [], _ => 0
  | w :: ws, x => if w = x then 0 else idxS ws x + 1
theorem idx_ok : ∀ {ws : List Str} {x : Str}, x ∈ ws → ws[idxS ws x]? = some x ∧ ∀ (m : Nat) (z : Str), m < idxS ws x → ws[m]? = some z → z ≠ x
  | [], _, h => by simp at h
  | w :: ws, x, h => by
    by_cases hw : w = x
    · have e : idxS (w :: ws) x = 0 := if_pos hw
      rw [e]
      exact ⟨by simp [hw], fun m z hm => absurd hm (Nat.not_lt_zero _)⟩
    · have e : idxS (w :: ws) x = idxS ws x + 1 := if_neg hw
      have hm : x ∈ ws := (List.mem_cons.mp h).resolve_left (fun z => hw z.symm)
      obtain ⟨h1, h2⟩ := idx_ok hm
      rw [e]
      refine ⟨by simpa using h1, fun m z hlt hz => ?_⟩
      cases m with
      | zero =>
        simp at hz
        rw [← hz]; exact hw
      | succ m => exact h2 m z (by omega) (by simpa using hz)
theorem indexFK {X : Cx} {K : PySem.W.Frag} (hK : X.K = K := by rfl) : MtR X "list.index" (rIndex K) := by subst hK; exact mt_index
theorem pe_bmK {X : Cx} {K : PySem.W.Frag} {T id : String} {r : V → List V → Hp → VK → Prop} {o e : Expr} {es : List Expr} {to : TE} {t : TA} {name : Str} {apos cpos : Pos} (pa : PlainAttrs T) (slot : Slot T name id) (hty : typeOf (.builtin id) = pure (.type "method_descriptor")) (hm : MtR X id r) (ho : PE X o to) (ha : PA X (e :: es) t)
    (hK : X.K = K := by rfl) (hbase : attributeBase o name X.env (eval o X.env) = eval o X.env := by rfl)
    (hfew : ((backTo cpos (starEach (e :: es) X.env)).all (fun x => !x.1) && (backToKw cpos (keywordEach [] X.env)).all (fun x => x.1.isSome) &&
      decide ((e :: es).length + ([] : List Keyword).length + (if ([] : List Keyword).isEmpty then 0 else 1) < 30)) = true := by rfl)
    (hline : (apos.endLine == cpos.line) = true := by rfl) (hs : starEach (e :: es) X.env = (false, eval e X.env) :: starEach es X.env := by rfl) (hp : (backTo cpos (starEach es X.env)).any (·.1) = false := by rfl) :
    PE X (.Call (.Attribute o name apos) (e :: es) [] cpos) (tBM K T r to t) := by subst hK; exact pe_bm pa slot hty hm ho ha hbase hfew hline hs hp
theorem ev_index {K : PySem.W.Frag} {σ : L2.St} {H : Hp} {i : Nat} {te : TE} {a : Addr} {ws : List Str} {x : Str} (hi : σ[i]? = some (some (.ref a))) (ha : H a = some (.lst (ws.map V.str))) (hx : x ∈ ws) (he : Ev te σ H fun v _ => v = .str x) :
    Ev (tBM K "list" (rIndex K) (tVar i) (tCons te tNil)) σ H (fun v _ => v = .int (idxS ws x : Nat)) := fun Q q => by
  refine ⟨_, hi, .inl ⟨rfl, _, SqL.of ha⟩, he _ fun v H1 e1 ev => ?_⟩
  subst ev
  obtain ⟨h1, h2⟩ := idx_ok hx
  refine ⟨a, ws.map V.str, .str x, idxS ws x, .str x, rfl, rfl, SqL.of (e1 _ _ ha), rfl, by simp [List.all_map, flatV], by rw [List.getElem?_map, h1]; rfl, by simp [eqV], fun m z' hm hz => ?_, q _ _ e1 rfl⟩
  rw [List.getElem?_map] at hz
  cases hw : ws[m]? with
  | none => rw [hw] at hz; cases hz
  | some z =>
    rw [hw] at hz
    have ez : V.str z = z' := Option.some.inj hz
    subst ez
    have := h2 m z hm hw
    simp [eqV, this]
/-! ### queues -/
def QW : List Str := ["", "a", "b", "aa", "ab", "ba", "bb"]
def qwords (n : Nat) : List Str := QW.filter fun w => decide (w.length ≤ n)
def longS (n : Nat) (l w : Str) : Str := if w.length < n then w ++ l else w
def joinR (n : Nat) (l : Str) : Row := (qwords n).map fun w => ((idxS (qwords n) (longS n l w) : Nat), (0 : Int))
def leaveR (n : Nat) : Row := (qwords n).map fun w => ((idxS (qwords n) (cutS w (some 1) none) : Nat), (idxS (qwords n) (cutS w none (some 1)) : Nat))
def queueT (n : Nat) : Tab := [("joina", joinR n "a"), ("joinb", joinR n "b"), ("leave", leaveR n)]
theorem queue_ok : ∀ n, n < 3 → 1 ≤ n → okTab (queueT n) = true ∧ (namesT (queueT n)).Nodup := by decide +kernel
theorem q_long : ∀ n, n < 3 → 1 ≤ n → ∀ l ∈ (["a", "b"] : List Str), ∀ w ∈ qwords n, longS n l w ∈ qwords n := by decide +kernel
theorem q_cut : ∀ n, n < 3 → 1 ≤ n → ∀ w ∈ qwords n, cutS w (some 1) none ∈ qwords n ∧ cutS w none (some 1) ∈ qwords n ∧ w.length ≤ 2 := by decide +kernel
theorem q_short : ∀ w ∈ QW, w.length ≤ 2 := by decide +kernel
theorem q_len : ∀ n, n < 3 → (qwords n).length ≤ 7 := by decide +kernel
section
variable {P : Program} {w : World} {K : PySem.W.Frag} {mg : Str → Option Value} {base : Heap} {C : Addr}
end
end Tm

namespace Tm
open PySem PySem.Spec PyProof.Rows L2
local macro_rules | `(tactic| walk_at "x") => `(tactic| dsimp only [tNext, tRet, tSeq, tCall, tCB, tC, tCons, tNil, tAsg, tDrop, sFld])
/-- a constant tuple of texts of the top -/
structure GT (K : PySem.W.Frag) (mg : Str → Option Value) (x : Str) (ws : List Str) : Prop where
  ex : ∃ a, mg x = some (.ref a) ∧ ∀ H, SqT K H a (ws.map V.str)
theorem merge1 (k : L2.Key) (v : V) : mergeK [] [(k, v)] = [(k, v)] := rfl
section
variable {P : Program} {w : World} {K : PySem.W.Frag} {mg : Str → Option Value} {base : Heap} {C : Addr}
/-! ### flags, adders -/
end
end Tm

namespace Tm
open PySem PySem.Spec PyProof.Rows L2
local macro_rules | `(tactic| walk_at "x") => `(tactic| dsimp only [tNext, tRet, tSeq, tCall, tCB, tC, tCons, tNil, tAsg, tDrop, sFld])
theorem strs_eq : ∀ {ys : List V} {ws : List Str}, Paired (fun v z => v = V.str z) ys ws → ys = ws.map V.str
  | _, _, .nil => rfl
  | _, _, .cons r t => by rw [r, strs_eq t]; rfl
section
variable {P : Program} {w : World} {K : PySem.W.Frag} {mg : Str → Option Value} {base : Heap} {C : Addr}
end
end Tm

namespace Tm
open PySem PySem.Spec PyProof.Rows L2
local macro_rules | `(tactic| walk_at "x") => `(tactic| dsimp only [tNext, tRet, tSeq, tCall, tCB, tC, tCons, tNil, tAsg, tDrop, sFld])
/-! ### the vat of drawn numbers: a list of three whole numbers -/
def VatV (H : Hp) (l : Addr) : Prop := ∃ a b c : Int, H l = some (.lst [.int a, .int b, .int c])
/-- all but l stays, l is a vat again -/
def KL (l : Addr) (H H' : Hp) : Prop := (∀ b o, H b = some o → b ≠ l → H' b = some o) ∧ VatV H' l
theorem KL.trans {l : Addr} {H H1 H2 : Hp} (a : KL l H H1) (b : KL l H1 H2) : KL l H H2 := ⟨fun c o h n => b.1 c o (a.1 c o h n) n, b.2⟩
theorem KL.of {l : Addr} {H H' : Hp} (v : VatV H l) (e : Same H H') : KL l H H' := ⟨fun b o h _ => e b o h, by obtain ⟨a, b, c, h⟩ := v; exact ⟨a, b, c, e _ _ h⟩⟩
theorem KL.set {l : Addr} {H : Hp} (a b c : Int) : KL l H (upd H l (.lst [.int a, .int b, .int c])) := ⟨fun d o h n => by rw [upd_ne n]; exact h, a, b, c, upd_same⟩
theorem KL.tups {l : Addr} {H H' : Hp} (v : VatV H l) (k : KL l H H') : TupS H H' := fun a xs h => k.1 a _ h fun z => by
  obtain ⟨p, q, r, e⟩ := v
  rw [z, e] at h
  cases h
theorem opP {X : Cx} : OpR X (binaryOp .Pow) (rI (fun i j => 0 ≤ j ∧ (Builtin.Int.intBits i : Int) * j ≤ 2 ^ 27) fun i j => .int (i ^ j.toNat)) := opI fun _ _ _ _ _ _ _ hc q => pow_int hc.1 hc.2 q
section
variable {P : Program} {w : World} {K : PySem.W.Frag} {mg : Str → Option Value} {base : Heap} {C : Addr}
theorem KindV.kl {l : Addr} {H H' : Hp} {v : V} {t : Tab} (va : VatV H l) (k : KL l H H') (h : KindV C H v t) : KindV C H' v t := by
  obtain ⟨a, dx, d, kvs, e1, e2, e3, e4, e5⟩ := h
  obtain ⟨p, q, r, e⟩ := va
  refine ⟨a, dx, d, kvs, e1, k.1 _ _ e2 (fun z => ?_), k.1 _ _ e3 (fun z => ?_), e4.mono (KL.tups ⟨p, q, r, e⟩ k), e5⟩
  · rw [z, e] at e2
    cases e2
  · rw [z, e] at e3
    cases e3
end
end Tm

/-! len(x), str(x) by the class's own methods. -/
namespace Tm
open PySem PySem.Spec PyProof.Rows L2
/-- a class's own special method -/
structure SpM (K : PySem.W.Frag) (C : Addr) (m : Str) (f : Addr) : Prop where
  fnd : PySem.W.findIn K (.ref C) m = some (some (.ref f))
  isf : PySem.W.isFn K (.ref f) = true
structure OkS (P : Program) (w : World) (K : PySem.W.Frag) (mg : Str → Option Value) (base : Heap) (C : Addr) (m : Str) (k : Nat) (ps : List Str) (sp : Sp) : Prop where
  ex : ∃ (f : Addr) (fd : FuncData), SpM K C m f ∧ FnOk P w K mg base CX0 k f fd ps sp ∧ Binds K fd ps []
/-- len, str of an object by its own method: what it tells -/
def rLenO (C : Addr) (sp : Sp) : List V → Hp → VK → Prop := fun xs H Q => ∃ a dx fs, xs = [.ref a] ∧ H a = some (.ins C dx fs) ∧ sp [.ref a] H (fun v H' => ∃ n : Nat, v = .int (n : Int) ∧ n < 1000000 ∧ Q (.int (n : Int)) H') E0
def rStrO (C : Addr) (sp : Sp) : List V → Hp → VK → Prop := fun xs H Q => ∃ a dx fs, xs = [.ref a] ∧ H a = some (.ins C dx fs) ∧ sp [.ref a] H (fun v H' => ∃ z : Str, v = .str z ∧ Q (.str z) H') E0
section
variable {X : Cx} {pins : List (Addr × Obj)} {σ : L2.St} {H : Hp} {s : Shared} {k : Nat} {f a C : Addr} {fd : FuncData} {ps : List Str} {sp : Sp} {Q : VK}
/-- a call one deeper -/
theorem run_in (F : FnOk X.prog X.w X.K X.mg X.base CX0 k f fd ps sp) {A : Around} (hr : Room k A) (e0 : Env0 X.prog X.w X.K X.mg X.base A X.stack s H) (hb : Binds X.K fd ps []) (I : Inv X pins σ H s) (hq : sp [.ref a] H Q E0) :
    wpAny (model X.prog X.w) A (call (.ref f) [.ref a]) (EP X pins σ Q) X.xe s := by
  have hl : ([Value.ref a] ++ ([] : List Value)).length = ps.length := by
    have e := F.len _ _ _ _ hq
    exact e
  refine wpAny_call (codeAny_mono (F.run A X.stack s H ⟨[.ref a], []⟩ [.ref a] [.ref a] Q E0 hr e0 (hb s [.ref a] I.kIn hl) (.cons rfl .nil) hq) fun r s' z => ?_)
  cases r with
  | error e => exact (pass0 (X := X)) pins σ H s e s' I z
  | ok fl =>
    cases fl with
    | ret u => exact I.after z
    | next => exact z.elim
    | brk => exact z.elim
    | cont => exact z.elim
theorem call_lenO (O : OkS X.prog X.w X.K X.mg X.base C "__len__" k ["self"] sp) (hr : Room (k + 1) X.A) : CallR X (.builtin "len") (rLenO C sp) := by
  intro pins s σ H xs us Q I r h
  obtain ⟨a, dx, fs, rfl, ha, hq⟩ := h
  obtain ⟨f, fd, M, F, hb⟩ := O.ex
  rw [Vals.ref1 r]
  obtain ⟨mA, O2, _⟩ := ins_get I.hok ha
  obtain ⟨od, J, _⟩ := O2.look
  obtain ⟨m, hF⟩ := I.fr
  refine PySem.W.len_K hF I.ok.mod.kin J M.fnd M.isf (wpAny_mono (run_in F hr.in1 I.env0.in1 hb I hq) (fun u s' z => ?_) fun _ _ z => z)
  obtain ⟨v, H', I', rv, n, ev, hn, q⟩ := z
  subst ev
  obtain ⟨t, rfl⟩ := rv
  exact ⟨⟨by omega, by omega⟩, ⟨.int (n : Int), H', I'.tok _, ⟨_, rfl⟩, q⟩⟩
theorem call_strO (O : OkS X.prog X.w X.K X.mg X.base C "__str__" k ["self"] sp) (hr : Room (k + 2) X.A) : CallR X (.type "str") (rStrO C sp) := by
  intro pins s σ H xs us Q I r h
  obtain ⟨a, dx, fs, rfl, ha, hq⟩ := h
  obtain ⟨f, fd, M, F, hb⟩ := O.ex
  rw [Vals.ref1 r]
  obtain ⟨mA, O2, _⟩ := ins_get I.hok ha
  obtain ⟨od, J, _⟩ := O2.look
  refine PySem.W.kso_call (by have := hr.un; show X.A.units + 1 + 1 < _; omega) I.kIn J M.fnd M.isf (wpAny_mono (run_in F hr.in1.in1 I.env0.in1.in1 hb I hq) (fun u s' z => ?_) fun _ _ z => z)
  obtain ⟨v, H', I', rv, y, ev, q⟩ := z
  subst ev
  obtain ⟨t, rfl⟩ := rv
  exact ⟨.str y, H', I', ⟨_, rfl⟩, q⟩
end
end Tm

/-! x == y, x != y of two objects of one class that has its own __eq__ and no __ne__. -/
namespace TmN
open PySem PySem.Spec PyProof.Rows PySem.W PySem.Builtin
section
variable {prog : Program} {w : World} {A : Around} {E : Value → Shared → Prop} {s : Shared} {K : Frag} {x y f C : Addr} {ox oy : Obj} {od od' : Option Obj}
theorem slot_bound {M : Model} {name : Str} {id : String} {args : List Value} {Q : Option Value → Shared → Prop} (X : K.In s.heap) (I : InstAt s.heap x ox C od) (hs : findIn K (.ref C) name = some (some (.builtin id)))
    (hb : ∀ self, bindSpecial (.builtin id) self = pure (.builtin id, [self])) (h : wpAny M A (call (.builtin id) (.ref x :: args)) (fun v => Q (some v)) E s) : wpAny M A (callSpecialIfBound? (.ref x) name args) Q E s := by
  simp only [callSpecialIfBound?, bindSpecialIfBound?]
  refine wpAny_holding (wpAny_bind (wpAny_bind (wpAny_bind (I.type.here ((looks_findIn X hs).here ?_)))))
  simp only [hb]
  refine wpAny_bind (wpAny_askSetting (wpAny_ite ?_))
  have last : wpAny M A (call (.builtin id) ([.ref x] ++ args) >>= fun v => pure (some v)) Q E s := wpAny_bind (wpAny_mono h (fun v s' z => wpAny_pure z) fun _ _ z => z)
  split
  · exact wpAny_bind (wpAny_pure (wpAny_pure last))
  · exact wpAny_tryCatch (wpAny_bind (wpAny_pure (wpAny_pure last)))
def BlBack (Q : Value → Shared → Prop) (v : Value) (s' : Shared) : Prop := ∃ b : Bool, v = .bool b ∧ Q (.bool (!b)) s'
theorem obj_ne {Q : Value → Shared → Prop} (hu : A.in1.units < cLine) (X : K.In s.heap) (I : InstAt s.heap x ox C od) (hm : mroIn K C (.type "object") = some true) (he : findIn K (.ref C) "__eq__" = some (some (.ref f))) (hf : isFn K (.ref f) = true)
    (h : wpAny (model prog w) A.in1 (call (.ref f) [.ref x, .ref y]) (BlBack Q) E s) : wpAny (model prog w) A (call (.builtin "object.__ne__") [.ref x, .ref y]) Q E s := by
  refine wpAny_call (codeAny_call_builtin PySem.F.cmp_object.ne.plain PySem.F.cmpEntry_ne (check_slot (i := "object.__ne__") (owner := "object") (n := "__ne__") (by decide +kernel) (by decide +kernel) (I.type.andThen (looks_mroIn X hm)) (PySem.F.cmpArgs_ne _ _) ?_))
  unfold Builtin.«object.__ne__»
  refine wpAny_bind (m := slotArgs "__ne__" 1 _) (wpAny_pure ?_)
  refine wpAny_bind (m := cRoomFor _ _) (wpAny_cRoomFor hu ?_)
  refine wpAny_bind (m := callSpecialIfBound? (.ref x) (Str.ofString "__eq__") [.ref y]) (ifBound_K X I he hf (wpAny_mono h (fun r s' hq => ?_) fun _ _ z => z))
  obtain ⟨b, rfl, q⟩ := hq
  exact wpAny_bind (wpAny_truthy_bool (wpAny_pure q))
theorem ne_own {Q : Value → Shared → Prop} (hu : A.units < cLine) (hu1 : A.in1.units < cLine) (X : K.In s.heap) (I : InstAt s.heap x ox C od) (J : InstAt s.heap y oy C od') (hn : findIn K (.ref C) "__ne__" = some (some (.builtin "object.__ne__")))
    (hm : mroIn K C (.type "object") = some true) (he : findIn K (.ref C) "__eq__" = some (some (.ref f))) (hf : isFn K (.ref f) = true)
    (h : wpAny (model prog w) A.in1 (call (.ref f) [.ref x, .ref y]) (BlBack Q) E s) : wpAny (model prog w) A (richCompare .NotEq (.ref x) (.ref y)) Q E s := by
  unfold richCompare
  simp only [oneThing_ref]
  refine wpAny_holding (wpAny_bind (wpAny_cRoomFor hu ?_))
  refine wpAny_bind (I.type.here (wpAny_bind (J.type.here ?_)))
  rw [show (Value.ref C != Value.ref C) = false from by simp]
  simp only [Bool.false_eq_true, if_false]
  refine wpAny_bind (wpAny_pure ?_)
  simp only [Bool.false_eq_true, if_false]
  refine wpAny_bind (m := tryCompare (.ref x) "__ne__" (.ref y)) ?_
  unfold tryCompare
  refine wpAny_bind (slot_bound X I hn PySem.F.cmp_object.ne.bind (obj_ne hu1 X I hm he hf (wpAny_mono h (fun r s' z => ?_) fun _ _ z => z)))
  obtain ⟨b, rfl, q⟩ := z
  exact ⟨b, rfl, wpAny_pure (wpAny_pure q)⟩
end
end TmN
namespace Tm
open PySem PySem.Spec PyProof.Rows L2
/-- what the == of the class tells, or its contrary -/
def rEqO (C : Addr) (sp : Sp) (neg : Bool) : R2 := fun x y H Q => ∃ a b dx dy fs gs, x = .ref a ∧ y = .ref b ∧ H a = some (.ins C dx fs) ∧ H b = some (.ins C dy gs) ∧ sp [.ref a, .ref b] H (fun v H' => ∃ c : Bool, v = .bl c ∧ Q (.bl (if neg then !c else c)) H') E0
section
variable {X : Cx} {pins : List (Addr × Obj)} {σ : L2.St} {H : Hp} {s : Shared} {k : Nat} {f a b C : Addr} {fd : FuncData} {ps : List Str} {sp : Sp} {Q : VK}
theorem run_in2 (F : FnOk X.prog X.w X.K X.mg X.base CX0 k f fd ps sp) {A : Around} (hr : Room k A) (e0 : Env0 X.prog X.w X.K X.mg X.base A X.stack s H) (hb : Binds X.K fd ps []) (I : Inv X pins σ H s) (hq : sp [.ref a, .ref b] H Q E0) :
    wpAny (model X.prog X.w) A (call (.ref f) [.ref a, .ref b]) (EP X pins σ Q) X.xe s := by
  have hl : ([Value.ref a, .ref b] ++ ([] : List Value)).length = ps.length := F.len _ _ _ _ hq
  refine wpAny_call (codeAny_mono (F.run A X.stack s H ⟨[.ref a, .ref b], []⟩ [.ref a, .ref b] [.ref a, .ref b] Q E0 hr e0 (hb s [.ref a, .ref b] I.kIn hl) (.cons rfl (.cons rfl .nil)) hq) fun r s' z => ?_)
  cases r with
  | error e => exact (pass0 (X := X)) pins σ H s e s' I z
  | ok fl =>
    cases fl with
    | ret u => exact I.after z
    | next => exact z.elim
    | brk => exact z.elim
    | cont => exact z.elim
/-- the class has its own == and no != -/
structure EqM (K : PySem.W.Frag) (C : Addr) : Prop where
  ne : PySem.W.findIn K (.ref C) "__ne__" = some (some (.builtin "object.__ne__"))
  mr : PySem.W.mroIn K C (.type "object") = some true
theorem op_eqO (O : OkS X.prog X.w X.K X.mg X.base C "__eq__" k ps sp) (hr : Room k X.A) : OpR X (compareOp .Eq) (rEqO C sp false) := by
  intro pins s σ H x y v u Q I rx ry h
  obtain ⟨a, b, dx, dy, fs, gs, rfl, rfl, ha, hb2, hq⟩ := h
  obtain ⟨f, fd, M, F, hb⟩ := O.ex
  cases rx
  cases ry
  obtain ⟨mA, O2, _⟩ := ins_get I.hok ha
  obtain ⟨mB, O3, _⟩ := ins_get I.hok hb2
  obtain ⟨od, J, _⟩ := O2.look
  obtain ⟨od', J', _⟩ := O3.look
  obtain ⟨m, hF⟩ := I.fr
  refine PySem.W.cmp_ofEq (PySem.W.cmp_K (op := .Eq) (tb := .ref C) (by have := hr.un; omega) hF I.ok.mod.kin J J'.type (by simp [PySem.W.notFirst]) M.fnd M.isf (wpAny_mono (run_in2 F hr I.env0 hb I hq) (fun r s' z => ?_) fun _ _ z => z))
  obtain ⟨v, H', I', rv, c, ev, q⟩ := z
  subst ev
  have er : r = Value.bool c := rv
  subst er
  exact ⟨.bl c, H', I', rfl, q⟩
theorem op_neO (O : OkS X.prog X.w X.K X.mg X.base C "__eq__" k ps sp) (N : EqM X.K C) (hr : Room (k + 1) X.A) : OpR X (compareOp .NotEq) (rEqO C sp true) := by
  intro pins s σ H x y v u Q I rx ry h
  obtain ⟨a, b, dx, dy, fs, gs, rfl, rfl, ha, hb2, hq⟩ := h
  obtain ⟨f, fd, M, F, hb⟩ := O.ex
  cases rx
  cases ry
  obtain ⟨mA, O2, _⟩ := ins_get I.hok ha
  obtain ⟨mB, O3, _⟩ := ins_get I.hok hb2
  obtain ⟨od, J, _⟩ := O2.look
  obtain ⟨od', J', _⟩ := O3.look
  refine PySem.W.cmp_ofNotEq (TmN.ne_own (by have := hr.un; omega) (by have := hr.un; show X.A.units + 1 < _; omega) I.kIn J J' N.ne N.mr M.fnd M.isf (wpAny_mono (run_in2 F hr.in1 I.env0.in1 hb I hq) (fun r s' z => ?_) fun _ _ z => z))
  obtain ⟨v, H', I', rv, c, ev, q⟩ := z
  subst ev
  have er : r = Value.bool c := rv
  subst er
  exact ⟨c, rfl, ⟨.bl (!c), H', I', rfl, q⟩⟩
end
end Tm

/-! Tables compared. -/
namespace Tm
open PySem PySem.Spec PyProof.Rows L2
/-! ### rows as data -/
def pD (p : Int × Int) : PyData := .tuple [.int p.1, .int p.2]
def rD (r : Row) : PyData := .tuple (r.map pD)
theorem dp_pair {K : PySem.W.Frag} {H : Hp} {v : V} {p : Int × Int} (h : PairV H v p) : Dp K H v (pD p) := by
  obtain ⟨a, rfl, h⟩ := h
  exact .tup (SqT.of h) (.cons (.int _) (.cons (.int _) .nil))
theorem dp_pairs {K : PySem.W.Frag} {H : Hp} : ∀ {vs : List V} {r : Row}, Paired (PairV H) vs r → DpAll K H vs (r.map pD)
  | _, _, .nil => .nil
  | _, _, .cons h t => .cons (dp_pair h) (dp_pairs t)
theorem dp_row {K : PySem.W.Frag} {H : Hp} {v : V} {r : Row} (h : RowV H v r) : Dp K H v (rD r) := by
  obtain ⟨a, vs, rfl, h1, h2⟩ := h
  exact .tup (SqT.of h1) (dp_pairs h2)
theorem can_pairs : ∀ r : Row, PyData.canLayAll0 (r.map pD) = true
  | [] => rfl
  | p :: r => by
    show (PyData.canLay0 (pD p) && PyData.canLayAll0 (r.map pD)) = true
    rw [can_pairs r]
    rfl
theorem depth_pairs : ∀ r : Row, PyData.depthAll (r.map pD) ≤ 1
  | [] => Nat.zero_le _
  | p :: r => by
    show max (PyData.depth (pD p)) (PyData.depthAll (r.map pD)) ≤ 1
    exact Nat.max_le.mpr ⟨Nat.le_refl 1, depth_pairs r⟩
theorem shaped_row (r : Row) : SeqAt.shaped (rD r) = true := by
  have h1 : PyData.canLay0 (rD r) = true := can_pairs r
  have h2 : PyData.depth (rD r) ≤ 64 := by
    show PyData.depthAll (r.map pD) + 1 ≤ 64
    have := depth_pairs r
    omega
  unfold SeqAt.shaped
  rw [h1, decide_eq_true h2]
  rfl
theorem eqv_pD (p q : Int × Int) : PyData.eqv (pD p) (pD q) = decide (p = q) := by
  show (PyData.eqv (.int p.1) (.int q.1) && (PyData.eqv (.int p.2) (.int q.2) && true)) = _
  show ((p.1 == q.1) && ((p.2 == q.2) && true)) = _
  obtain ⟨a, b⟩ := p
  obtain ⟨c, d⟩ := q
  rw [Bool.eq_iff_iff]
  simp
theorem eqv_pairs : ∀ r s : Row, PyData.eqvAll (r.map pD) (s.map pD) = decide (r = s)
  | [], [] => rfl
  | [], _ :: _ => by simp [PyData.eqvAll]
  | _ :: _, [] => by simp [PyData.eqvAll]
  | p :: r, q :: s => by
    show (PyData.eqv (pD p) (pD q) && PyData.eqvAll (r.map pD) (s.map pD)) = _
    rw [eqv_pD, eqv_pairs r s, Bool.eq_iff_iff]
    simp
theorem eqv_row (r s : Row) : PyData.eqv (rD r) (rD s) = decide (r = s) := eqv_pairs r s
theorem row_det {H : Hp} {v : V} {r s : Row} (h : RowV H v r) (k : RowV H v s) : r = s := by
  have e : ∀ {vs : List V} {r s : Row}, Paired (PairV H) vs r → Paired (PairV H) vs s → r = s := by
    intro vs
    induction vs with
    | nil =>
      intro r s h k
      cases h
      cases k
      rfl
    | cons v vs ih =>
      intro r s h k
      cases h with
      | cons h1 h2 =>
        cases k with
        | cons k1 k2 =>
          obtain ⟨a, rfl, e1⟩ := h1
          obtain ⟨b, eb, e2⟩ := k1
          cases eb
          rw [e1] at e2
          simp only [Option.some.injEq, HO.tup.injEq, List.cons.injEq, V.int.injEq, and_true] at e2
          rw [Prod.ext e2.1 e2.2, ih h2 k2]
  obtain ⟨a, vs, rfl, h1, h2⟩ := h
  obtain ⟨b, ws, eb, k1, k2⟩ := k
  cases eb
  rw [h1] at k1
  cases k1
  exact e h2 k2
/-! ### tables compared -/
def sameT (t u : Tab) : Bool := decide (t.length = u.length) && t.all fun e => decide (e ∈ u)
section
variable {X : Cx} {pins : List (Addr × Obj)} {σ : L2.St} {H : Hp} {s : Shared}
theorem row_eqAt (I : Inv X pins σ H s) {A : Around} (hu : A.units + 64 < cLine) {x y : V} {r q : Row} {v u : Value} (hx : RowV H x r) (hy : RowV H y q) (rx : RelV x v) (ry : RelV y u) : SeqAt.EqAt A s v u (decide (r = q)) := by
  obtain ⟨as, r1⟩ := Dp.reads I (rD r) x v (dp_row hx) rx
  obtain ⟨bs, r2⟩ := Dp.reads I (rD q) y u (dp_row hy) ry
  obtain ⟨a, _, ea, _⟩ := id hx
  obtain ⟨b, _, eb, _⟩ := id hy
  subst ea eb
  cases rx
  cases ry
  by_cases g : a = b
  · subst g
    rw [row_det hx hy, decide_eq_true rfl]
    exact SeqAt.EqAt.same _
  · refine SeqAt.EqAt.of_refs g fun prog w E Q hq => ?_
    refine SeqAt.compareEq_shaped r1 r2 (shaped_row r) (shaped_row q) hu ?_
    rw [eqv_row]
    exact hq
theorem tab_hits (I : Inv X pins σ H s) {A : Around} (hu : A.units + 64 < cLine) {kb : List (L2.Key × V)} {vb : List (L2.Key × Value)} {u : Tab} (rb : KV kb vb) (hb : TabV H kb u) (nd : (namesT u).Nodup) :
    ∀ {ka : List (L2.Key × V)} {va : List (L2.Key × Value)} {t : Tab}, KV ka va → TabV H ka t → PySem.W.KeqHits A s vb va (t.all fun e => decide (e ∈ u))
  | _, _, _, .nil, .nil => .nil
  | _, q :: _, e :: t, .cons r1 ra, .cons h1 ht => by
    obtain ⟨k1, v1⟩ := r1
    obtain ⟨h1, h2⟩ := h1
    obtain ⟨key, v⟩ := q
    have ek : key = Sum.inr e.1 := (show key = _ from k1.symm).trans h1
    subst ek
    have ih := tab_hits I hu rb hb nd ra ht
    show PySem.W.KeqHits A s vb ((Sum.inr e.1, v) :: _) (decide (e ∈ u) && t.all fun e => decide (e ∈ u))
    have rr : RelO (valV kb (Sum.inr e.1)) (valueAt vb (Sum.inr e.1)) := rb.val _
    by_cases g : e.1 ∈ namesT u
    · obtain ⟨⟨x, row⟩, hm, ex⟩ := List.mem_map.mp g
      have ex2 : x = e.1 := ex
      subst ex2
      obtain ⟨y, hy, hrow⟩ := tab_look hb nd hm
      rw [hy] at rr
      obtain ⟨z, hz, rz⟩ := rr.some_of
      have ed : decide (e ∈ u) = decide (e.2 = row) := decide_eq_decide.mpr ⟨fun me => row_unique nd (x := e.1) me hm, fun er => by rw [← er] at hm; exact hm⟩
      rw [ed]
      exact .hit hz (row_eqAt I hu h2 hrow v1 rz) ih
    · have hn : valV kb (Sum.inr e.1) = none := by
        have := tab_isSome e.1 hb
        rw [decide_eq_false g] at this
        cases hv : valV kb (Sum.inr e.1) with
        | none => rfl
        | some _ => rw [hv] at this; cases this
      rw [hn] at rr
      have hz : valueAt vb (Sum.inr e.1) = none := by
        cases hv : valueAt vb (Sum.inr e.1) with
        | none => rfl
        | some _ => rw [hv] at rr; exact rr.elim
      have ed : decide (e ∈ u) = false := decide_eq_false fun me => g (List.mem_map.mpr ⟨e, me, rfl⟩)
      rw [ed]
      exact .miss hz
end
section
variable {X : Cx}
def rTabs (neg : Bool) : R2 := fun x y H Q => ∃ a b ka kb t u, x = .ref a ∧ y = .ref b ∧ H a = some (.dK ka) ∧ H b = some (.dK kb) ∧ TabV H ka t ∧ TabV H kb u ∧ (namesT u).Nodup ∧ Q (.bl (if neg then !sameT t u else sameT t u)) H
theorem op_eqTab (hu : X.A.units + 65 < cLine) : OpR X (compareOp .Eq) (rTabs false) := by
  intro pins s σ H x y v w Q I rx ry h
  obtain ⟨a, b, ka, kb, t, u, rfl, rfl, ea, eb, ht, hu', nd, q⟩ := h
  cases rx
  cases ry
  obtain ⟨_, ya, va, ra, da⟩ := (show ObjOk X.prog X.w H s.heap a (.dK ka) from I.hok a _ ea)
  obtain ⟨_, yb, vb, rb, db⟩ := (show ObjOk X.prog X.w H s.heap b (.dK kb) from I.hok b _ eb)
  have hl : va.length = t.length := by rw [← ra.length]; exact Paired.length ht
  have hl2 : vb.length = u.length := by rw [← rb.length]; exact Paired.length hu'
  exact PySem.W.keq_eq (knd := mixKind X.prog X.w) ya yb da db (by omega) (fun _ => tab_hits I (A := X.A.in1) (by show X.A.units + 1 + 64 < _; omega) rb hu' nd ra ht) (fin_bl I q (by
    unfold sameT
    rw [hl, hl2, Bool.eq_iff_iff]
    simp))
theorem op_neTab (hu : X.A.units + 65 < cLine) : OpR X (compareOp .NotEq) (rTabs true) := by
  intro pins s σ H x y v w Q I rx ry h
  obtain ⟨a, b, ka, kb, t, u, rfl, rfl, ea, eb, ht, hu', nd, q⟩ := h
  cases rx
  cases ry
  obtain ⟨_, ya, va, ra, da⟩ := (show ObjOk X.prog X.w H s.heap a (.dK ka) from I.hok a _ ea)
  obtain ⟨_, yb, vb, rb, db⟩ := (show ObjOk X.prog X.w H s.heap b (.dK kb) from I.hok b _ eb)
  have hl : va.length = t.length := by rw [← ra.length]; exact Paired.length ht
  have hl2 : vb.length = u.length := by rw [← rb.length]; exact Paired.length hu'
  exact PySem.W.keq_ne (knd := mixKind X.prog X.w) ya yb da db (by omega) (fun _ => tab_hits I (A := X.A.in1) (by show X.A.units + 1 + 64 < _; omega) rb hu' nd ra ht) (fin_bl I q (by
    unfold sameT
    rw [hl, hl2, Bool.eq_iff_iff]
    simp))
end
end Tm

/-! sep.join(d), d a dict of texts. -/
namespace TmJ
open PySem PySem.Spec PyProof.Rows PySem.Builtin
theorem no_len : typeLookup (.type "dict_keyiterator") "__len__" = pure none := by rw [typeLookup_type, builtinLookup_eq_fast]; kernel_rfl
theorem has_hint : typeLookup (.type "dict_keyiterator") "__length_hint__" = pure (some (.builtin "dict_keyiterator.__length_hint__")) := by rw [typeLookup_type, builtinLookup_eq_fast]; kernel_rfl
section
variable {prog : Program} {w : World} {A : Around} {E : Value → Shared → Prop} {s : Shared} {J : Addr} {fp wr : List Addr} {G : Array GenState → Array GenState → Prop} {n : Nat} {Pi : Nat → Value → Prop} {St : Nat → Shared → Prop}
abbrev newL : Obj := { cls := .type "list", data := .seq ([] : List Value).toArray }
theorem gather_keys {Q : List Value → Shared → Prop} (W : WalksS prog w A.in1 J fp wr G n Pi St) (ty : ∀ i s, St i s → s.TypeIs (.ref J) "dict_keyiterator") (st0 : St 0 s) (below : ∀ b ∈ fp, b < s.heap.objs.size) (own : J ∈ fp) (hn : n ≤ sizeLine)
    (hq : ∀ s2 got, Moved wr G s s2 → ItemsOf Pi got n → Q got.toList s2) : wpAny (model prog w) A (collect (.ref J)) Q E s := by
  have out : s.heap.objs.size ∉ fp := fun m => absurd (below _ m) (Nat.lt_irrefl _)
  have apart : s.heap.objs.size ≠ J := fun e => out (by rw [e]; exact own)
  unfold collect
  refine wpAny_bind (wpAny_runValue (codeAny_builtin F.entry_proto_collect ?_))
  rw [Around.under_plainId F.plain_proto_collect _]
  show wpAny _ A.in1 (newList [] >>= fun L => again (.builtin "list.__iadd__" ⟨[L, .ref J], []⟩)) _ _ s
  refine wpAny_bind (wpAny_newObj_type (wpAny_pure ⟨plainId_quiet F.plain_list_iadd _, codeAny_builtin F.entry_list_iadd ?_⟩))
  rw [Around.under_plainId F.plain_list_iadd _]
  have st1 := W.frame 0 s (s.heap.push newL) s.toks st0 (Nat.le_refl _) fun b _ o e => Heap.get?_push_of_some _ e
  have at1 : (s.heap.push newL).get? s.heap.objs.size = some newL := Heap.get?_push_size _ rfl
  have ns : List.listSameRef (.ref s.heap.objs.size) (.ref J) = false := by simp [List.listSameRef, apart]
  show wpAny _ A.in1 (List.listExtendWith (.ref s.heap.objs.size) (.ref J) (.ref s.heap.objs.size)) _ _ _
  unfold List.listExtendWith
  refine wpAny_bind (wpAny_typeOf (ty 0 _ st1) ?_)
  rw [if_neg (by rw [ns]; decide)]
  refine wpAny_bind (W.self 0 _ _ _ st1 (wpAny_bind (wpAny_holding ?_)))
  unfold List.listLengthHint
  refine wpAny_bind (wpAny_specialOf (ty 0 _ st1) no_len ?_)
  show wpAny _ A.in1 (specialOf (Value.ref J) (Str.ofString "__length_hint__") >>= _) _ _ _
  refine wpAny_bind (wpAny_specialOf (ty 0 _ st1) has_hint ?_)
  generalize hx : ("dict_keyiterator.__length_hint__" : String) = x0
  (fail_if_success (clear hx x0))
  wp_delta
  rw [show splitId x0 = some ("dict_keyiterator", "__length_hint__") from by subst hx; decide +kernel]
  subst hx
  refine wpAny_bind (wpAny_isInstance (b := true) (ty 0 _ st1) (by rw [isSubtype_type]; kernel_rfl) (wpAny_pure ?_))
  rw [if_neg (by decide)]
  refine wpAny_pure ⟨plainId_quiet F.plain_extend_loop _, codeAny_extend_loopS W hn _ out _ n 0 _ _ _ rfl (Nat.zero_le _) st1 at1 (ItemsOf.nil Pi) fun s2 got c mv at2 it => ?_⟩
  show wpAny _ A (load s.heap.objs.size >>= _) _ _ s2
  exact wpAny_bind (wpAny_load at2 (wpAny_pure (hq s2 got (Moved.drop_new (o := newL) (tk := s.toks) mv (Nat.le_refl _)) it)))
end
end TmJ
namespace TmJ
open PySem PySem.Spec PyProof.Rows PySem.Builtin
section
variable {prog : Program} {w : World} {A : Around} {E : Value → Shared → Prop} {s : Shared} {x : Str} {t : Tok} {d : Addr} {kvs : List (L2.Key × Value)} {ep : Nat}
theorem join_dict {Q : Value → Shared → Prop} (hh : A.handled = none) (hd : (d == sysModules) = false) (hm : s.heap.DictAt (L2.mixKind prog w) d kvs ep) (hn : kvs.length ≤ sizeLine) (ys : List Str)
    (hv : ∀ got : List Value, got.length = kvs.length → (∀ (i : Nat) (v : Value), got[i]? = some v → ∃ k x, kvs[i]? = some (k, x) ∧ (L2.mixKind prog w).is k v = true) → StrsAre got ys)
    (hok : (ys.map (·.length)).sum + ys.length * x.length ≤ 16777216) (hq : ∀ (h' : Heap) (t' : Tok) (k : Nat), (∀ b o, s.heap.get? b = some o → h'.get? b = some o) → Q (.str (Txt.join x ys) t') { s with heap := h', toks := k }) :
    wpAny (model prog w) A (call (.builtin "str.join") [.str x t, .ref d]) Q E s := by
  have dty : s.TypeIs (.ref d) "dict" := hm.dictOf.typeIs
  have hlt : d < s.heap.objs.size := by
    obtain ⟨o, es, ho, _⟩ := id hm
    exact Heap.lt_size ho
  have hne : d ≠ s.heap.objs.size := Nat.ne_of_lt hlt
  refine wpAny_call (codeAny_call_builtin F.slot_str_join.plain F.entry_str_join (F.slot_str_join.check _ _ _ _ _ _ _ _ (typeIs_str _ _ _) (F.args_str_join_2 _ _) ?_))
  rw [join_tree_other]
  refine wpAny_bind (wpAny_typeOf dty ?_)
  show wpAny _ A.in1 ((pyIter (.ref d)).tryCatch _ >>= fun it => collect it >>= fun items => joinTail x items) _ _ s
  refine wpAny_bind (wpAny_tryCatch (wpAny_pyIter_dict hd hm ?_))
  have W := (Walks.dictKeys (knd := L2.mixKind prog w) (A := A.in1.in1) hh s.heap.objs.size d hne kvs ep).toS
  refine wpAny_bind (gather_keys W (fun i s st => st.1.typeIs) ⟨⟨_, Heap.get?_push_size _ rfl, rfl, rfl⟩, hm.push _⟩ (fun b hb => ?_) List.mem_cons_self hn fun s2 got mv hg => ?_)
  · have hsz : ∀ o : Obj, (s.heap.push o).objs.size = s.heap.objs.size + 1 := fun o => by simp [Heap.push]
    rw [hsz]
    rcases List.mem_cons.mp hb with z | z
    · rw [z]
      exact Nat.lt_succ_self _
    · rw [List.mem_singleton.mp z]
      exact Nat.lt_succ_of_lt hlt
  · obtain ⟨L, hL, hy⟩ := strsAre_values (hv got.toList (by rw [Array.length_toList]; exact hg.1) fun i v e => hg.2 i v (by rw [← Array.getElem?_toList]; exact e))
    subst hy
    rw [hL]
    have fit := joinOk_of hok
    unfold JoinOk at fit
    rw [Bool.not_eq_true'] at fit
    have g : Gives (joinTail x (strValues L)) (joinMade x L) := by
      have g0 := gives_joinTail x L fit
      cases L with
      | nil => exact g0
      | cons p r => cases r with
        | nil => exact g0
        | cons q r' => exact g0
    have es : s2 = { s with heap := s2.heap, toks := s2.toks } := by
      obtain ⟨h2, g2, d2, t2, o2⟩ := s2
      have e1 : g2 = s.gens := mv.gens
      have e2 : d2 = s.drawn := mv.drawn
      have e3 : o2 = s.os := mv.os
      rw [e1, e2, e3]
    have keep : ∀ b o, s.heap.get? b = some o → s2.heap.get? b = some o := fun b o e => mv.heap b o (fun hb => by
      rw [List.mem_singleton.mp hb] at e
      exact absurd (Heap.lt_size e) (Nat.lt_irrefl _)) (Heap.get?_push_of_some _ e)
    refine g prog w A (wants Q E) s2 (post_join L ⟨joinFit_length fit, fun t' k => ?_⟩)
    rw [es]
    exact hq s2.heap t' k keep
end
end TmJ
namespace Tm
open PySem PySem.Spec PyProof.Rows L2
/-- sep.join(d) -/
theorem mt_joinD {X : Cx} (hc : X.calm = true := by rfl) : MtR X "str.join" (fun x xs H Q => ∃ (a : Str) (d : Addr) (kvs : List (L2.Key × V)) (ys : List Str), x = .str a ∧ xs = [.ref d] ∧ H d = some (.dK kvs) ∧ kvs.map (·.1) = ys.map Sum.inr ∧
    (ys.map (·.length)).sum + ys.length * a.length ≤ 16777216 ∧ Q (.str (Txt.join a ys)) H) := by
  intro pins s σ H x xs v us Q I rx rs h
  obtain ⟨a, d, kvs, ys, rfl, rfl, hd, hk, hz, q⟩ := h
  obtain ⟨t, rfl⟩ := rx
  rw [Vals.ref1 rs]
  obtain ⟨hl, sys, vs, kv, hdo⟩ := I.hok d _ hd
  obtain ⟨ep, hat⟩ := hdo.dictAt
  have lk : kvs.length = vs.length := Paired.length kv
  refine TmJ.join_dict (I.ok.hd hc) sys hat (by rw [← lk]; exact hl) ys (fun got hg hi => ?_) hz fun h' t' k keep => ⟨.str _, H, I.kept keep, ⟨t', rfl⟩, q⟩
  have ev : (kvs.map fun e => kV e.1) = ys.map V.str := by
    have e1 := congrArg (List.map kV) hk
    rw [List.map_map, List.map_map] at e1
    exact e1
  have r := vals_keys kv got hg hi
  rw [ev] at r
  exact strs_of_vals r
end Tm

/-! Kind: size, operations, len, ==, str. -/
namespace Tm
open PySem PySem.Spec PyProof.Rows L2
local macro_rules | `(tactic| walk_at "x") => `(tactic| dsimp only [tNext, tRet, tSeq, tCall, tCB, tC, tCons, tNil, tAsg, tDrop, sFld])
structure DfS (K : PySem.W.Frag) (C : Addr) (m q : Str) (st : Stmt) (ps : List Str) : Prop where
  ex : ∃ (f : Addr) (fd : FuncData), SpM K C m f ∧ Fun K m q st f fd ∧ Binds K fd ps []
section
variable {P : Program} {w : World} {K : PySem.W.Frag} {mg : Str → Option Value} {base : Heap} {C : Addr} {m q x : Str} {st : Stmt} {ps N : List Str} {k : Nat} {sp : Sp}
theorem DfS.ok (D : DfS K C m q st ps) (S : FnScope N ps (defScope st)) (len : ∀ vs H Q E, sp vs H Q E → vs.length = ps.length) (hb : BodyOk P w K mg base q st N k sp) : OkS P w K mg base C m (k + 1) ps sp := by
  obtain ⟨f, fd, h1, h2, h3⟩ := D.ex
  exact ⟨f, fd, h1, h2.ok S len (fun cdv A outer s H vs Q E hr h => hb f cdv A outer s H vs Q E hr h), h3⟩
end
/-- what is true of the class, further -/
structure KcE (K : PySem.W.Frag) (C : Addr) : Prop where
  is_ : PySem.W.kitOne K (.ref C) (.ref C) = some true
  cla : PySem.W.findIn K (.ref C) "__class__" = some (some (.builtin "object.__class__"))
  cg : PySem.W.specialIn K (.builtin "object.__class__") "__get__" = some (some (.builtin "getset_descriptor.__get__"))
  ct : PySem.W.takesIn K (.builtin "object.__class__") = some true
  mr : PySem.W.mroIn K C (.type "object") = some true
section
variable {P : Program} {w : World} {K : PySem.W.Frag} {mg : Str → Option Value} {base : Heap} {C : Addr}
abbrev s_size : Stmt := inClass (top 24) 3
theorem sc_size : FnScope ["self"] ["self"] (defScope s_size) := ⟨rfl, rfl, rfl, by decide +kernel, rfl, by decide +kernel, by decide +kernel⟩
def sp_size (C : Addr) : Sp := fun vs H Q _ => ∃ (v : V) (t : Tab), vs = [v] ∧ KindV C H v t ∧ Q (.int (sizeT t : Int)) H
theorem ok_size (T : Kc K C) (D : DfP K C "size" "Kind.size" s_size) : OkP P w K mg base C "size" 1 (sp_size C) := by
  refine D.ok sc_size (fun vs H Q E h => ?_) (fun f cdv A outer s H vs Q E hr h => ?_)
  · obtain ⟨v, t, rfl, _⟩ := h
    rfl
  · obtain ⟨v, t, rfl, ⟨a, dx, d, kvs, rfl, ha, hd, ht, hok, nd, hst⟩, q⟩ := h
    exact ⟨_, pss_one (ps_ret (pe_fld (pv 0) rfl)), _, rfl, a, C, dx, _, _, rfl, ha, T.cl, T.nS, kf_S _ _, q⟩
abbrev s_ops : Stmt := inClass (top 24) 1
theorem sc_ops : FnScope ["self"] ["self"] (defScope s_ops) := ⟨rfl, rfl, rfl, by decide +kernel, rfl, by decide +kernel, by decide +kernel⟩
def sp_ops (C : Addr) : Sp := fun vs H Q _ => ∃ (v : V) (t : Tab), vs = [v] ∧ KindV C H v t ∧ ∀ p kvs, H p = none → TabV H kvs t → Q (.ref p) (upd H p (.dK kvs))
theorem ok_ops (B : Bt mg) (T : Kc K C) (D : DfP K C "operations" "Kind.operations" s_ops) : OkP P w K mg base C "operations" 1 (sp_ops C) := by
  refine D.ok sc_ops (fun vs H Q E h => ?_) (fun f cdv A outer s H vs Q E hr h => ?_)
  · obtain ⟨v, t, rfl, _⟩ := h
    rfl
  · obtain ⟨v, t, rfl, ⟨a, dx, d, kvs, rfl, ha, hd, ht, hok, nd, hst⟩, q⟩ := h
    refine ⟨_, pss_one (ps_ret (pe_callTy call_dictD (by rfl) B.dict (by decide +kernel) (pa_cons (pe_fld (pv 0) rfl) (pa_nil)))), ?_⟩
    exact ⟨_, rfl, a, C, dx, _, _, rfl, ha, T.cl, T.nT, kf_T _ _, d, kvs, rfl, .inl hd, fun p hp => q p kvs hp ht⟩
abbrev s_klen : Stmt := inClass (top 24) 15
theorem sc_klen : FnScope ["self"] ["self"] (defScope s_klen) := ⟨rfl, rfl, rfl, by decide +kernel, rfl, by decide +kernel, by decide +kernel⟩
def sp_klen (C : Addr) : Sp := fun vs H Q _ => ∃ (v : V) (t : Tab), vs = [v] ∧ KindV C H v t ∧ Q (.int (t.length : Int)) H
theorem ok_klen (B : Bt mg) (T : Kc K C) (D : DfS K C "__len__" "Kind.__len__" s_klen ["self"]) : OkS P w K mg base C "__len__" 1 ["self"] (sp_klen C) := by
  refine D.ok sc_klen (fun vs H Q E h => ?_) (fun f cdv A outer s H vs Q E hr h => ?_)
  · obtain ⟨v, t, rfl, _⟩ := h
    rfl
  · obtain ⟨v, t, rfl, ⟨a, dx, d, kvs, rfl, ha, hd, ht, hok, nd, hst⟩, q⟩ := h
    refine ⟨_, pss_one (ps_ret (pe_callB call_lenD (by rfl) B.len (by decide +kernel) (pa_cons (pe_fld (pv 0) rfl) (pa_nil)))), ?_⟩
    refine ⟨_, rfl, a, C, dx, _, _, rfl, ha, T.cl, T.nT, kf_T _ _, ?_⟩
    have e : (kvs.length : Int) = (t.length : Int) := by rw [Paired.length ht]
    rw [← e] at q
    exact ⟨d, kvs, rfl, hd, q⟩
abbrev s_keq : Stmt := inClass (top 24) 16
theorem sc_keq : FnScope ["self", "other"] ["self", "other"] (defScope s_keq) := ⟨rfl, rfl, rfl, by decide +kernel, rfl, by decide +kernel, by decide +kernel⟩
def sp_keq (C : Addr) : Sp := fun vs H Q _ => ∃ (v u : V) (t s : Tab), vs = [v, u] ∧ KindV C H v t ∧ KindV C H u s ∧ Q (.bl (sameT t s)) H
theorem ok_keq (B : Bt mg) (T : Kc K C) (TE : KcE K C) (gC : mg "Kind" = some (.ref C)) (D : DfS K C "__eq__" "Kind.__eq__" s_keq ["self", "other"]) : OkS P w K mg base C "__eq__" 1 ["self", "other"] (sp_keq C) := by
  refine D.ok sc_keq (fun vs H Q E h => ?_) (fun f cdv A outer s H vs Q E hr h => ?_)
  · obtain ⟨v, u, t, s, rfl, _⟩ := h
    rfl
  · obtain ⟨v, u, t, s', rfl, ⟨a, dx, d, kvs, rfl, ha, hd, ht, hok, nd, hst⟩, ⟨b, dy, e, kvu, rfl, hb, he, hu, hok2, nd2, hst2⟩, q⟩ := h
    have hu65 : (A.deeper (envOfC "Kind.__eq__" (defScope s_keq) s.heap.objs.size f cdv)).units + 65 < cLine := by
      have := hr.un
      omega
    refine ⟨_, pss_one (ps_ret (pe_and (pe_callB (isiK (K := K)) (by rfl) B.isinstance (by decide +kernel) (pa_cons (pv 1) (pa_cons (pe_glob (v := .ref C) (by rfl) gC rfl) (pa_nil)))) (pe_one (pe_cmpR (op_eqTab hu65) (pe_fld (pv 0) rfl) (pe_fld (pv 1) rfl) (nomark _))))), ?_⟩
    refine ⟨_, rfl, _, .ref C, _, _, true, rfl, .own C, .base (.ins hb T.cl TE.cla TE.cg TE.ct TE.mr), TE.is_, _, rfl, ?_⟩
    refine ifT rfl ?_
    exact ⟨_, rfl, a, C, dx, _, _, rfl, ha, T.cl, T.nT, kf_T _ _, _, rfl, b, C, dy, _, _, rfl, hb, T.cl, T.nT, kf_T _ _, d, e, kvs, kvu, t, s', rfl, rfl, hd, he, ht, hu, nd2, q⟩
theorem sum_le8 : ∀ l : List Str, (∀ x ∈ l, x.length ≤ 8) → (l.map (·.length)).sum ≤ 8 * l.length
  | [], _ => Nat.zero_le _
  | x :: l, h => by
    have h1 := h x List.mem_cons_self
    have h2 := sum_le8 l fun y hy => h y (List.mem_cons_of_mem _ hy)
    simp only [List.map_cons, List.sum_cons, List.length_cons]
    omega
theorem dig12 : ∀ n : Nat, n < 13 → (Str.ofString (toString (n : Int))).length ≤ 2 := by decide +kernel
abbrev s_kstr : Stmt := inClass (top 24) 17
theorem sc_kstr : FnScope ["self", "words"] ["self"] (defScope s_kstr) := ⟨rfl, rfl, rfl, by decide +kernel, rfl, by decide +kernel, by decide +kernel⟩
def strT (t : Tab) : Str := ((Str.empty ++ ("kind of " : Str)) ++ (toString (sizeT t : Int) : Str)) ++ (" states: " : Str) ++ Txt.join " " (namesT t)
def sp_kstr (C : Addr) : Sp := fun vs H Q _ => ∃ (v : V) (t : Tab), vs = [v] ∧ KindV C H v t ∧ Q (.str (strT t)) H
theorem ok_kstr (B : Bt mg) (T : Kc K C) (D : DfS K C "__str__" "Kind.__str__" s_kstr ["self"]) : OkS P w K mg base C "__str__" 1 ["self"] (sp_kstr C) := by
  refine D.ok sc_kstr (fun vs H Q E h => ?_) (fun f cdv A outer s H vs Q E hr h => ?_)
  · obtain ⟨v, t, rfl, _⟩ := h
    rfl
  · obtain ⟨v, t, rfl, ⟨a, dx, d, kvs, rfl, ha, hd, ht, hok, nd, hst⟩, q⟩ := h
    refine ⟨_, pss_cons (ps_set (i := 1) sc_kstr.nd rfl (.inl rfl) (pe_bm PySem.F.plainAttrs_str PySem.F.slot_str_join PySem.F.type_str_join mt_joinD (pe_str) (pa_cons (pe_fld (pv 0) rfl) (pa_nil))))
      (pss_one (ps_ret (pe_joined (.cons pe_str (.cons (pe_fmt (pe_fld (pv 0) rfl)) (.cons pe_str (.cons (pe_fmt (pv 1)) .nil))))))), ?_⟩
    have hok' := hok
    unfold okTab at hok'
    simp only [Bool.and_eq_true, decide_eq_true_eq] at hok'
    obtain ⟨⟨⟨⟨k1, k2⟩, k3⟩, k4⟩, k5⟩ := hok'
    have hs : ((namesT t).map (·.length)).sum ≤ 8 * (namesT t).length := sum_le8 _ fun x hx => by
      obtain ⟨e, he, rfl⟩ := List.mem_map.mp hx
      have := List.all_eq_true.mp k5 e he
      simp only [Bool.and_eq_true, okName, decide_eq_true_eq] at this
      exact this.1.1.2
    have hl : (namesT t).length = t.length := List.length_map ..
    have hj : (Txt.join " " (namesT t)).length ≤ 60 := by
      have h1 := StrLaws.join_length_le " " (namesT t)
      have h2 : ((" " : Str)).length = 1 := by decide +kernel
      rw [h2] at h1
      rw [show Txt.join " " (namesT t) = Str.join " " (namesT t) from TL.join_eq _ _]
      exact Nat.le_trans h1 (show ((namesT t).map (·.length)).sum + (namesT t).length * 1 ≤ 60 by omega)
    have hd12 := dig12 (sizeT t) (by omega)
    have l1 : ("kind of " : Str).length = 8 := by decide +kernel
    have l2 : (" states: " : Str).length = 9 := by decide +kernel
    have l0 : (Str.empty).length = 0 := rfl
    refine ⟨rfl, _, rfl, a, C, dx, _, _, rfl, ha, T.cl, T.nT, kf_T _ _, " ", d, kvs, namesT t, rfl, rfl, hd, tabV_keys ht, ?_, ?_⟩
    · have h2 : ((" " : Str)).length = 1 := by decide +kernel
      rw [h2]
      omega
    · refine ⟨"kind of ", rfl, by rw [Str.length_append]; exact sz_le (by omega), _, rfl, a, C, dx, _, _, rfl, ha, T.cl, T.nS, kf_S _ _, .inr ⟨_, rfl, ?_, _, rfl, ?_, " states: ", rfl, ?_, _, rfl, .inl ⟨Txt.join " " (namesT t), rfl, sz_le (Nat.le_trans hj (by decide)), _, rfl, ?_, q⟩⟩⟩
      · have : (sizeT t : Int).natAbs ≤ 12 := by omega
        have h3 : (sizeT t : Int).natAbs.log2 ≤ (sizeT t : Int).natAbs := Nat.log2_le_self _
        omega
      · refine sz_le ?_
        rw [Str.length_append, Str.length_append]
        have h7 : (Str.ofString (toString (sizeT t : Int))).length ≤ 2 := hd12
        show Str.empty.length + ("kind of " : Str).length + (Str.ofString (toString (sizeT t : Int))).length ≤ 100000
        omega
      · refine sz_le ?_
        rw [Str.length_append, Str.length_append, Str.length_append]
        have h7 : (Str.ofString (toString (sizeT t : Int))).length ≤ 2 := hd12
        show Str.empty.length + ("kind of " : Str).length + (Str.ofString (toString (sizeT t : Int))).length + (" states: " : Str).length ≤ 100000
        omega
      · refine sz_le ?_
        rw [Str.length_append, Str.length_append, Str.length_append, Str.length_append]
        have h7 : (Str.ofString (toString (sizeT t : Int))).length ≤ 2 := hd12
        show Str.empty.length + ("kind of " : Str).length + (Str.ofString (toString (sizeT t : Int))).length + (" states: " : Str).length + (Txt.join " " (namesT t)).length ≤ 100000
        omega
end
end Tm

/-! {e for x in xs}, e a whole number. -/
namespace Tm
open PySem PySem.Spec PyProof.Rows L2
def setI (w : World) (D : Addr) (S : Int → Bool) (n : Nat) : HO := SetO w D S n
/-- one number more -/
def moreI (S : Int → Bool) (c : Int) : Int → Bool := fun j => S j || decide (j = c)
def tSci (w : World) (wi : TI) (g : TG) (tt : TT) (te : TE) (vs : List Nat) : TE := fun σ H Q => wi σ H fun J Hi => ∀ D, Hi D = none → ∃ W : Nat → Nat → Hp → Prop, (∃ m, W 0 m (upd Hi D (setI w D (fun _ => false) 0))) ∧
  ∀ i m H, W i m H → (J.stop i H ∧ Q (.ref D) H) ∨ (J.go i H ∧ ∃ Nx : Hp → Prop, (∀ H', Nx H' → ∃ m', m' < m ∧ W (i + 1) m' H') ∧
    ∀ x H', J.yld i H x H' → g x (wipe σ vs) H' fun σ2 H2 => wipe σ2 vs = wipe σ vs ∧ tt σ2 H2 fun b H3 => if b = true then te σ2 H3 fun y H4 => ∃ (c : Int) (S : Int → Bool) (n : Nat), y = .int c ∧ H4 D = some (setI w D S n) ∧ n + 1 < scanBound ∧ Nx (upd H4 D (setI w D (moreI S c) (if S c = true then n else n + 1))) else Nx H3)
section
variable {X : Cx}
theorem add_in {pins : List (Addr × Obj)} {σ : L2.St} {H : Hp} {s : Shared} {E : Value → Shared → Prop} {D : Addr} {S : Int → Bool} {n : Nat} {c : Int} {t : Tok} {Q : Value → Shared → Prop} (I : Inv X pins σ H s) (at_ : H D = some (setI X.w D S n)) (few : n + 1 < scanBound)
    (k : ∀ s2, Inv X pins σ (upd H D (setI X.w D (moreI S c) (if S c = true then n else n + 1))) s2 → Q .none s2) : wpAny (model X.prog X.w) X.A (call (.builtin "set.add") [.ref D, .int c t]) Q E s := by
  refine setR_add (setO_get I at_) few fun g sb new => k _ ?_
  have there : ∃ u, g.get? D = some u := by
    obtain ⟨o, _, _, _, ho, _⟩ := id new
    exact ⟨o, ho⟩
  exact I.write (e := D) (t' := s.toks + 1) (by rw [at_]; exact True.intro) (.inl rfl) (fun b u nb e => (sb.2 b nb).trans e) there (setO_new new)
abbrev bareSet (w : World) : Obj := { cls := .type "set", dict := none, data := .set #[] 0 (.fresh 0 0 (!w.params.followText "set-order")) }
theorem pe_sci {elt tg iter : Expr} {ifs : List Expr} {sco : Scope} {own : List (PySem.Str × Nat)} {pos : Pos} {wi : TI} {g : TG} {tt : TT} {te : TE} (calm : X.calm = true) (nd : X.N.Nodup) (it : PI X tg iter wi) (blk : BlkOk X.N X.env.scope sco own)
    (tgt : ∀ (s : Shared) (H : Hp) (C : Addr) (cl : List (PySem.Str × Addr)) (fp : List Addr), PG (X.blk s H sco (compEnvC sco cl C X.env) fp) tg g) (tst : ∀ (s : Shared) (H : Hp) (C : Addr) (cl : List (PySem.Str × Addr)) (fp : List Addr), PTs (X.blk s H sco (compEnvC sco cl C X.env) fp) ifs tt)
    (val : ∀ (s : Shared) (H : Hp) (C : Addr) (cl : List (PySem.Str × Addr)) (fp : List Addr), PE (X.blk s H sco (compEnvC sco cl C X.env) fp) elt te) (fold : ∀ x, foldedSetIterable iter X.env x = pure x := by intro _; rfl) :
    PE X (.SetComp elt [⟨tg, iter, ifs, 0⟩] sco pos) (tSci X.w wi g tt te (own.map (·.2))) := by
  refine ⟨fun pins s0 σ0 H0 Q0 I0 h0 => ?_⟩
  rw [PpSet.eval_SetComp]
  have caught : ∀ y ∈ sco.names, y.2 = .free → ∃ c, X.env.cells.lookup y.1 = some c := fun y hy e => (blk.free y hy e).elim (fun z => I0.ok.has _ (.inl z)) fun z => I0.ok.has _ (.inr z)
  refine wpAny_comprehension_free rfl fold (closure_ok caught) blk.kind (fun y hy e => by rw [blk.uniq y hy, e]) (thn (it.run pins s0 σ0 H0 _ I0 h0) fun xv sA hA => thn hA fun itv sB hB => ?_)
  obtain ⟨ia, fp, tn, J, HB, rfl, IB, T, stB, frB, run⟩ := hB
  refine PpSet.newSet_ok (newEnv_comp ?_)
  have noD : HB sB.heap.objs.size = none := IB.hok.fresh (Nat.le_refl _)
  obtain ⟨W, ⟨m0, w0⟩, turn⟩ := run _ noD
  generalize hs : ({ sB with heap := sB.heap.push (bareSet X.w) } : Shared) = sC
  have hC : sC.heap = sB.heap.push (bareSet X.w) := by rw [← hs]
  generalize hD : sB.heap.objs.size = D at noD turn w0
  have IC : Inv X pins σ0 (upd HB D (setI X.w D (fun _ => false) 0)) sC := by
    rw [← hs, ← hD]
    exact IB.laid (t' := sB.toks) (fun b o e => Heap.get?_push_of_some _ e) (Nat.le_refl _) (setO_new (setR_fresh X.w))
  have below : ∀ b ∈ fp, b < sB.heap.objs.size := fun b hb => let ⟨o, e, _⟩ := T.obj _ _ stB b hb; Heap.lt_size e
  have frC : ∀ b ∈ fp, FpOk X pins (upd HB D (setI X.w D (fun _ => false) 0)) b ∧ b < sC.heap.objs.size := fun b hb =>
    ⟨⟨(upd_ne (by rw [← hD]; exact Nat.ne_of_lt (below b hb))).trans (frB b hb).1, (frB b hb).2⟩, by rw [hC, Heap.size_push]; exact Nat.lt_succ_of_lt (below b hb)⟩
  have stC : tn 0 sC.heap := T.keep _ _ _ stB fun b _ o e => by rw [hC]; exact Heap.get?_push_of_some _ e
  generalize hH : upd HB D (setI X.w D (fun _ => false) 0) = HC at IC frC w0
  have ID := block_start IC blk nd frC
  generalize hcl : cellsFrom (sC.heap.objs.size + 1) sco.names (cloFrom X.env.cells sco.names []) = cl at ID
  have pT := tgt sC HC sC.heap.objs.size cl fp
  have pI := tst sC HC sC.heap.objs.size cl fp
  have pV := val sC HC sC.heap.objs.size cl fp
  show codeAny (model X.prog X.w) X.A (.compStart (.SetComp elt [⟨tg, iter, ifs, 0⟩] sco pos) 0 (.ref ia) (.ref D) (compEnvC sco cl sC.heap.objs.size X.env)) (compPost (model X.prog X.w) X.A X.xe none (EP X pins σ0 Q0) (.ref D) sC.heap.objs.size)
    { sC with heap := pushCells (sC.heap.push { cls := .type "dict", data := .dict #[] }) sco.names }
  have loc : (compEnvC sco cl sC.heap.objs.size X.env).locals = sC.heap.objs.size := rfl
  generalize hce : compEnvC sco cl sC.heap.objs.size X.env = ce at ID pT pI pV loc ⊢
  generalize hsD : ({ sC with heap := pushCells (sC.heap.push { cls := .type "dict", data := .dict #[] }) sco.names } : Shared) = sD at ID ⊢
  have stD : tn 0 sD.heap := T.keep _ _ _ stC fun b _ o e => by rw [← hsD]; exact pushCells_keeps _ _ _ _ (Heap.get?_push_of_some _ e)
  have still : ∀ {σ' : L2.St} {H' : Hp} {s' : Shared}, Inv (X.blk sC HC sco ce fp) [] σ' H' s' → (∀ b ∈ fp, H' b = none) → ∀ b ∈ fp, FpOk (X.blk sC HC sco ce fp) [] H' b := fun {σ' H' s'} Z no b hb =>
    ⟨no b hb, (Z.ok.exf b hb).1, Z.ok.exfs b hb, .inl hb, fun x c e => (Z.ok.exf b hb).2 x c e, fun p hp => absurd (show p ∈ ([] : List (Addr × Obj)) ++ [] from hp) (by simp)⟩
  have goes : codeAny (model X.prog X.w) X.A (.compLoop (.SetComp elt [⟨tg, iter, ifs, 0⟩] sco pos) 0 (.ref ia) (.ref D) ce) (compPost (model X.prog X.w) X.A X.xe none (EP X pins σ0 Q0) (.ref D) sC.heap.objs.size) sD := by
    refine PpSet.compLoopS_any (fun n s' => ∃ i H', Inv (X.blk sC HC sco ce fp) [] (wipe σ0 (own.map (·.2))) H' s' ∧ tn i s'.heap ∧ (∀ b ∈ fp, H' b = none) ∧ W i n H') ?_ m0 ⟨0, HC, ID, stD, fun b hb => (frC b hb).1.1, w0⟩
    rintro n sE ⟨i, HE, IE, stE, noE, wE⟩
    rcases turn i n HE wE with ⟨stop, last⟩ | ⟨go, Nx, nxt, step⟩
    · refine thnF (T.done (X.blk sC HC sco ce fp) rfl rfl rfl calm i [] sE _ HE (fun _ _ => False) IE (still IE noE) stE stop) fun r sF ⟨hr, IF⟩ => ?_
      subst hr
      have IG : Inv X pins σ0 HE sF := IC.call' (ch := fp) IF.os IF.base IF.hok IF.bare fun b hb => let z := (frC b hb).1; ⟨z.2.2.2.1, z.2.1, z.2.2.2.2.1, z.2.2.2.2.2⟩
      have noC : HE sC.heap.objs.size = none := by
        have z : HE ce.locals = none := IF.free
        rw [loc] at z
        exact z
      obtain ⟨m, hn, _⟩ := IF.loc
      replace hn : sF.heap.Ns ce.locals m := hn
      rw [loc] at hn
      have fr := IC.fpOk (H' := HE) (Nat.le_refl _) noC
      refine ⟨m, hn, fun g2 sb => ?_⟩
      exact ⟨.ref D, HE, IG.turned (t' := sF.toks) (fun b o hb e => (sb.2 b hb).trans e) fr.1 fr.2.1 fr.2.2.2.1 fr.2.2.2.2.1 fr.2.2.2.2.2, rfl, last⟩
    · refine thnF (T.item (X.blk sC HC sco ce fp) rfl rfl rfl calm i [] sE _ HE (fun _ _ => False) IE (still IE noE) stE go) fun r sF ⟨u, hr, hF⟩ => ?_
      subst hr
      refine thnF hF fun _ sG ⟨x, HG, IG, rG, yG, stG, noG⟩ => ?_
      have JG := IG.pinned (still IG noG) (T.obj _ _ stG)
      refine thnF (pT.run _ sG _ HG x u _ JG rG (step x HG yG)) fun _ sI ⟨σI, HI, II, wI, qI⟩ => ?_
      refine thnF (pI.run _ sI σI HI _ II qI) fun b sJ ⟨HJ, IJ, qJ⟩ => ?_
      have next : ∀ {s' : Shared} {H' : Hp}, Inv (X.blk sC HC sco ce fp) ([] ++ pinsAt fp sG.heap) σI H' s' → Nx H' →
          ∃ m, m < n ∧ ∃ i H', Inv (X.blk sC HC sco ce fp) [] (wipe σ0 (own.map (·.2))) H' s' ∧ tn i s'.heap ∧ (∀ b ∈ fp, H' b = none) ∧ W i m H' := fun {s' H'} Z nx => by
        obtain ⟨m, less, wN⟩ := nxt H' nx
        have pin : ∀ b ∈ fp, ∀ o, sG.heap.get? b = some o → s'.heap.get? b = some o ∧ H' b = none := fun b hb o e =>
          ⟨(Z.pin (b, o) (List.mem_append_right _ (List.mem_append_right _ (mem_pinsAt hb e)))).1, (Z.pin (b, o) (List.mem_append_right _ (List.mem_append_right _ (mem_pinsAt hb e)))).2.1⟩
        refine ⟨m, less, i + 1, H', (Z.unpinned (pins := [])).weak (by rw [← wI, wipe_length]) (fun j v e => ?_), T.keep _ _ _ stG fun b hb o e => (pin b hb o e).1, fun b hb => ?_, wN⟩
        · rw [← wI] at e
          exact (wipe_some e).1
        · obtain ⟨o, e, _⟩ := T.obj _ _ stG b hb
          exact (pin b hb o e).2
      cases b with
      | true =>
        simp only [if_true] at qJ ⊢
        refine thnF (pV.run _ sJ σI HJ _ IJ qJ) fun z sK ⟨yv, HK, IK, rK, c, S, k, ey, atD, few, nx⟩ => ?_
        subst ey
        obtain ⟨tk, rfl⟩ := rK
        exact add_in (X := X.blk sC HC sco ce fp) IK atD few fun sL IL => next IL nx
      | false =>
        simp only [Bool.false_eq_true, if_false] at qJ ⊢
        exact next IJ qJ
  exact PpSet.codeAny_compStart_set goes (T.self X.A 0 _ _ _ stD goes)
end
end Tm

/-! Kind.answers. -/
namespace Tm
open PySem PySem.Spec PyProof.Rows L2
local macro_rules | `(tactic| walk_at "x") => `(tactic| dsimp only [tNext, tRet, tSeq, tCall, tCB, tC, tCons, tNil, tAsg, tDrop, sFld])
/-- {pair[1] for pair in a row} and the like -/
theorem sci_row {K : PySem.W.Frag} {w : World} {σ : L2.St} {H : Hp} {Q : VK} {j : Nat} {te tl : TE} {vs : List Nat} {r : Row} {f : Int × Int → Int} (hl : Ev tl σ H fun v H1 => ∃ a xs, v = .ref a ∧ SqT K H1 a xs ∧ Paired (PairV H1) xs r) (hr : r.length ≤ 1000) (hw : ∀ x, wipe ((wipe σ vs).set j (some x)) vs = wipe σ vs)
    (he : ∀ x z H', PairV H' x z → Ev te ((wipe σ vs).set j (some x)) H' fun v _ => v = .int (f z))
    (hq : ∀ p H1 S n, Same H H1 → H1 p = some (SetO w p S n) → (∀ k, S k = true ↔ k ∈ r.map f) → n ≤ r.length → Q (.ref p) H1) : tSci w (iTup K tl) (gName j) tYes te vs σ H Q := by
  refine hl _ fun v H1 e h => ?_
  obtain ⟨a, xs, ea, hs, hp⟩ := h
  have hlen : xs.length = r.length := Paired.length hp
  refine ⟨a, ea, ⟨xs, hs⟩, fun D hD => ?_⟩
  have wk := walk_tup (K := K) (a := a) (xs := xs)
  refine ⟨fun i m H' => m = r.length - i ∧ i ≤ r.length ∧ Same H1 H' ∧ ∃ S n, H' D = some (SetO w D S n) ∧ (∀ k, S k = true ↔ k ∈ (r.take i).map f) ∧ n ≤ i, ⟨r.length, by simp, Nat.zero_le _, same_new hD, fun _ => false, 0, upd_same, by simp, Nat.le_refl _⟩, ?_⟩
  rintro i m H' ⟨rfl, hi, e2, S, n, hS, hm, hn⟩
  have hs' : SqT K H' a xs := same_seqT e2 hs
  by_cases hlt : i < r.length
  · refine .inr ⟨wk.goes i H' (by omega) hs', _, fun H2 p => p, fun x H2 y => ?_⟩
    obtain ⟨eH, hx⟩ := wk.yields i H' x H2 (by omega) hs' y
    rw [eH]
    obtain ⟨z, hz, hpz⟩ := paired_ix2 hp hx
    refine ⟨hw x, ?_⟩
    dsimp only [tYes]
    rw [if_pos rfl]
    refine he x z H' (hpz.mono (tups_of e2)) _ fun y H3 e3 ey => ?_
    refine ⟨f z, S, n, ey, e3 _ _ hS, by show n + 1 < 4096; omega, r.length - (i + 1), by omega, rfl, hlt, same_mut (e2.trans e3) hD, moreI S (f z), _, upd_same, fun k => ?_, ?_⟩
    · rw [take_one hz, List.map_append, List.mem_append, ← hm k]
      unfold moreI
      simp
    · split <;> omega
  · have ei : i = r.length := by omega
    subst ei
    rw [List.take_length] at hm
    exact .inl ⟨by rw [← hlen]; exact wk.stops H' hs', hq D H' S n (e.trans e2) hS hm hn⟩
section
variable {P : Program} {w : World} {K : PySem.W.Frag} {mg : Str → Option Value} {base : Heap} {C : Addr}
abbrev s_answers : Stmt := inClass (top 24) 5
theorem sc_answers : FnScope ["self", "name", "pair"] ["self", "name"] (defScope s_answers) := ⟨rfl, rfl, rfl, by decide +kernel, rfl, by decide +kernel, by decide +kernel⟩
def sp_answers (C : Addr) : Sp := fun vs H Q _ => ∃ (v : V) (t : Tab) (x : Str) (r : Row), vs = [v, .str x] ∧ KindV C H v t ∧ (x, r) ∈ t ∧ ∀ p H' (ns : List Int), Same H H' → H' p = some (.tup (ns.map V.int)) → ns.Pairwise (· < ·) → (∀ k, k ∈ ns ↔ k ∈ r.map (·.2)) → Q (.ref p) H'
theorem ok_answers (B : Bt mg) (T : Kc K C) (OM_need_operation : OkM P w K mg base C "_need_operation" 2 ["self", "name"] (sp_needop C)) (D : DfM K C "answers" "Kind.answers" s_answers ["self", "name"]) : OkM P w K mg base C "answers" 3 ["self", "name"] (sp_answers C) := by
  refine D.ok sc_answers (fun vs H Q E h => ?_) (fun f cdv A outer s H vs Q E hr h => ?_)
  · obtain ⟨v, t, x, r, rfl, _⟩ := h
    rfl
  · obtain ⟨v, t, x, r, rfl, hk, hm, q⟩ := h
    obtain ⟨a, dx, d, kvs, rfl, ha, hd, ht, hok, nd, hst⟩ := id hk
    have hu := hu_of hr
    have hin : x ∈ namesT t := List.mem_map.mpr ⟨_, hm, rfl⟩
    refine ⟨_, pss_cons (ps_expr (OM_need_operation.call hr T.cl (he := pv 0) (ha := pa_cons (pv 1) (pa_nil))))
      (pss_one (ps_ret (pe_callTy (tupleK (K := K)) (by rfl) B.tuple (by decide +kernel) (pa_cons (pe_callB (cr_sortedSet rfl) (by rfl) B.sorted (by decide +kernel) (pa_cons (pe_sci (own := [("pair", 2)]) (g := gName 2) (tt := tYes) rfl sc_answers.nd (pi_tup (pe_dget hu (pe_fld (pv 0) rfl) (pv 1) (fun _ _ => rfl))) (blkOk_by (own := [("pair", 2)]) (N := ["self", "name", "pair"]) (sc := defScope s_answers) (by decide +kernel)) (fun _ _ _ _ _ => pg_name (i := 2) sc_answers.nd rfl (.inl rfl)) (fun _ _ _ _ _ => pts_nil) (fun _ _ _ _ _ => pe_ix (ixTK (K := K)) (pv 2) (pe_int) (fun _ _ => rfl))) pa_nil)) pa_nil)))), ?_⟩
    refine ⟨_, rfl, a, dx, _, rfl, ha, kf_no _ _, _, rfl, _, t, x, rfl, hk, hin, ?_⟩
    obtain ⟨rv, hv, hrow⟩ := tab_look ht nd hm
    have hg := DGet.k (k := Sum.inr x) hd
    rw [hv] at hg
    obtain ⟨b, rs, rfl, hb, hrs⟩ := id hrow
    have hsz : r.length = sizeT t := size_of_ok hok _ hm
    have h12 : sizeT t ≤ 12 := by
      have := hok
      unfold okTab at this
      simp only [Bool.and_eq_true, decide_eq_true_eq] at this
      exact this.1.2
    walk_at "x"
    refine sci_row (K := K) (r := r) (f := fun z => z.2) (fun Q q => ?_) (by omega) (by intro _; rfl) (fun x z H' hz Q q => ?_) fun p H1 S n e hS hm2 hn => ?_
    · exact ⟨_, rfl, a, C, dx, _, _, rfl, ha, T.cl, T.nT, kf_T _ _, _, rfl, d, _, rfl, hg, q _ _ (Same.refl _) ⟨b, rs, rfl, SqT.of hb, hrs⟩⟩
    · obtain ⟨c, rfl, hc⟩ := hz
      exact ⟨_, rfl, c, _, _, .int z.2, rfl, rfl, SqT.of hc, atI_nat (j := 1) rfl, q _ _ (Same.refl _) rfl⟩
    · refine ⟨p, S, n, rfl, hS, by omega, fun ns l hpw hmem hl hnl => ?_⟩
      refine ⟨l, _, rfl, .inl ⟨SqL.of upd_same, fun l2 hl2 => ?_⟩⟩
      exact q l2 _ ns (e.trans ((same_new hnl).trans (same_new hl2))) upd_same hpw fun k => (hmem k).trans (hm2 k)
end
end Tm

/-! Kind.reached. -/
namespace Tm
open PySem PySem.Spec PyProof.Rows L2
local macro_rules | `(tactic| walk_at "x") => `(tactic| dsimp only [tNext, tRet, tSeq, tCall, tCB, tC, tCons, tNil, tAsg, tDrop, sFld])
section
variable {α : Type} {K : PySem.W.Frag} {σ : L2.St} {H : Hp} {Q : VK} {j : Nat} {tt : TT} {te : TE} {vs : List Nat}
/-- over the values of a locked dict -/
theorem lc_runV {td : TE} {d : Addr} {o : Obj} {kvs : List (L2.Key × V)} (hd : Ev td σ H fun v _ => v = .ref d) (hf : H d = some (.frz o (.dK kvs))) (zs : List α) (hlen : zs.length = kvs.length) (b : α → Bool) (R : α → V → Hp → Prop) (hz : zs.length ≤ 100000)
    (hw : ∀ x, wipe ((wipe σ vs).set j (some x)) vs = wipe σ vs) (hR : ∀ z v H H', TupS H H' → R z v H → R z v H')
    (hs : ∀ (k : Nat) z kv H1, zs[k]? = some z → kvs[k]? = some kv → Same H H1 → EvT tt ((wipe σ vs).set j (some kv.2)) H1 (b z) ∧ (b z = true → ∀ H3, Same H1 H3 → Ev te ((wipe σ vs).set j (some kv.2)) H3 (R z)))
    (hq : ∀ p H1 ys, H p = none → Same H H1 → H1 p = some (.lst ys) → Paired (fun v z => R z v H1) ys (zs.filter b) → Q (.ref p) H1) : tLc (iVals td) (gName j) tt te vs σ H Q := by
  refine hd _ fun v H1 e ev => ⟨d, o, kvs, ev, e _ _ hf, ?_⟩
  refine lc_name (Q := Q) walk_values zs b R hlen (by omega) hw hR (fun H2 e2 => e2 _ _ (e _ _ hf)) (fun i H v H' y => by rw [y.1]; exact Same.refl _) (fun i z x H2 H' hz' e2 y => ?_) (fun p H2 ys hp e2 => hq p H2 ys (e.free hp) (e.trans e2))
  obtain ⟨e3, k, hk⟩ := y
  rw [e3]
  exact hs i z (k, x) H2 hz' hk (e.trans e2)
end
/-- the states behind s, by the operations in their order -/
def nextN (t : Tab) (s : Nat) : List Nat := t.map fun e => match e.2[s]? with
  | some p => p.1.toNat
  | none => 0
/-- the loop of reached, by fuel: met, waiting -/
def runR (t : Tab) : Nat → List Nat → List Nat → Option (List Nat)
  | 0, met, [] => some met
  | 0, _, _ :: _ => none
  | n + 1, met, w => match w.getLast? with
    | none => some met
    | some h => if h ∈ met then runR t n met w.dropLast else runR t n (met ++ [h]) (w.dropLast ++ nextN t h)
def natV (l : List Nat) : List V := l.map fun (n : Nat) => V.int (n : Int)
def iN (l : List Nat) : List Int := l.map fun (n : Nat) => (n : Int)
theorem natV_iN (l : List Nat) : natV l = (iN l).map V.int := by simp [natV, iN]
theorem inV_nat (h : Nat) (l : List Nat) : inV (V.int (h : Int)) (natV l) = decide (h ∈ l) := by
  unfold inV natV
  rw [List.any_map, Bool.eq_iff_iff, List.any_eq_true, decide_eq_true_eq]
  constructor
  · rintro ⟨x, hx, e⟩
    have e2 : ((x : Int) == (h : Int)) = true := e
    have e3 : x = h := by
      have := beq_iff_eq.mp e2
      omega
    rw [← e3]
    exact hx
  · intro hm
    exact ⟨h, hm, show ((h : Int) == (h : Int)) = true from beq_self_eq_true _⟩
theorem natV_len (l : List Nat) : (natV l).length = l.length := List.length_map ..
theorem natV_last {l : List Nat} {h : Nat} (e : l.getLast? = some h) : (natV l)[(natV l).length - 1]? = some (V.int (h : Int)) := by
  rw [natV_len]
  unfold natV
  rw [List.getElem?_map, ← List.getLast?_eq_getElem?, e]
  rfl
theorem natV_drop (l : List Nat) : (natV l).dropLast = natV l.dropLast := by simp [natV, List.map_dropLast]
theorem natV_app (l r : List Nat) : natV l ++ natV r = natV (l ++ r) := by simp [natV]
theorem next_ok {t : Tab} (h : okTab t = true) {e : Str × Row} (he : e ∈ t) {s : Nat} (hs : s < sizeT t) : ∃ p, e.2[s]? = some p ∧ 0 ≤ p.1 ∧ p.1 < (sizeT t : Int) := by
  have hl := size_of_ok h e he
  unfold okTab at h
  simp only [Bool.and_eq_true] at h
  have q := List.all_eq_true.mp h.2 e he
  simp only [Bool.and_eq_true, okRow, decide_eq_true_eq] at q
  have hlt : s < e.2.length := by omega
  have k := List.all_eq_true.mp q.2.2 _ (List.getElem_mem hlt)
  unfold okPair at k
  simp only [Bool.and_eq_true, decide_eq_true_eq] at k
  exact ⟨e.2[s], List.getElem?_eq_getElem hlt, k.1.1.1, by omega⟩
theorem flat_nat (l : List Nat) : (natV l).all flatV = true := List.all_eq_true.mpr fun v hv => by
  obtain ⟨n, _, rfl⟩ := List.mem_map.mp hv
  rfl
/-- a tuple of numbers without a dict of its own -/
def TupD (H : Hp) (p : Addr) (ns : List Nat) : Prop := ∃ o : Obj, o.dict = none ∧ H p = some (.frz o (.tup (natV ns)))
theorem TupD.rd {H : Hp} {p : Addr} {ns : List Nat} (h : TupD H p ns) : Rd H p (.tup (natV ns)) := by
  obtain ⟨o, _, h⟩ := h
  exact .inr ⟨o, h⟩
theorem TupD.keep {H H' : Hp} {p : Addr} {ns : List Nat} (e : Same H H') (h : TupD H p ns) : TupD H' p ns := by
  obtain ⟨o, h1, h⟩ := h
  exact ⟨o, h1, e _ _ h⟩
/-- tuple(a list), the new tuple as it stands -/
theorem cr_tupF {X : Cx} {K : PySem.W.Frag} (hK : X.K = K := by rfl) : CallR X (.type "tuple") (fun xs H Q => ∃ p ys, xs = [.ref p] ∧ SqL K H p ys ∧ ∀ (l : Addr) (o : Obj), o.dict = none → H l = none → Q (.ref l) (upd H l (.frz o (.tup ys)))) := by
  subst hK
  intro pins s σ H xs us Q I r h
  obtain ⟨p, ys, rfl, hs, q⟩ := h
  rw [Vals.ref1 r]
  obtain ⟨its, rv, lst, room⟩ := I.list hs
  have cnt := rv.length
  refine call_tuple_list lst.isList (fun g kept => ?_) (by simp only [List.size_toArray] <;> omega)
  have J : Inv X pins σ H { s with heap := g } := I.kept (t' := s.toks) kept
  have new : ObjOk X.prog X.w (upd H g.objs.size (.frz { cls := .type "tuple", data := .seq its.toArray } (.tup ys))) (g.push { cls := .type "tuple", data := .seq its.toArray }) g.objs.size (.frz { cls := .type "tuple", data := .seq its.toArray } (.tup ys)) :=
    ⟨Heap.get?_push_size _ rfl, room, its, rv, IsTup.new _ _⟩
  exact ⟨.ref g.objs.size, _, J.laid (t' := s.toks) (fun b o e => Heap.get?_push_of_some _ e) (Nat.le_refl _) new, rfl, q _ _ rfl (J.hok.fresh (Nat.le_refl _))⟩
section
variable {P : Program} {w : World} {K : PySem.W.Frag} {mg : Str → Option Value} {base : Heap} {C : Addr}
end
end Tm

set_option maxHeartbeats 4000000
/-! set(xs), xs a list of whole numbers. -/
namespace Tm
open PySem PySem.Spec PyProof.Rows L2
section
variable {P : Program} {w : World} {B : Around} {G : Value → Shared → Prop} {z : Shared}
/-- what set(..) leaves: all members, the old heap kept -/
abbrev Filled (w : World) (z : Shared) (ns : List Int) (y : Shared) : Prop := ∃ (g : Heap) (n c : Nat), y = { z with heap := g, toks := n } ∧ SetR w g z.heap.objs.size (fun j => decide (j ∈ ns)) c ∧ c ≤ ns.length ∧ ∀ b o, z.heap.get? b = some o → g.get? b = some o
/-- the body of set.__init__, one list given -/
theorem init_list {l : Addr} {us : Array Value} {ns : List Int} (calm : B.handled = none) (lst : z.heap.IsList l us) (num : IntsAre us.toList ns) (few : ns.length + 1 < scanBound) :
    wpAny (model P w) B (Builtin.«set.__init__» ⟨[.ref z.heap.objs.size, .ref l], []⟩) (fun f y => f = .done (.ret .none) ∧ Filled w z ns y) G { z with heap := z.heap.push (bareSet w) } := by
  have cnt : us.size = ns.length := (Array.length_toList (xs := us)).symm.trans (IntsAre.length num)
  have new : (z.heap.push (bareSet w)).get? z.heap.objs.size = some (bareSet w) := Heap.get?_push_size _ rfl
  obtain ⟨⟨oc, od, oda, os⟩, old, e1, k, e2⟩ := lst
  dsimp only at e1 e2
  cases e1
  cases e2
  have at1 : (z.heap.push (bareSet w)).get? l = some { cls := .type "list", dict := od, data := .seq us k, slots := os } := Heap.get?_push_of_some _ old
  have is1 : (z.heap.push (bareSet w)).IsList l us := ⟨_, at1, rfl, k, rfl⟩
  have n1 := PySem.F.sub_list_set
  have n2 := PySem.F.sub_list_frozenset
  have n3 : (Value.type "list" == Value.type "dict") = false := by decide
  unfold Builtin.«set.__init__» noKeywords Builtin.Frozenset.updateFrom
  generalize e : pyIter = PI
  wp_walk
  subst e
  refine wpAny_pyIter_list is1 (wpAny_bind (wpAny_runValue ?_))
  have big : (z.heap.push (bareSet w)).objs.size = z.heap.objs.size + 1 := Heap.size_push ..
  have less := Heap.lt_size old
  have ne1 : l ≠ (z.heap.push (bareSet w)).objs.size := Nat.ne_of_lt (big ▸ Nat.lt_succ_of_lt less)
  have ne2 : z.heap.objs.size ≠ (z.heap.push (bareSet w)).objs.size := Nat.ne_of_lt (big ▸ Nat.lt_succ_self _)
  have out : z.heap.objs.size ∉ [(z.heap.push (bareSet w)).objs.size, l] := fun m => by
    rcases List.mem_cons.mp m with x | x
    · exact ne2 x
    · exact Nat.ne_of_gt less (List.mem_singleton.mp x)
  have val : ∀ (i : Nat) (v : Value), us[i]? = some v → ∃ c t, ns[i]? = some c ∧ v = .int c t := fun i v hv => by
    have lt : i < ns.length := cnt ▸ (Array.getElem?_eq_some_iff.mp hv).1
    obtain ⟨t, ev⟩ := IntsAre.int_at num i v ((Array.getElem?_toList ..).trans hv)
    refine ⟨ns[i], t, List.getElem?_eq_getElem lt, ev.trans ?_⟩
    rw [List.getD_eq_getElem?_getD, List.getElem?_eq_getElem lt]
    rfl
  refine set_update_ints (Walks.list (by simp [calm]) _ l ne1 us).toS z.heap.objs.size out ns cnt few val us.size 0 _ rfl (Nat.zero_le _) ⟨⟨_, Heap.get?_push_size _ rfl, rfl, rfl⟩, is1.push _⟩ ⟨0, Nat.le_refl 0, setR_new_at (Heap.get?_push_of_some _ new)⟩ fun y c mv hc hS => ?_
  obtain ⟨g, gs, dr, tk, os2⟩ := y
  have q1 := mv.gens
  have q2 := mv.drawn
  have q3 := mv.os
  dsimp only at q1 q2 q3
  subst q1 q2 q3
  refine wpAny_pure (wpAny_pure ⟨rfl, g, tk, c, rfl, hS, cnt ▸ hc, fun b o e => mv.heap b o (fun m => ?_) (Heap.get?_push_of_some _ (Heap.get?_push_of_some _ e))⟩)
  have lb := Heap.lt_size e
  rcases List.mem_cons.mp m with x | x
  · exact Nat.ne_of_lt lb x
  · exact Nat.ne_of_lt (big ▸ Nat.lt_succ_of_lt lb) (List.mem_singleton.mp x)
/-- the call -/
theorem set_list {A : Around} {s : Shared} {l : Addr} {us : Array Value} {ns : List Int} {R : Value → Shared → Prop} (calm : A.handled = none) (lst : s.heap.IsList l us) (num : IntsAre us.toList ns) (few : ns.length + 1 < scanBound)
    (end_ : ∀ y, Filled w s ns y → R (.ref s.heap.objs.size) y) : wpAny (model P w) A (call (.type "set") [.ref l]) R G s := by
  have C := PySem.F.called_set
  have ⟨m0, m1, mro⟩ := C.mro
  refine wpAny_call (codeAny_of_tree (?_ : wpAny _ _ (callAny (.type "set") _) _ _ _))
  refine wpAny_pure ⟨Code.quiet_builtin _ (by decide +kernel), codeAny_builtin F.entry_type_call ?_⟩
  rw [Around.under_plain (weight_type_call_type "set" [.ref l] []) rfl]
  have c1 := C.made
  have c2 := C.sub
  have c3 := C.notType
  have c4 := C.canCreate
  have c5 := F.typeCall_set_1 (.ref l)
  repeat (any_goals (first | assumption | wp_step))
  refine codeAny_mono (code_set_led1 (.ref l) (E := G) (Q₁ := fun o s1 => o = .ref s.heap.objs.size ∧ s1 = { s with heap := s.heap.push (bareSet w) }) ⟨rfl, rfl⟩) fun r1 s1 h1 => ?_
  match r1, h1 with
  | .ok (.ret _), h1 =>
    obtain ⟨rfl, rfl⟩ := h1
    have new : (s.heap.push (bareSet w)).get? s.heap.objs.size = some (bareSet w) := Heap.get?_push_size _ rfl
    have typ : Shared.TypeIs { s with heap := s.heap.push (bareSet w) } (.ref s.heap.objs.size) "set" := ⟨_, new, rfl⟩
    have i1 := C.init.lookup
    have i2 := C.init.bind (.ref s.heap.objs.size)
    repeat (any_goals (first | assumption | wp_step))
    refine codeAny_mono (codeAny_call_builtin (R := wants (fun r y => r = .none ∧ Filled w s ns y) G) C.init.plain F.entry_set_init (check_set_init_1 typ ?_)) fun r2 s2 h2 => ?_
    · exact wpAny_mono (init_list (by simp [calm]) lst num few) (fun f y q => by obtain ⟨rfl, q⟩ := q; exact ⟨rfl, q⟩) fun _ _ e => e
    · match r2, h2 with
      | .ok (.ret _), h2 =>
        obtain ⟨rfl, q⟩ := h2
        repeat (any_goals (first | assumption | wp_step))
        exact end_ _ q
      | .error _, e => exact e
  | .error _, e => exact e
end
def rSetL (K : PySem.W.Frag) (w : World) : List V → Hp → VK → Prop := fun xs H Q => ∃ (l : Addr) (ns : List Int), xs = [V.ref l] ∧ SqL K H l (ns.map V.int) ∧ ns.length ≤ 1000 ∧ ∀ p c, H p = none → c ≤ ns.length → Q (.ref p) (upd H p (setI w p (fun j => decide (j ∈ ns)) c))
theorem cr_setL {X : Cx} (calm : X.calm = true) : CallR X (.type "set") (rSetL X.K X.w) := by
  intro pins s σ H xs us Q I r h
  obtain ⟨l, ns, rfl, hl, few, q⟩ := h
  rw [Vals.ref1 r]
  obtain ⟨its, rv, pl, _⟩ := I.list hl
  refine set_list (I.ok.hd calm) pl.isList (ns := ns) (ints_of_vals rv) (by show _ < 4096; omega) fun y ⟨g, n, c, ey, new, hc, keep⟩ => ?_
  subst ey
  exact ⟨.ref s.heap.objs.size, _, I.laid (t' := n) keep (Nat.le_refl _) (setO_new new), rfl, q _ c (I.hok.fresh (Nat.le_refl _)) hc⟩
end Tm

/-! min(d), d a dict with texts for keys; _law_size. -/
namespace Tm
open PySem PySem.Spec PyProof.Rows L2
local macro_rules | `(tactic| walk_at "x") => `(tactic| dsimp only [tNext, tRet, tSeq, tCall, tCB, tC, tCons, tNil, tAsg, tDrop, sFld])
theorem best_le (bt : Nat → Nat → Bool) : ∀ k, argBest bt k ≤ k
  | 0 => Nat.le_refl _
  | k + 1 => by
    have := best_le bt k
    unfold argBest
    split <;> omega
theorem cmp_texts {P : Program} {w : World} {A : Around} {D : Nat → Value → Prop} (x : Nat → Str) (hx : ∀ i v, D i v → ∃ t, v = .str (x i) t) : CmpOf P w A .Lt D fun i j => decide ((x i).cps.toList < (x j).cps.toList) := by
  intro i j u v s Q G hu hv q
  obtain ⟨t1, rfl⟩ := hx i u hu
  obtain ⟨t2, rfl⟩ := hx j v hv
  exact richCompare_gives (op := .Lt) (typeIs_str s _ t1) (typeIs_str s _ t2) F.slot_str_lt F.entry_str_lt (F.args_str_lt_2 _ _) (gives_str_lt _ _ t1 t2) (fun e => nomatch e) q
def rMinT : List V → Hp → VK → Prop := fun vs H Q => ∃ (a : Addr) (kvs : List (L2.Key × V)) (ks : List Str), vs = [V.ref a] ∧ H a = some (.dK kvs) ∧ kvs.map (·.1) = ks.map Sum.inr ∧ ks ≠ [] ∧ ∀ x ∈ ks, Q (.str x) H
theorem cr_minT {X : Cx} (calm : X.calm = true) : CallR X (.builtin "min") rMinT := by
  intro pins s σ H vs us Q I r h
  obtain ⟨a, kvs, ks, rfl, ha, hk, ne, q⟩ := h
  rw [Vals.ref1 r]
  obtain ⟨_, sys, es, rel, dof⟩ := dk_of I.hok ha
  obtain ⟨ep, dat⟩ := dof.dictAt
  have less : a < s.heap.objs.size := by
    obtain ⟨_, _, e, _⟩ := id dat
    exact Heap.lt_size e
  have keys : es.map (·.1) = ks.map Sum.inr := (KV.keys rel).symm.trans hk
  have cnt : es.length = ks.length := by simpa using congrArg List.length keys
  have pos : 0 < es.length := cnt ▸ List.length_pos_iff.mpr ne
  have texts : ∀ (i : Nat) (v : Value), (∃ k x, es[i]? = some (k, x) ∧ (mixKind X.prog X.w).is k v = true) → ∃ t, v = Value.str (ks.getD i Str.empty) t := by
    rintro i v ⟨k, x, hx, is⟩
    have e1 := congrArg (·[i]?) keys
    simp only [List.getElem?_map, hx] at e1
    cases hi : ks[i]? with
    | none => rw [hi] at e1; cases e1
    | some y =>
      rw [hi] at e1
      cases e1
      obtain ⟨t, ev⟩ := Value.isStrOf_shape (show Value.isStrOf y v = true from is)
      exact ⟨t, by rw [ev, List.getD_eq_getElem?_getD, hi]; rfl⟩
  refine call_min_walk (wpAny_pyIter_dict (knd := mixKind X.prog X.w) sys dat ⟨_, _, _, _, _, _, _, rfl, Walks.dictKeys (knd := mixKind X.prog X.w) (A := X.A.in1) (I.ok.hd calm) _ a (Nat.ne_of_lt less) es ep, ⟨⟨_, Heap.get?_push_size _ rfl, rfl, rfl⟩, dat.keep fun b u e => Heap.get?_push_of_some _ e⟩, fun b hb => ?_, pos, cmp_texts (fun i => ks.getD i Str.empty) texts, fun v g n hv keep => ?_⟩)
  · have big : ∀ o, (s.heap.push o).objs.size = s.heap.objs.size + 1 := fun o => Heap.size_push ..
    refine Nat.lt_of_lt_of_eq ?_ (big _).symm
    rcases List.mem_cons.mp hb with e | e
    · exact e ▸ Nat.lt_succ_self _
    · exact List.mem_singleton.mp e ▸ Nat.lt_succ_of_lt less
  · obtain ⟨t, rfl⟩ := texts _ v hv
    refine ⟨.str _, H, I.kept (t' := n) fun b u e => keep b u (fun m => Nat.ne_of_lt (Heap.lt_size e) (List.mem_singleton.mp m)) (Heap.get?_push_of_some _ e), ⟨t, rfl⟩, q _ ?_⟩
    have in_ : argBest (fun i j => decide ((ks.getD i Str.empty).cps.toList < (ks.getD j Str.empty).cps.toList)) (es.length - 1) < ks.length := by
      have := best_le (fun i j => decide ((ks.getD i Str.empty).cps.toList < (ks.getD j Str.empty).cps.toList)) (es.length - 1)
      omega
    rw [List.getD_eq_getElem?_getD, List.getElem?_eq_getElem in_]
    exact List.getElem_mem in_
section
variable {P : Program} {w : World} {K : PySem.W.Frag} {mg : Str → Option Value} {base : Heap} {C : Addr}
/-- a dict that says a table -/
def DictV (H : Hp) (v : V) (t : Tab) : Prop := ∃ d kvs, v = .ref d ∧ H d = some (.dK kvs) ∧ TabV H kvs t ∧ (namesT t).Nodup ∧ okTab t = true
theorem tab_pos {t : Tab} (h : okTab t = true) : t ≠ [] := fun e => by
  rw [e] at h
  cases h
end
end Tm

/-! Sorted lists are one; the law's walk through the states. -/
namespace Tm
open PySem PySem.Spec PyProof.Rows L2
local macro_rules | `(tactic| walk_at "x") => `(tactic| dsimp only [tNext, tRet, tSeq, tCall, tCB, tC, tCons, tNil, tAsg, tDrop, sFld])
theorem ltc_no {a b : List Nat} : ltCps a b = false ↔ b ≤ a := by
  rw [ltCps_eq, decide_eq_false_iff_not, List.not_lt]
theorem rising_le : ∀ {l : List Str} {p : Str}, risingS p l = true → ∀ x ∈ l, p.cps.toList ≤ x.cps.toList
  | [], _, _, _, hx => nomatch hx
  | y :: r, p, h, x, hx => by
    have h2 : (!ltCps y.cps.toList p.cps.toList && risingS y r) = true := h
    simp only [Bool.and_eq_true, Bool.not_eq_true'] at h2
    have e := ltc_no.mp h2.1
    rcases List.mem_cons.mp hx with z | z
    · exact z ▸ e
    · exact List.le_trans e (rising_le h2.2 x z)
theorem sortedS_tail {x : Str} {l : List Str} (h : sortedS (x :: l) = true) : sortedS l = true := by
  cases l with
  | nil => rfl
  | cons y r =>
    have h2 : (!ltCps y.cps.toList x.cps.toList && risingS y r) = true := h
    simp only [Bool.and_eq_true] at h2
    exact h2.2
theorem sorted_one : ∀ {l m : List Str}, l.Perm m → sortedS l = true → sortedS m = true → l = m
  | [], m, p, _, _ => (List.nil_perm.mp p).symm ▸ rfl
  | x :: r, [], p, _, _ => absurd p.length_eq (by simp)
  | x :: r, y :: s, p, h1, h2 => by
    have e : x = y := by
      rcases List.mem_cons.mp (p.mem_iff.mp List.mem_cons_self) with z | z
      · exact z
      · rcases List.mem_cons.mp (p.mem_iff.mpr List.mem_cons_self) with u | u
        · exact u.symm
        · have a := rising_le (l := s) (p := y) h2 x z
          have b := rising_le (l := r) (p := x) h1 y u
          have c := List.le_antisymm b a
          cases x
          cases y
          congr 1
          exact Array.toList_inj.mp c
    subst e
    rw [sorted_one ((List.perm_cons x).mp p) (sortedS_tail h1) (sortedS_tail h2)]
/-- strictly rising lists of the same members -/
theorem rise_one : ∀ {l m : List Int}, l.Pairwise (· < ·) → m.Pairwise (· < ·) → (∀ k, k ∈ l ↔ k ∈ m) → l = m
  | [], [], _, _, _ => rfl
  | [], y :: s, _, _, h => nomatch (h y).mpr List.mem_cons_self
  | x :: r, [], _, _, h => nomatch (h x).mp List.mem_cons_self
  | x :: r, y :: s, h1, h2, h => by
    obtain ⟨a1, a2⟩ := List.pairwise_cons.mp h1
    obtain ⟨b1, b2⟩ := List.pairwise_cons.mp h2
    have e : x = y := by
      rcases List.mem_cons.mp ((h x).mp List.mem_cons_self) with z | z
      · exact z
      · rcases List.mem_cons.mp ((h y).mpr List.mem_cons_self) with u | u
        · exact u.symm
        · have := b1 x z
          have := a1 y u
          omega
    subst e
    rw [rise_one a2 b2 fun k => ⟨fun hk => ?_, fun hk => ?_⟩]
    · rcases List.mem_cons.mp ((h k).mp (List.mem_cons_of_mem _ hk)) with z | z
      · have := a1 k hk
        omega
      · exact z
    · rcases List.mem_cons.mp ((h k).mpr (List.mem_cons_of_mem _ hk)) with z | z
      · have := b1 k hk
        omega
      · exact z
def toN (r : Row) (h : Nat) : Nat := match r[h]? with
  | some p => p.1.toNat
  | none => 0
/-- found and what lies behind it by one operation, below n, rising -/
def stepN (n : Nat) (r : Row) (met : List Nat) : List Nat := (List.range n).filter fun k => decide (k ∈ met ++ met.map (toN r))
def roundN (t : Tab) (met : List Nat) : List Nat := t.foldl (fun m e => stepN (sizeT t) e.2 m) met
def walkN (t : Tab) (s : Nat) : Nat → List Nat
  | 0 => [s]
  | i + 1 => roundN t (walkN t s i)
theorem step_rise (n : Nat) (r : Row) (met : List Nat) : (iN (stepN n r met)).Pairwise (· < ·) := by
  unfold iN stepN
  rw [List.pairwise_map]
  exact List.Pairwise.imp (fun h => by omega) (List.Pairwise.filter _ List.pairwise_lt_range)
theorem step_few (n : Nat) (r : Row) (met : List Nat) : (stepN n r met).length ≤ n ∧ ∀ k ∈ stepN n r met, k < n := by
  refine ⟨?_, fun k hk => List.mem_range.mp (List.mem_filter.mp hk).1⟩
  have := List.length_filter_le (fun k => decide (k ∈ met ++ met.map (toN r))) (List.range n)
  rw [List.length_range] at this
  exact this
/-- what sorted(set(..)) gives is that -/
theorem step_is {n : Nat} {r : Row} {met : List Nat} {ns : List Int} (up : ns.Pairwise (· < ·)) (h : ∀ k, k ∈ ns ↔ k ∈ iN (met ++ met.map (toN r))) (hm : ∀ x ∈ met ++ met.map (toN r), x < n) : ns = iN (stepN n r met) := by
  refine rise_one up (step_rise n r met) fun k => ?_
  rw [h k]
  unfold iN stepN
  simp only [List.mem_map, List.mem_filter, List.mem_range, decide_eq_true_eq]
  exact ⟨fun ⟨x, hx, e⟩ => ⟨x, ⟨hm x hx, hx⟩, e⟩, fun ⟨x, hx, e⟩ => ⟨x, hx.2, e⟩⟩
theorem natV_map (l : List Nat) (f : Nat → Nat) : (l.map f).map (fun n : Nat => V.int (n : Int)) = natV (l.map f) := rfl
def partN (t : Tab) (m : List Nat) (k : Nat) : List Nat := (t.take k).foldl (fun m e => stepN (sizeT t) e.2 m) m
theorem part_next {t : Tab} {m : List Nat} {k : Nat} {e : Str × Row} (h : t[k]? = some e) : partN t m (k + 1) = stepN (sizeT t) e.2 (partN t m k) := by
  unfold partN
  rw [take_one h, List.foldl_append]
  rfl
theorem part_all (t : Tab) (m : List Nat) : partN t m t.length = roundN t m := by
  unfold partN roundN
  rw [List.take_length]
theorem DictV.keep {H H' : Hp} {v : V} {t : Tab} (h : DictV H v t) (e : Same H H') : DictV H' v t := by
  obtain ⟨d, kvs, e1, e2, e3, e4⟩ := h
  exact ⟨d, kvs, e1, e _ _ e2, e3.mono (tups_of e), e4⟩
section
variable {P : Program} {w : World} {K : PySem.W.Frag} {mg : Str → Option Value} {base : Heap} {C : Addr}
end
end Tm

/-! Done and gone. -/
namespace Tm
open PySem PySem.Spec PyProof.Rows L2
local macro_rules | `(tactic| walk_at "x") => `(tactic| dsimp only [tNext, tRet, tSeq, tCall, tCB, tC, tCons, tNil, tAsg, tDrop, sFld])
/-- one operation more: the state, what was told -/
def stepG (t : Tab) (st : Nat × List Int) (x : Str) : Nat × List Int := match t.find? fun e => decide (e.1 = x) with
  | some e => match e.2[st.1]? with
    | some p => (p.1.toNat, st.2 ++ [p.2])
    | none => st
  | none => st
def goneN (t : Tab) (s : Nat) (ns : List Str) : Nat × List Int := ns.foldl (stepG t) (s, [])
theorem gone_next {t : Tab} {s i : Nat} {ns : List Str} {x : Str} (h : ns[i]? = some x) : goneN t s (ns.take (i + 1)) = stepG t (goneN t s (ns.take i)) x := by
  unfold goneN
  rw [take_one h, List.foldl_append]
  rfl
theorem step_at {t : Tab} (ok : okTab t = true) {x : Str} (hx : x ∈ namesT t) {s : Nat} (hs : s < sizeT t) (told : List Int) :
    ∃ (r : Row) (p : Int × Int), (x, r) ∈ t ∧ r[s]? = some p ∧ stepG t (s, told) x = (p.1.toNat, told ++ [p.2]) ∧ 0 ≤ p.1 ∧ p.1.toNat < sizeT t := by
  obtain ⟨e0, h0, ee⟩ := List.mem_map.mp hx
  cases hf : t.find? fun e => decide (e.1 = x) with
  | none => exact absurd (decide_eq_true ee) (by simpa using List.find?_eq_none.mp hf e0 h0)
  | some e =>
    have hm := List.mem_of_find?_eq_some hf
    have e1 : e.1 = x := of_decide_eq_true (List.find?_some (p := fun e : Str × Row => decide (e.1 = x)) hf)
    obtain ⟨p, hp, p0, p1⟩ := next_ok ok hm hs
    refine ⟨e.2, p, by rw [← e1]; exact hm, hp, ?_, p0, by omega⟩
    unfold stepG
    rw [hf]
    dsimp only
    rw [hp]
section
variable {P : Program} {w : World} {K : PySem.W.Frag} {mg : Str → Option Value} {base : Heap} {C : Addr}
/-- [state, told] -/
def EndV (H : Hp) (v : V) (g : Nat × List Int) : Prop := ∃ p l, v = .ref p ∧ H p = some (.lst [.int (g.1 : Int), .ref l]) ∧ H l = some (.lst (g.2.map V.int))
theorem KindV.keep {H H' : Hp} {v : V} {t : Tab} (h : KindV C H v t) (e : Same H H') : KindV C H' v t := by
  obtain ⟨a, dx, d, kvs, e1, e2, e3, e4, e5⟩ := h
  exact ⟨a, dx, d, kvs, e1, e _ _ e2, e _ _ e3, e4.mono (tups_of e), e5⟩
/-! ### a choice of a list -/
end
end Tm

/-! What is reached: the loop of reached and the rounds of _law_states_from give the same, for any table. -/
namespace Tm
open PySem PySem.Spec PyProof.Rows L2
/-- closed under all operations -/
def ClosedN (t : Tab) (S : Nat → Prop) : Prop := ∀ x, S x → ∀ e ∈ t, S (toN e.2 x)
inductive ReachN (t : Tab) (s : Nat) : Nat → Prop where
  | start : ReachN t s s
  | step {x : Nat} (e : Str × Row) (h : ReachN t s x) (he : e ∈ t) : ReachN t s (toN e.2 x)
theorem reach_least {t : Tab} {s : Nat} {S : Nat → Prop} (h0 : S s) (hc : ClosedN t S) : ∀ x, ReachN t s x → S x := fun x h => by
  induction h with
  | start => exact h0
  | step e _ he ih => exact hc _ ih e he
theorem next_mem {t : Tab} {x y : Nat} : y ∈ nextN t x ↔ ∃ e ∈ t, y = toN e.2 x := by
  unfold nextN toN
  rw [List.mem_map]
  constructor
  · rintro ⟨e, he, rfl⟩
    exact ⟨e, he, rfl⟩
  · rintro ⟨e, he, rfl⟩
    exact ⟨e, he, rfl⟩
theorem toN_lt {t : Tab} (ok : okTab t = true) {e : Str × Row} (he : e ∈ t) {x : Nat} (hx : x < sizeT t) : toN e.2 x < sizeT t := by
  obtain ⟨p, hp, p0, p1⟩ := next_ok ok he hx
  unfold toN
  rw [hp]
  show p.1.toNat < sizeT t
  omega
/-! ### the loop -/
theorem runR_end {t : Tab} (ok : okTab t = true) {s : Nat} : ∀ (n : Nat) (met w : List Nat), w.length + 6 * (sizeT t - met.length) ≤ n → met.Nodup → (∀ x ∈ met, x < sizeT t) → (∀ x ∈ w, x < sizeT t) →
    (∀ x ∈ met, ReachN t s x) → (∀ x ∈ w, ReachN t s x) → (∀ x ∈ met, ∀ e ∈ t, toN e.2 x ∈ met ∨ toN e.2 x ∈ w) → (s ∈ met ∨ s ∈ w) →
    ∃ out, runR t n met w = some out ∧ out.Nodup ∧ (∀ x, x ∈ out ↔ ReachN t s x) ∧ out.length ≤ sizeT t := by
  have hk : t.length ≤ 6 := by
    have := ok
    unfold okTab at this
    simp only [Bool.and_eq_true, decide_eq_true_eq] at this
    exact this.1.1.1.2
  have few : ∀ met : List Nat, met.Nodup → (∀ x ∈ met, x < sizeT t) → met.length ≤ sizeT t := fun met nd h => by
    have := List.Nodup.length_le_of_subset nd (l₂ := List.range (sizeT t)) fun x hx => List.mem_range.mpr (h x hx)
    rwa [List.length_range] at this
  have done : ∀ met : List Nat, met.Nodup → (∀ x ∈ met, x < sizeT t) → (∀ x ∈ met, ReachN t s x) → (∀ x ∈ met, ∀ e ∈ t, toN e.2 x ∈ met ∨ toN e.2 x ∈ ([] : List Nat)) → (s ∈ met ∨ s ∈ ([] : List Nat)) →
      met.Nodup ∧ (∀ x, x ∈ met ↔ ReachN t s x) ∧ met.length ≤ sizeT t := fun met nd h1 h2 h3 h4 => by
    refine ⟨nd, fun x => ⟨h2 x, fun hx => ?_⟩, few met nd h1⟩
    refine reach_least (S := fun x => x ∈ met) (h4.elim id fun z => absurd z (by simp)) (fun y hy e he => (h3 y hy e he).elim id fun z => absurd z (by simp)) x hx
  intro n
  induction n with
  | zero =>
    intro met w hn nd m1 w1 m2 w2 cl st
    have hw : w = [] := by
      cases w with
      | nil => rfl
      | cons a b => simp at hn
    subst hw
    exact ⟨met, rfl, done met nd m1 m2 cl st⟩
  | succ n ih =>
    intro met w hn nd m1 w1 m2 w2 cl st
    cases hl : w.getLast? with
    | none =>
      have hw : w = [] := List.getLast?_eq_none_iff.mp hl
      subst hw
      refine ⟨met, ?_, done met nd m1 m2 cl st⟩
      unfold runR
      rfl
    | some h =>
      obtain ⟨w', hw⟩ : ∃ w', w = w' ++ [h] := by
        have := List.getLast?_eq_some_iff.mp hl
        exact this
      subst hw
      have e1 : runR t (n + 1) met (w' ++ [h]) = if h ∈ met then runR t n met w' else runR t n (met ++ [h]) (w' ++ nextN t h) := by
        rw [runR, hl]
        simp
      rw [e1]
      have hh := w1 h (by simp)
      by_cases hm : h ∈ met
      · rw [if_pos hm]
        refine ih met w' (by rw [List.length_append] at hn; simp at hn; omega) nd m1 (fun x hx => w1 x (by simp [hx])) m2 (fun x hx => w2 x (by simp [hx])) (fun x hx e he => ?_) ?_
        · rcases cl x hx e he with z | z
          · exact .inl z
          · rcases List.mem_append.mp z with z | z
            · exact .inr z
            · rw [List.mem_singleton.mp z]
              exact .inl hm
        · rcases st with z | z
          · exact .inl z
          · rcases List.mem_append.mp z with z | z
            · exact .inr z
            · rw [List.mem_singleton.mp z]
              exact .inl hm
      · rw [if_neg hm]
        have nd' : (met ++ [h]).Nodup := by
          rw [List.nodup_append]
          refine ⟨nd, by simp, fun a ha b hb => ?_⟩
          rw [List.mem_singleton.mp hb]
          intro z
          rw [z] at ha
          exact hm ha
        have m1' : ∀ x ∈ met ++ [h], x < sizeT t := fun x hx => by
          rcases List.mem_append.mp hx with z | z
          · exact m1 x z
          · rw [List.mem_singleton.mp z]
            exact hh
        have l1 := few _ nd' m1'
        have l2 : (nextN t h).length = t.length := by
          unfold nextN
          rw [List.length_map]
        refine ih (met ++ [h]) (w' ++ nextN t h) ?_ nd' m1' (fun x hx => ?_) (fun x hx => ?_) (fun x hx => ?_) (fun x hx e he => ?_) ?_
        · rw [List.length_append, List.length_append, l2]
          rw [List.length_append] at hn l1
          simp at hn l1 ⊢
          omega
        · rcases List.mem_append.mp hx with z | z
          · exact w1 x (by simp [z])
          · obtain ⟨e, he, rfl⟩ := next_mem.mp z
            exact toN_lt ok he hh
        · rcases List.mem_append.mp hx with z | z
          · exact m2 x z
          · rw [List.mem_singleton.mp z]
            exact w2 h (by simp)
        · rcases List.mem_append.mp hx with z | z
          · exact w2 x (by simp [z])
          · obtain ⟨e, he, rfl⟩ := next_mem.mp z
            exact .step e (w2 h (by simp)) he
        · rcases List.mem_append.mp hx with z | z
          · rcases cl x z e he with z2 | z2
            · exact .inl (by simp [z2])
            · rcases List.mem_append.mp z2 with z3 | z3
              · exact .inr (by simp [z3])
              · exact .inl (by simp [List.mem_singleton.mp z3])
          · rw [List.mem_singleton.mp z]
            exact .inr (List.mem_append_right _ (next_mem.mpr ⟨e, he, rfl⟩))
        · rcases st with z | z
          · exact .inl (by simp [z])
          · rcases List.mem_append.mp z with z | z
            · exact .inr (by simp [z])
            · exact .inl (by simp [List.mem_singleton.mp z])
theorem runR_ok {t : Tab} (ok : okTab t = true) {s : Nat} (hs : s < sizeT t) : ∃ out, runR t 100 [] [s] = some out ∧ out.Nodup ∧ (∀ x, x ∈ out ↔ ReachN t s x) ∧ out.length ≤ sizeT t := by
  have h12 : sizeT t ≤ 12 := by
    have := ok
    unfold okTab at this
    simp only [Bool.and_eq_true, decide_eq_true_eq] at this
    exact this.1.2
  exact runR_end ok 100 [] [s] (by show 1 + 6 * (sizeT t - 0) ≤ 100; omega) .nil (fun _ h => nomatch h) (fun x hx => by rw [List.mem_singleton.mp hx]; exact hs) (fun _ h => nomatch h) (fun x hx => by rw [List.mem_singleton.mp hx]; exact .start) (fun _ h => nomatch h) (.inr List.mem_cons_self)
/-! ### the rounds -/
theorem step_has {n k : Nat} {r : Row} {m : List Nat} : k ∈ stepN n r m ↔ k < n ∧ (k ∈ m ∨ ∃ x ∈ m, toN r x = k) := by
  unfold stepN
  rw [List.mem_filter, List.mem_range, decide_eq_true_eq, List.mem_append, List.mem_map]
theorem fold_keep {n k : Nat} (hk : k < n) : ∀ (es : List (Str × Row)) (m : List Nat), k ∈ m → k ∈ es.foldl (fun m e => stepN n e.2 m) m
  | [], _, h => h
  | e :: es, m, h => fold_keep hk es _ (step_has.mpr ⟨hk, .inl h⟩)
theorem fold_add {n x : Nat} (hx : x < n) : ∀ (es : List (Str × Row)) (m : List Nat), x ∈ m → ∀ e ∈ es, toN e.2 x < n → toN e.2 x ∈ es.foldl (fun m e => stepN n e.2 m) m
  | [], _, _, e, he, _ => nomatch he
  | d :: es, m, h, e, he, hn => by
    rcases List.mem_cons.mp he with z | z
    · rw [z] at hn ⊢
      exact fold_keep hn es _ (step_has.mpr ⟨hn, .inr ⟨x, h, rfl⟩⟩)
    · exact fold_add hx es _ (step_has.mpr ⟨hx, .inl h⟩) e z hn
theorem fold_only {t : Tab} {s n : Nat} : ∀ (es : List (Str × Row)) (m : List Nat), (∀ e ∈ es, e ∈ t) → (∀ x ∈ m, ReachN t s x) → ∀ x ∈ es.foldl (fun m e => stepN n e.2 m) m, ReachN t s x
  | [], _, _, h => h
  | e :: es, m, ht, h => fold_only es _ (fun d hd => ht d (by simp [hd])) fun x hx => by
    rcases (step_has.mp hx).2 with z | ⟨y, hy, rfl⟩
    · exact h x z
    · exact .step e (h y hy) (ht e (by simp))
theorem fold_nice {n : Nat} : ∀ (es : List (Str × Row)) (m : List Nat), m.Nodup → (∀ x ∈ m, x < n) → (es.foldl (fun m e => stepN n e.2 m) m).Nodup ∧ ∀ x ∈ es.foldl (fun m e => stepN n e.2 m) m, x < n
  | [], _, nd, h => ⟨nd, h⟩
  | e :: es, m, _, _ => fold_nice es _ (List.Pairwise.filter _ List.nodup_range) fun x hx => (step_has.mp hx).1
theorem sub_back {A B : List Nat} (nA : A.Nodup) (h : ∀ x ∈ A, x ∈ B) (hl : B.length ≤ A.length) (nB : B.Nodup) : ∀ x ∈ B, x ∈ A := fun x hx => by
  by_cases hA : x ∈ A
  · exact hA
  · have := List.Nodup.length_le_of_subset (l₁ := x :: A) (l₂ := B) (List.nodup_cons.mpr ⟨hA, nA⟩) fun y hy => by
      rcases List.mem_cons.mp hy with z | z
      · rw [z]
        exact hx
      · exact h y z
    rw [List.length_cons] at this
    omega
theorem walk_facts {t : Tab} {s : Nat} (hs : s < sizeT t) : ∀ i, (walkN t s i).Nodup ∧ (∀ x ∈ walkN t s i, x < sizeT t) ∧ (∀ x ∈ walkN t s i, ReachN t s x) ∧ s ∈ walkN t s i
  | 0 => ⟨by simp [walkN], fun x hx => by rw [List.mem_singleton.mp hx]; exact hs, fun x hx => by rw [List.mem_singleton.mp hx]; exact .start, List.mem_cons_self⟩
  | i + 1 => by
    obtain ⟨h1, h2, h3, h4⟩ := walk_facts hs i
    obtain ⟨g1, g2⟩ := fold_nice (n := sizeT t) t _ h1 h2
    exact ⟨g1, g2, fold_only t _ (fun _ h => h) h3, fold_keep hs t _ h4⟩
theorem walk_grows {t : Tab} (ok : okTab t = true) {s : Nat} (hs : s < sizeT t) : ∀ i, (∃ j, j ≤ i ∧ ClosedN t fun x => x ∈ walkN t s j) ∨ i + 1 ≤ (walkN t s i).length
  | 0 => .inr (Nat.le_refl _)
  | i + 1 => by
    rcases walk_grows ok hs i with ⟨j, hj, c⟩ | h
    · exact .inl ⟨j, by omega, c⟩
    · obtain ⟨h1, h2, h3, h4⟩ := walk_facts hs i
      obtain ⟨g1, g2, g3, g4⟩ := walk_facts hs (i + 1)
      have up : ∀ x ∈ walkN t s i, x ∈ walkN t s (i + 1) := fun x hx => fold_keep (h2 x hx) t _ hx
      by_cases hl : (walkN t s (i + 1)).length ≤ (walkN t s i).length
      · refine .inl ⟨i, by omega, fun x hx e he => ?_⟩
        exact sub_back h1 up hl g1 _ (fold_add (h2 x hx) t _ hx e he (toN_lt ok he (h2 x hx)))
      · exact .inr (by omega)
theorem walk_all {t : Tab} (ok : okTab t = true) {s : Nat} (hs : s < sizeT t) : ∀ x, x ∈ walkN t s (sizeT t) ↔ ReachN t s x := by
  obtain ⟨h1, h2, h3, h4⟩ := walk_facts hs (sizeT t)
  have few : (walkN t s (sizeT t)).length ≤ sizeT t := by
    have := List.Nodup.length_le_of_subset h1 (l₂ := List.range (sizeT t)) fun x hx => List.mem_range.mpr (h2 x hx)
    rwa [List.length_range] at this
  have later : ∀ j d, ∀ x ∈ walkN t s j, x ∈ walkN t s (j + d) := fun j d => by
    induction d with
    | zero => exact fun x hx => hx
    | succ d ih => exact fun x hx => fold_keep ((walk_facts hs (j + d)).2.1 x (ih x hx)) t _ (ih x hx)
  intro x
  refine ⟨h3 x, fun hx => ?_⟩
  rcases walk_grows ok hs (sizeT t) with ⟨j, hj, c⟩ | h
  · have := reach_least (S := fun x => x ∈ walkN t s j) (walk_facts hs j).2.2.2 c x hx
    have := later j (sizeT t - j) x this
    rwa [show j + (sizeT t - j) = sizeT t by omega] at this
  · omega
theorem walk_up {t : Tab} (ok : okTab t = true) {s : Nat} (hs : s < sizeT t) : (iN (walkN t s (sizeT t))).Pairwise (· < ·) := by
  have h1 : 1 ≤ sizeT t := by omega
  obtain ⟨k, hk⟩ : ∃ k, sizeT t = k + 1 := ⟨sizeT t - 1, by omega⟩
  have ht : t ≠ [] := fun z => by
    rw [z] at h1
    simp [sizeT] at h1
  rw [hk]
  have : ∀ (es : List (Str × Row)) (m : List Nat) (n : Nat), es ≠ [] → (iN (es.foldl (fun m e => stepN n e.2 m) m)).Pairwise (· < ·) := by
    intro es
    induction es with
    | nil => exact fun _ _ z => absurd rfl z
    | cons e es ih =>
      intro m n _
      cases es with
      | nil => exact step_rise n e.2 m
      | cons d es => exact ih _ n (by simp)
  exact this t _ _ ht
/-- what reached tells is what the rounds give -/
theorem reached_is {t : Tab} (ok : okTab t = true) {s : Nat} (hs : s < sizeT t) {out : List Nat} (nd : out.Nodup) (h : ∀ x, x ∈ out ↔ ReachN t s x) {ns : List Int} (p : ns.Perm (iN out)) (up : ns.Pairwise (· ≤ ·)) : ns = iN (walkN t s (sizeT t)) := by
  have nn : ns.Nodup := by
    refine p.symm.nodup ?_
    unfold iN
    exact List.pairwise_map.mpr (nd.imp fun h e => h (by omega))
  have up2 : ns.Pairwise (· < ·) := by
    refine (up.and nn).imp ?_
    intro a b ⟨h1, h2⟩
    omega
  refine rise_one up2 (walk_up ok hs) fun k => ?_
  rw [p.mem_iff]
  unfold iN
  rw [List.mem_map, List.mem_map]
  exact ⟨fun ⟨x, hx, e⟩ => ⟨x, (walk_all ok hs x).mpr ((h x).mp hx), e⟩, fun ⟨x, hx, e⟩ => ⟨x, (h x).mpr ((walk_all ok hs x).mp hx), e⟩⟩
end Tm

/-! _law_states_from of a dict in any order. -/
namespace Tm
open PySem PySem.Spec PyProof.Rows L2
local macro_rules | `(tactic| walk_at "x") => `(tactic| dsimp only [tNext, tRet, tSeq, tCall, tCB, tC, tCons, tNil, tAsg, tDrop, sFld])
section
variable {P : Program} {w : World} {K : PySem.W.Frag} {mg : Str → Option Value} {base : Heap} {C : Addr}
def sp_statesG : Sp := fun vs H Q _ => ∃ (v : V) (t u : Tab) (s : Nat), vs = [v, .int (s : Int)] ∧ DictV H v t ∧ u.Perm t ∧ sortedS (namesT u) = true ∧ s < sizeT t ∧ ∀ p H', Same H H' → H' p = some (.tup (natV (walkN u s (sizeT u)))) → Q (.ref p) H'
end
end Tm

/-! _law_choices: some items of a list, in a drawn order. -/
namespace Tm
open PySem PySem.Spec PyProof.Rows L2
local macro_rules | `(tactic| walk_at "x") => `(tactic| dsimp only [tNext, tRet, tSeq, tCall, tCB, tC, tCons, tNil, tAsg, tDrop, sFld])
theorem erase_perm {α : Type} : ∀ {l : List α} {i : Nat} (h : i < l.length), (l[i] :: l.eraseIdx i).Perm l
  | a :: l, 0, _ => .refl _
  | a :: l, i + 1, h => (List.Perm.swap a (l[i]'(by simpa using h)) (l.eraseIdx i)).trans (.cons a (erase_perm (by simpa using h)))
section
variable {P : Program} {w : World} {K : PySem.W.Frag} {mg : Str → Option Value} {base : Heap}
end
end Tm

/-! General: sorted lists are one, tables are one, data; what the fresh dict of items wants. -/
namespace Tm
open PySem PySem.Spec PyProof.Rows L2
theorem tab_one : ∀ {t' t : Tab}, t'.Perm t → namesT t' = namesT t → (namesT t).Nodup → t' = t
  | [], t, p, _, _ => (List.nil_perm.mp p).symm ▸ rfl
  | x :: r, [], p, _, _ => absurd p.length_eq (by simp)
  | x :: r, y :: s, p, e, nd => by
    have e1 : x.1 = y.1 ∧ namesT r = namesT s := by
      have e2 : x.1 :: namesT r = y.1 :: namesT s := e
      exact List.cons.inj e2
    have nd2 : y.1 ∉ namesT s ∧ (namesT s).Nodup := List.nodup_cons.mp nd
    have exy : x = y := by
      rcases List.mem_cons.mp (p.mem_iff.mp List.mem_cons_self) with z | z
      · exact z
      · exact absurd (e1.1 ▸ List.mem_map.mpr ⟨x, z, rfl⟩) nd2.1
    subst exy
    rw [tab_one ((List.perm_cons x).mp p) e1.2 nd2.2]
theorem tab_same {t' t : Tab} (p : t'.Perm t) (s1 : sortedS (namesT t') = true) (s2 : sortedS (namesT t) = true) (nd : (namesT t).Nodup) : t' = t := tab_one p (sorted_one (p.map _) s1 s2) nd
abbrev goodT (t : Tab) : Prop := sortedS (namesT t) = true ∧ (namesT t).Nodup
theorem can_all : ∀ {ds : List PyData}, (∀ d ∈ ds, PyData.canLay0 d = true) → PyData.canLayAll0 ds = true
  | [], _ => rfl
  | d :: r, h => by
    show (PyData.canLay0 d && PyData.canLayAll0 r) = true
    rw [h d List.mem_cons_self, can_all fun x hx => h x (List.mem_cons_of_mem _ hx)]
    rfl
theorem depth_all {n : Nat} : ∀ {ds : List PyData}, (∀ d ∈ ds, PyData.depth d ≤ n) → PyData.depthAll ds ≤ n
  | [], _ => Nat.zero_le _
  | d :: r, h => Nat.max_le.mpr ⟨h d List.mem_cons_self, depth_all fun x hx => h x (List.mem_cons_of_mem _ hx)⟩
theorem eqv_all : ∀ {ds : List PyData}, (∀ d ∈ ds, PyData.eqv d d = true) → PyData.eqvAll ds ds = true
  | [], _ => rfl
  | d :: r, h => by
    show (PyData.eqv d d && PyData.eqvAll r r) = true
    rw [h d List.mem_cons_self, eqv_all fun x hx => h x (List.mem_cons_of_mem _ hx)]
    rfl
structure Nice (n : Nat) (d : PyData) : Prop where
  can : PyData.canLay0 d = true
  deep : PyData.depth d ≤ n
  eqv : PyData.eqv d d = true
theorem Nice.shaped {n : Nat} {d : PyData} (h : Nice n d) (hn : n ≤ 64) : SeqAt.shaped d = true := by
  unfold SeqAt.shaped
  rw [h.can, decide_eq_true (Nat.le_trans h.deep hn)]
  rfl
theorem Nice.list {n : Nat} {ds : List PyData} (h : ∀ d ∈ ds, Nice n d) : Nice (n + 1) (.list ds) :=
  ⟨can_all fun d hd => (h d hd).can, Nat.succ_le_succ (depth_all fun d hd => (h d hd).deep), eqv_all fun d hd => (h d hd).eqv⟩
theorem Nice.tuple {n : Nat} {ds : List PyData} (h : ∀ d ∈ ds, Nice n d) : Nice (n + 1) (.tuple ds) :=
  ⟨can_all fun d hd => (h d hd).can, Nat.succ_le_succ (depth_all fun d hd => (h d hd).deep), eqv_all fun d hd => (h d hd).eqv⟩
theorem nice_int (i : Int) : Nice 0 (.int i) := ⟨rfl, Nat.le_refl _, beq_self_eq_true i⟩
theorem nice_str {x : Str} (h : PyData.strOk x = true) : Nice 0 (.str x) := ⟨h, Nat.le_refl _, beq_self_eq_true x⟩
theorem nice_strs {xs : List Str} (h : xs.all PyData.strOk = true) : Nice 1 (.list (xs.map .str)) := .list fun d hd => by
  obtain ⟨x, hx, rfl⟩ := List.mem_map.mp hd
  exact nice_str (List.all_eq_true.mp h x hx)
theorem nice_ints (xs : List Int) : Nice 1 (.tuple (xs.map .int)) := .tuple fun d hd => by
  obtain ⟨x, _, rfl⟩ := List.mem_map.mp hd
  exact nice_int x
theorem nice_tups (xs : List (List Int)) : Nice 2 (.list (xs.map fun l => .tuple (l.map .int))) := .list fun d hd => by
  obtain ⟨x, _, rfl⟩ := List.mem_map.mp hd
  exact nice_ints x
section
variable {K : PySem.W.Frag} {H : Hp}
theorem dp_strs : ∀ xs : List Str, DpAll K H (xs.map V.str) (xs.map PyData.str)
  | [] => .nil
  | x :: r => .cons (.str x) (dp_strs r)
theorem dp_ints : ∀ xs : List Int, DpAll K H (xs.map V.int) (xs.map PyData.int)
  | [] => .nil
  | x :: r => .cons (.int x) (dp_ints r)
theorem dp_tups : ∀ {vs : List V} {ls : List (List Int)}, Paired (fun v l => ∃ a, v = .ref a ∧ SqT K H a (l.map V.int)) vs ls → DpAll K H vs (ls.map fun l => .tuple (l.map .int))
  | _, _, .nil => .nil
  | _, _, .cons ⟨a, e, h⟩ t => by
    subst e
    exact .cons (.tup h (dp_ints _)) (dp_tups t)
theorem dp_rowL {p : Addr} {vs : List V} {r : Row} (h : SqL K H p vs) (hp : Paired (PairV H) vs r) : Dp K H (.ref p) (.list (r.map pD)) := .lst h (dp_pairs hp)
end
theorem nice_pairs (r : Row) : Nice 2 (.list (r.map pD)) := .list fun d hd => by
  obtain ⟨x, _, rfl⟩ := List.mem_map.mp hd
  exact .tuple fun d hd => by
    rcases List.mem_cons.mp hd with e | e
    · rw [e]; exact nice_int _
    · rw [List.mem_singleton.mp e]; exact nice_int _
theorem row_range (r : Row) : (List.range r.length).map (fun s => r.getD s (0, 0)) = r := by
  refine List.ext_getElem? fun i => ?_
  rw [List.getElem?_map]
  by_cases h : i < r.length
  · rw [List.getElem?_range h, Option.map_some, List.getD_eq_getElem?_getD, List.getElem?_eq_getElem h]
    rfl
  · rw [List.getElem?_eq_none (by rw [List.length_range]; omega), List.getElem?_eq_none (by omega)]
    rfl
theorem lc_pairs {K : PySem.W.Frag} {σ : L2.St} {H : Hp} {Q : VK} {j k : Nat} {te : TE} {vs : List Nat} {tl : TE} {rs : List V} {r : Row} (hl : Ev tl σ H fun v H1 => ∃ a, v = .ref a ∧ SqT K H1 a rs) (hrs : Paired (PairV H) rs r) (hz : r.length ≤ 100000)
    (hw : ∀ x y, wipe (((wipe σ vs).set j (some x)).set k (some y)) vs = wipe σ vs) (R : Int × Int → V → Hp → Prop) (hR : ∀ z v H H', TupS H H' → R z v H → R z v H')
    (he : ∀ z H3, z ∈ r → Same H H3 → Ev te (((wipe σ vs).set j (some (.int z.1))).set k (some (.int z.2))) H3 (R z))
    (hq : ∀ p H1 ys, Same H H1 → H1 p = some (.lst ys) → Paired (fun v z => R z v H1) ys r → Q (.ref p) H1) : tLc (iTup K tl) (gTup K 2 (gCons (gName j) (gCons (gName k) gNil))) tYes te vs σ H Q := by
  refine hl _ fun v H1 e h => ?_
  obtain ⟨a, ea, hs'⟩ := h
  have hlen := Paired.length hrs
  refine ⟨a, ea, ⟨rs, hs'⟩, lc_go (Q := Q) (walk_tup) r (fun _ => true) R hlen.symm (by omega) hR (fun H2 e2 => same_seqT e2 hs') (fun i z x H2 H' hz e2 y Qg qg => ?_) (fun p H2 ys hp e2 hl hP => hq p H2 ys (e.trans e2) hl (by rw [filter_all] at hP; exact hP))⟩
  obtain ⟨rfl, y⟩ := y
  obtain ⟨z', hz', hpz⟩ := paired_ix2 hrs y
  obtain rfl : z' = z := by rw [hz] at hz'; exact (Option.some.inj hz').symm
  obtain ⟨pc, rfl, hpc⟩ := hpz.mono (tups_of (e.trans e2))
  refine ⟨pc, _, rfl, SqT.of hpc, rfl, _, _, rfl, ?_⟩
  dsimp only [gName]
  refine ⟨_, _, rfl, ?_⟩
  dsimp only [gName]
  refine ⟨rfl, ?_⟩
  exact qg _ _ (hw _ _) (Same.refl _) evt_yes fun _ H3 e3 => he _ H3 (List.mem_of_getElem? hz) ((e.trans e2).trans e3)
theorem paired_fun {α : Type} {f : α → V} : ∀ {ys : List V} {zs : List α}, Paired (fun v z => v = f z) ys zs → ys = zs.map f
  | _, _, .nil => rfl
  | _, _, .cons h t => by rw [h, paired_fun t]; rfl
theorem dp_nil {K : PySem.W.Frag} {H : Hp} {p : Addr} (h : H p = some (.lst [])) : Dp K H (.ref p) (.list []) := .lst (SqL.of h) .nil
theorem same_self (t : Tab) : sameT t t = true := by
  unfold sameT
  rw [decide_eq_true rfl, Bool.true_and, List.all_eq_true]
  exact fun e he => decide_eq_true he
theorem same_perm {t u : Tab} (p : t.Perm u) : sameT u t = true := by
  unfold sameT
  rw [decide_eq_true p.length_eq.symm, Bool.true_and, List.all_eq_true]
  exact fun e he => decide_eq_true (p.mem_iff.mpr he)
theorem same_seqL {K : PySem.W.Frag} {H H' : Hp} {a : Addr} {xs : List V} (e : Same H H') (h : SqL K H a xs) : SqL K H' a xs := by
  rcases h with (h | ⟨o, h⟩) | h
  · exact .inl (.inl (e _ _ h))
  · exact .inl (.inr ⟨o, e _ _ h⟩)
  · exact .inr h
theorem paired_mem {α β : Type} {F : α → β → Prop} : ∀ {xs : List α} {zs : List β}, Paired F xs zs → ∀ x ∈ xs, ∃ z ∈ zs, F x z
  | _, _, .nil, _, h => nomatch h
  | _, _, .cons h t, x, hx => by
    rcases List.mem_cons.mp hx with e | e
    · exact ⟨_, List.mem_cons_self, e ▸ h⟩
    · obtain ⟨z, hz, f⟩ := paired_mem t x e
      exact ⟨z, List.mem_cons_of_mem _ hz, f⟩
theorem same_kl {l : Addr} {H0 H2 H3 : Hp} (e : Same H0 H2) (hl : H0 l = none) (k : KL l H2 H3) : Same H0 H3 := fun b o hb => k.1 b o (e b o hb) fun z => by rw [z, hl] at hb; cases hb
theorem VatV.keep {H H' : Hp} {l : Addr} (h : VatV H l) (e : Same H H') : VatV H' l := by
  obtain ⟨x, y, z, h⟩ := h
  exact ⟨x, y, z, e _ _ h⟩
theorem nice_up {n m : Nat} {d : PyData} (h : Nice n d) (e : n ≤ m) : Nice m d := ⟨h.can, Nat.le_trans h.deep e, h.eqv⟩
theorem pair_ok : ∀ p : Int × Int, SeqAt.shaped (pD p) = true ∧ PyData.eqv (pD p) (pD p) = true := fun p => ⟨rfl, by rw [eqv_pD]; exact decide_eq_true rfl⟩
theorem g_flag : goodT flagT := by decide +kernel
section
variable {σ : L2.St} {H : Hp} {C : Addr} {te te1 te2 : TE} {t t1 t2 : Tab} {E : XK}
theorem ev_made {n lo hi : Nat} {T : Nat → Tab} (h : lo ≤ n ∧ n ≤ hi) (good : goodT (T n)) : Ev (tCall (sp_made C lo hi T) [] E (tCons (tC (.int (n : Int))) tNil)) σ H fun v H1 => KindV C H1 v (T n) := fun Q q => by
  refine ⟨n, rfl, h.1, h.2, fun k H1 t' e1 hk pm => ?_⟩
  have et : t' = T n := by
    obtain ⟨_, _, _, _, _, _, _, _, _, _, st⟩ := id hk
    exact tab_same pm st good.1 good.2
  subst et
  exact q _ _ e1 hk
theorem ev_eqK {neg : Bool} (h1 : Ev te1 σ H fun v H1 => KindV C H1 v t1) (h2 : ∀ H1, Same H H1 → Ev te2 σ H1 fun v H2 => KindV C H2 v t2) : Ev (tOp (rEqO C (sp_keq C) neg) te1 te2) σ H fun v _ => v = .bl (if neg then !sameT t1 t2 else sameT t1 t2) := fun Q q =>
  h1 _ fun v1 H1 e1 k1 => h2 H1 e1 _ fun v2 H2 e2 k2 => by
    have k1' := k1.keep e2
    obtain ⟨a, dx, d, kvs, rfl, ha, _⟩ := id k1'
    obtain ⟨b, dy, d2, kvs2, rfl, hb, _⟩ := id k2
    exact ⟨a, b, dx, dy, _, _, rfl, rfl, ha, hb, _, _, _, _, rfl, k1', k2, _, rfl, q _ _ (e1.trans e2) rfl⟩
theorem ev_opsrow {x : Str} {r : Row} (h : Ev te σ H fun v H1 => KindV C H1 v t) (hm : (x, r) ∈ t) (nd : (namesT t).Nodup) : Ev (tDGet (tProp C (sp_ops C) [] E te) (tC (.str x))) σ H fun v H1 => RowV H1 v r := fun Q q =>
  h _ fun v H1 e1 k1 => by
    obtain ⟨a, dx, d, kvs, rfl, ha, _⟩ := id k1
    refine ⟨a, dx, _, rfl, ha, .ref a, t, rfl, k1, fun p kv hp ht => ?_⟩
    have e2 := same_new (o := .dK kv) hp
    obtain ⟨rv, hv, hrow⟩ := tab_look ht nd hm
    have hg := DGet.k (k := Sum.inr x) (upd_same (H := H1) (a := p) (o := .dK kv))
    rw [hv] at hg
    exact ⟨p, rv, rfl, hg, q _ _ (e1.trans e2) (hrow.mono (tups_of e2))⟩
theorem ev_names (h : Ev te σ H fun v H1 => KindV C H1 v t) : Ev (tProp C (sp_names C) [] E te) σ H fun v H1 => ∃ p, v = .ref p ∧ H1 p = some (.tup ((namesT t).map V.str)) := fun Q q =>
  h _ fun v H1 e1 k1 => by
    obtain ⟨a, dx, d, kvs, rfl, ha, _⟩ := id k1
    exact ⟨a, dx, _, rfl, ha, .ref a, t, rfl, k1, fun p hp => q _ _ (e1.trans (same_new hp)) ⟨p, rfl, upd_same⟩⟩
end
/-! ### a fresh dict that is walked is locked for good -/
def tFrz (t : TE) : TE := fun σ H Q => t σ H fun x H1 => ∃ d u, x = .ref d ∧ H1 d = some u ∧ Mut (some u) ∧ ∀ od, Q x (upd H1 d (.frz od u))
theorem pe_frz {X : Cx} {e : Expr} {t : TE} (h : PE X e t) : PE X e (tFrz t) := by
  refine ⟨fun pins s σ H Q I hw => ?_⟩
  refine thn (h.run pins s σ H _ I hw) fun v s1 ⟨x, H1, I1, r, d, u, ex, hd, mu, q⟩ => ?_
  obtain ⟨od, I2⟩ := I1.lock hd mu
  exact ⟨x, _, I2, r, q od⟩
end Tm

/-! need_kind; Kind.silent, Kind.without. -/
namespace Tm
open PySem PySem.Spec PyProof.Rows L2
local macro_rules | `(tactic| walk_at "x") => `(tactic| dsimp only [tNext, tRet, tSeq, tCall, tCB, tC, tCons, tNil, tAsg, tDrop, sFld])
theorem piT {X : Cx} {K : PySem.W.Frag} {tg e : Expr} {te : TE} (he : PE X e te) (hK : X.K = K := by rfl) : PI X tg e (iTup K te) := by subst hK; exact pi_tup he
theorem piL {X : Cx} {K : PySem.W.Frag} {tg e : Expr} {te : TE} (he : PE X e te) (hK : X.K = K := by rfl) : PI X tg e (iList K te) := by subst hK; exact pi_list he
/-- a dict comprehension over the items of a locked table: a table again -/
theorem dc_tabI {K : PySem.W.Frag} {σ : L2.St} {H : Hp} {Q : VK} {i j : Nat} {tt : TT} {tk tv td : TE} {vs : List Nat} {d : Addr} {o : Obj} {kvs : List (L2.Key × V)} {t : Tab} (hd : Ev td σ H fun v _ => v = .ref d) (hf : H d = some (.frz o (.dK kvs))) (ht : TabV H kvs t)
    (few : t.length ≤ 100000) (b : Str × Row → Bool) (f : Str × Row → Str) (g : Str × Row → Row) (nd : (t.map f).Nodup) (hw : ∀ x y, wipe (((wipe σ vs).set i (some x)).set j (some y)) vs = wipe σ vs)
    (hs : ∀ e v H1, e ∈ t → Same H H1 → RowV H1 v e.2 → EvT tt (((wipe σ vs).set i (some (.str e.1))).set j (some v)) H1 (b e) ∧ (b e = true → Ev tk (((wipe σ vs).set i (some (.str e.1))).set j (some v)) H1 (fun y _ => y = .str (f e))) ∧
      (b e = true → Ev tv (((wipe σ vs).set i (some (.str e.1))).set j (some v)) H1 (fun y H' => RowV H' y (g e))))
    (hq : ∀ p H1 kvs', Same H H1 → H1 p = some (.dK kvs') → TabV H1 kvs' ((t.filter b).map fun e => (f e, g e)) → Q (.ref p) H1) :
    tDc (iItems td) (gTup K 2 (gCons (gName i) (gCons (gName j) gNil))) tt tk tv vs σ H Q := by
  refine dc_runI (K := K) (o := o) (kvs := kvs) hd hf t (Paired.length ht).symm b (fun e => Sum.inr (f e)) (fun e v H => RowV H v (g e)) few ?_ hw (fun z v H H' e h => h.mono e) (fun k z kv H1 hz hk e => ?_) (fun p H1 kvs' hp e hd' hP => ?_)
  · rw [show (t.map fun e => (Sum.inr (f e) : L2.Key)) = (t.map f).map Sum.inr from by rw [List.map_map]; rfl, List.nodup_iff_pairwise_ne, List.pairwise_map]
    exact (List.nodup_iff_pairwise_ne.mp nd).imp fun h z => h (Sum.inr.inj z)
  · obtain ⟨z', hz', hk1, hk2⟩ := paired_ix2 ht hk
    rw [hz] at hz'
    cases hz'
    rw [hk1]
    have hm := List.mem_of_getElem? hz
    exact ⟨(hs z kv.2 H1 hm e (hk2.mono (tups_of e))).1, fun hb H3 e3 => (hs z kv.2 H3 hm (e.trans e3) (hk2.mono (tups_of (e.trans e3)))).2.1 hb, fun hb H3 e3 => (hs z kv.2 H3 hm (e.trans e3) (hk2.mono (tups_of (e.trans e3)))).2.2 hb⟩
  · have ht2 : TabV H1 kvs' ((t.filter b).map fun e => (f e, g e)) := paired_mapR _ hP
    exact hq p H1 kvs' e hd' ht2
section
variable {K : PySem.W.Frag} {σ : L2.St} {H : Hp} {tl te : TE} {vs : List Nat} {j : Nat}
/-- tuple([pair made of pair for pair in row]) -/
theorem ev_mapRow {r : Row} (hl : Ev tl σ H fun v H1 => RowV H1 v r) (hr : r.length ≤ 1000) (hw : ∀ x, wipe ((wipe σ vs).set j (some x)) vs = wipe σ vs) (h : Int × Int → Int × Int)
    (he : ∀ x z H1, z ∈ r → Same H H1 → PairV H1 x z → Ev te ((wipe σ vs).set j (some x)) H1 (fun v H' => PairV H' v (h z))) :
    Ev (tCB (fun xs H Q => ∃ p ys, xs = [.ref p] ∧ ((SqL K H p ys ∧ ∀ l, H l = none → Q (.ref l) (upd H l (.tup ys))) ∨ (SqT K H p ys ∧ Q (.ref p) H))) (tCons (tLc (iTup K tl) (gName j) tYes te vs) tNil)) σ H (fun v H1 => RowV H1 v (r.map h)) := by
  refine ev_rowOf (zs := r) (f := h) fun Q q => ?_
  refine lc_bindT hl fun v H1 e1 hv => ?_
  obtain ⟨a, xs, rfl, ha, hx⟩ := hv
  have hlen := Paired.length hx
  refine lc_runT (K := K) (xs := xs) (fun Q q => q _ _ (Same.refl _) ⟨a, rfl, SqT.of ha⟩) r hlen (fun _ => true) (fun z v H => PairV H v (h z)) (by omega) hw (fun z v H H' e h => h.mono e)
    (fun i z x H2 hz hx' e2 => ⟨evt_yes, fun _ H3 e3 => ?_⟩) (fun p H2 ys hp e2 hl hP => q _ _ (e1.trans e2) ⟨p, ys, rfl, hl, by rw [filter_all] at hP; exact hP⟩)
  obtain ⟨z', hz', hpz⟩ := paired_ix2 hx hx'
  rw [hz] at hz'
  cases hz'
  exact he x z H3 (List.mem_of_getElem? hz) (e1.trans (e2.trans e3)) (hpz.mono (tups_of (e2.trans e3)))
theorem mut_dK {kvs : List (L2.Key × V)} : Mut (some (.dK kvs)) := trivial
end
theorem few_tab {t : Tab} (h : okTab t = true) : t.length ≤ 100000 := by
  unfold okTab at h
  simp only [Bool.and_eq_true, decide_eq_true_eq] at h
  exact Nat.le_trans h.1.1.1.2 (by decide)
theorem few_row {t : Tab} {e : Str × Row} (h : okTab t = true) (he : e ∈ t) : e.2.length ≤ 1000 := by
  rw [size_of_ok h _ he]
  unfold okTab at h
  simp only [Bool.and_eq_true, decide_eq_true_eq] at h
  exact Nat.le_trans h.1.2 (by decide)
theorem lock_ins {H : Hp} {a C dx d : Addr} {fs : List (Str × V)} {od : Obj} {kvs : List (L2.Key × V)} (ha : H a = some (.ins C dx fs)) (hd : H d = some (.dK kvs)) : (upd H d (.frz od (.dK kvs))) a = some (.ins C dx fs) := by
  rw [upd_ne (fun z => by rw [z, hd] at ha; cases ha)]
  exact ha
theorem ev_pick {K : PySem.W.Frag} {σ : L2.St} {H : Hp} {i j : Nat} {x : V} {p : Int × Int} {y : Int} (hi : σ[i]? = some (some x)) (hx : PairV H x p) (hj : [p.1, p.2][j]? = some y) : Ev (tOp (rIxT K) (tVar i) (tC (.int (j : Int)))) σ H fun v _ => v = .int y := fun Q q => by
  obtain ⟨c, rfl, hc⟩ := hx
  refine ⟨_, hi, c, _, _, .int y, rfl, rfl, SqT.of hc, ?_, q _ _ (Same.refl _) rfl⟩
  rcases j with _ | _ | j
  · cases hj
    exact atI_nat (j := 0) rfl
  · cases hj
    exact atI_nat (j := 1) rfl
  · cases hj
theorem unlock {H H1 : Hp} {d p : Addr} {od : Obj} {kvs kvs' : List (L2.Key × V)} {t : Tab} (hd : H d = some (.dK kvs)) (e : Same (upd H d (.frz od (.dK kvs))) H1) (hp : H1 p = some (.dK kvs')) (ht : TabV H1 kvs' t) :
    H1 d = some (.frz od (.dK kvs)) ∧ Same H (upd H1 d (.dK kvs)) ∧ (upd H1 d (.dK kvs)) p = some (.dK kvs') ∧ TabV (upd H1 d (.dK kvs)) kvs' t := by
  have h1 := e _ _ (upd_same (H := H) (a := d))
  refine ⟨h1, lock_out hd e, ?_, ht.mono (tups_upd h1 fun xs z => by cases z)⟩
  rw [upd_ne (fun z => by rw [z, h1] at hp; cases hp)]
  exact hp
def silT (t : Tab) : Tab := t.map fun e => (e.1, e.2.map fun p => (p.1, (0 : Int)))
def cutT (x : Str) (t : Tab) : Tab := t.filter fun e => !decide (e.1 = x)
theorem tab_self (t : Tab) : t.map (fun e => (e.1, e.2)) = t := List.map_id' t
section
variable {P : Program} {w : World} {K : PySem.W.Frag} {mg : Str → Option Value} {base : Heap} {C : Addr}
abbrev s_needkind : Stmt := top 19
theorem sc_need_kind : FnScope ["value"] ["value"] (defScope s_needkind) := ⟨rfl, rfl, rfl, by decide +kernel, rfl, by decide +kernel, by decide +kernel⟩
def sp_needkind (C : Addr) : Sp := fun vs H Q _ => ∃ (v : V) (t : Tab), vs = [v] ∧ KindV C H v t ∧ Q .non H
theorem ok_needkind (B : Bt mg) (T : Kc K C) (TE : KcE K C) (gC : mg "Kind" = some (.ref C)) (D : Df K mg "need_kind" s_needkind ["value"]) : Ok P w K mg base "need_kind" 1 ["value"] (sp_needkind C) := by
  refine D.ok sc_need_kind (fun vs H Q E h => ?_) (fun f cdv A outer s H vs Q E hr h => ?_)
  · obtain ⟨v, t, rfl, _⟩ := h
    rfl
  · obtain ⟨v, t, rfl, ⟨a, dx, d, kvs, rfl, ha, hd, ht, hok, nd, hst⟩, q⟩ := h
    refine ⟨_, pss_one (ps_if (pt_not (pt_val (pe_callB (isiK (K := K)) (by rfl) B.isinstance (by decide +kernel) (pa_cons (pv 0) (pa_cons (pe_glob (v := .ref C) (by rfl) gC rfl) (pa_nil))))))
        (pss_one (ps_never))
        (pss_nil)), ?_⟩
    refine ⟨_, rfl, _, .ref C, _, _, true, rfl, .own C, .base (.ins ha T.cl TE.cla TE.cg TE.ct TE.mr), TE.is_, _, rfl, ?_⟩
    exact ifF rfl q
def sp_kind (C : Addr) (t : Tab) : Hp → VK → Prop := fun H Q => okTab t = true ∧ (namesT t).Nodup ∧ ∀ v' H' t', Same H H' → KindV C H' v' t' → t'.Perm t → Q v' H'
abbrev s_without : Stmt := inClass (top 24) 8
theorem sc_without : FnScope ["self", "name", "kept", "row"] ["self", "name"] (defScope s_without) := ⟨rfl, rfl, rfl, by decide +kernel, rfl, by decide +kernel, by decide +kernel⟩
def sp_without (C : Addr) : Sp := fun vs H Q _ => ∃ (v : V) (t : Tab) (x : Str), vs = [v, .str x] ∧ KindV C H v t ∧ x ∈ namesT t ∧ t.length ≠ 1 ∧ sp_kind C (cutT x t) H Q
theorem ok_without (B : Bt mg) (T : Kc K C) (OC_Kind : OkC P w K mg base "Kind" C 5 ["self", "operations"] (sp_init C)) (OM_need_operation : OkM P w K mg base C "_need_operation" 2 ["self", "name"] (sp_needop C)) (D : DfM K C "without" "Kind.without" s_without ["self", "name"]) : OkM P w K mg base C "without" 7 ["self", "name"] (sp_without C) := by
  refine D.ok sc_without (fun vs H Q E h => ?_) (fun f cdv A outer s H vs Q E hr h => ?_)
  · obtain ⟨v, t, x, rfl, _⟩ := h
    rfl
  · obtain ⟨v, t, x, rfl, hk, hx, many, ok2, nd2, q⟩ := h
    obtain ⟨a, dx, d, kvs, rfl, ha, hd, ht, hok, nd, hst⟩ := id hk
    refine ⟨_, pss_cons (ps_expr (OM_need_operation.call hr T.cl (he := pv 0) (ha := pa_cons (pv 1) (pa_nil))))
      (pss_cons (ps_if (pt_cmpR op_eq (pe_callB call_lenD (by rfl) B.len (by decide +kernel) (pa_cons (pe_fld (pv 0) rfl) (pa_nil))) (pe_int) (nomark _))
        (pss_one (ps_never))
        (pss_nil))
      (pss_one (ps_ret (OC_Kind.make hr (ha := pa_cons (pe_lock (pe_dc (own := [("kept", 2), ("row", 3)]) (g := gTup K 2 (gCons (gName 2) (gCons (gName 3) (gNil)))) (tt := _) rfl sc_without.nd (pi_items (pe_fld (pv 0) rfl)) (blkOk_by (own := [("kept", 2), ("row", 3)]) (N := ["self", "name", "kept", "row"]) (sc := defScope s_without) (by decide +kernel)) (fun _ _ _ _ _ => pg_tup (by rfl) (pgs_cons (pg_name (i := 2) sc_without.nd rfl (.inl rfl)) (pgs_cons (pg_name (i := 3) sc_without.nd rfl (.inl rfl)) (pgs_nil)))) (fun _ _ _ _ _ => pts_one (pt_cmpR op_ne (pv 2) (pv 1) (nomark _))) (fun _ _ _ _ _ => pv 2) (fun _ _ _ _ _ => pv 3))) (pa_nil)))))), ?_⟩
    have hlen : kvs.length = t.length := Paired.length ht
    refine ⟨_, rfl, a, dx, _, rfl, ha, kf_no _ _, _, rfl, _, t, x, rfl, hk, hx, ?_⟩
    dsimp only [tSeq]
    refine ⟨_, rfl, a, C, dx, _, _, rfl, ha, T.cl, T.nT, kf_T _ _, d, kvs, rfl, hd, rfl, _, rfl, ifF (decide_eq_false fun z => many (by rw [← hlen]; exact Int.ofNat.inj (V.int.inj z))) ?_⟩
    dsimp only [tNext]
    dsimp only [tRet, tMake, tCons, tNil]
    refine ⟨d, .dK kvs, hd, trivial, fun od => ?_⟩
    have tu : TupS H (upd H d (.frz od (.dK kvs))) := lock_in hd (fun xs z => by cases z)
    refine dc_tabI (K := K) (o := od) (kvs := kvs) (fun Q q => ?_) upd_same (ht.mono tu) (few_tab hok) (fun e => !decide (e.1 = x)) (fun e => e.1) (fun e => e.2) nd (by intro _ _; rfl) (fun e v H1 he e1 hv => ⟨fun Q q => ?_, fun _ => ev_is rfl rfl, fun _ => ev_is rfl hv⟩) (fun p H1 kvs' e1 hp ht1 => ?_)
    · exact ⟨_, rfl, a, C, dx, _, _, rfl, lock_ins ha hd, T.cl, T.nT, kf_T _ _, q _ _ (Same.refl _) rfl⟩
    · refine ⟨_, rfl, _, rfl, rfl, _, rfl, ?_⟩
      have : (!decide (V.str e.1 = V.str x)) = (!decide (e.1 = x)) := by simp
      rw [this]
      exact q _ (Same.refl _)
    · obtain ⟨h1, e2, h3, h4⟩ := unlock hd e1 hp ht1
      exact ⟨h1, mk_kind (Q := Q) (t := cutT x t) h3 (by rw [tab_self] at h4; exact h4) ok2 nd2 fun v' H' t' e' hk' pm => q v' H' t' (e2.trans e') hk' pm⟩
end
end Tm

set_option maxHeartbeats 2000000
/-! {e for x in xs}, e a text; its length. -/
namespace Tm
open PySem PySem.Spec PyProof.Rows L2
/-- one number more -/
def moreK (S : L2.Key → Bool) (c : L2.Key) : L2.Key → Bool := fun j => S j || decide (j = c)
def tSck (P : Program) (w : World) (wi : TI) (g : TG) (tt : TT) (te : TE) (vs : List Nat) : TE := fun σ H Q => wi σ H fun J Hi => ∀ D, Hi D = none → ∃ W : Nat → Nat → Hp → Prop, (∃ m, W 0 m (upd Hi D (SetK P w D (fun _ => false) 0))) ∧
  ∀ i m H, W i m H → (J.stop i H ∧ Q (.ref D) H) ∨ (J.go i H ∧ ∃ Nx : Hp → Prop, (∀ H', Nx H' → ∃ m', m' < m ∧ W (i + 1) m' H') ∧
    ∀ x H', J.yld i H x H' → g x (wipe σ vs) H' fun σ2 H2 => wipe σ2 vs = wipe σ vs ∧ tt σ2 H2 fun b H3 => if b = true then te σ2 H3 fun y H4 => ∃ (c : L2.Key) (S : L2.Key → Bool) (n : Nat), y = kV c ∧ H4 D = some (SetK P w D S n) ∧ n + 1 < scanBound ∧ Nx (upd H4 D (SetK P w D (moreK S c) (if S c = true then n else n + 1))) else Nx H3)
theorem bare_set {P : Program} {w : World} {h : Heap} : (h.push { cls := .type "set", dict := none, data := .set #[] 0 (.fresh 0 0 (!w.params.followText "set-order")) }).SetOf (mixKind P w) h.objs.size (fun _ => false) 0 :=
  ⟨_, #[], 0, _, Heap.get?_push_size _ rfl, ⟨rfl, rfl, rfl⟩, rfl, (fun e he => by simp at he), (fun k => by simp), (by decide), (by rfl), rfl⟩
section
variable {X : Cx}
theorem call_lenK : CallR X (.builtin "len") (fun xs H Q => ∃ (a : Addr) (S : L2.Key → Bool) (n : Nat), xs = [V.ref a] ∧ H a = some (SetK X.prog X.w a S n) ∧ Q (.int (n : Int)) H) := by
  intro pins s σ H xs us Q I r h
  obtain ⟨a, S, n, rfl, ha, q⟩ := h
  rw [Vals.ref1 r]
  obtain ⟨o, es, ep, t, ho, hex, hd, _, _, few, hf, rfl⟩ := setK_get I ha
  refine call_len_set ho hex hd hf ?_ ⟨.int (es.size : Int), H, I.tok _, ⟨_, rfl⟩, q⟩
  have : scanBound = 4096 := rfl
  omega
theorem add_inK {pins : List (Addr × Obj)} {σ : L2.St} {H : Hp} {s : Shared} {E : Value → Shared → Prop} {D : Addr} {S : L2.Key → Bool} {n : Nat} {c : L2.Key} {u0 : Value} {Q : Value → Shared → Prop} (I : Inv X pins σ H s) (ry : RelV (kV c) u0) (at_ : H D = some (SetK X.prog X.w D S n)) (few : n + 1 < scanBound)
    (k : ∀ s2, Inv X pins σ (upd H D (SetK X.prog X.w D (moreK S c) (if S c = true then n else n + 1))) s2 → Q .none s2) : wpAny (model X.prog X.w) X.A (call (.builtin "set.add") [.ref D, u0]) Q E s := by
  refine call_set_add (kV_is ry) (key_scan ry) (setK_get I at_) few fun g sb new => k _ ?_
  have there : ∃ u, g.get? D = some u := by
    obtain ⟨o, _, _, _, ho, _⟩ := id new
    exact ⟨o, ho⟩
  exact I.write (e := D) (t' := s.toks + 1) (by rw [at_]; exact True.intro) (.inl rfl) (fun b u nb e => (sb.2 b nb).trans e) there (setK_new new)
theorem pe_sck {elt tg iter : Expr} {ifs : List Expr} {sco : Scope} {own : List (PySem.Str × Nat)} {pos : Pos} {wi : TI} {g : TG} {tt : TT} {te : TE} (calm : X.calm = true) (nd : X.N.Nodup) (it : PI X tg iter wi) (blk : BlkOk X.N X.env.scope sco own)
    (tgt : ∀ (s : Shared) (H : Hp) (C : Addr) (cl : List (PySem.Str × Addr)) (fp : List Addr), PG (X.blk s H sco (compEnvC sco cl C X.env) fp) tg g) (tst : ∀ (s : Shared) (H : Hp) (C : Addr) (cl : List (PySem.Str × Addr)) (fp : List Addr), PTs (X.blk s H sco (compEnvC sco cl C X.env) fp) ifs tt)
    (val : ∀ (s : Shared) (H : Hp) (C : Addr) (cl : List (PySem.Str × Addr)) (fp : List Addr), PE (X.blk s H sco (compEnvC sco cl C X.env) fp) elt te) (fold : ∀ x, foldedSetIterable iter X.env x = pure x := by intro _; rfl) :
    PE X (.SetComp elt [⟨tg, iter, ifs, 0⟩] sco pos) (tSck X.prog X.w wi g tt te (own.map (·.2))) := by
  refine ⟨fun pins s0 σ0 H0 Q0 I0 h0 => ?_⟩
  rw [PpSet.eval_SetComp]
  have caught : ∀ y ∈ sco.names, y.2 = .free → ∃ c, X.env.cells.lookup y.1 = some c := fun y hy e => (blk.free y hy e).elim (fun z => I0.ok.has _ (.inl z)) fun z => I0.ok.has _ (.inr z)
  refine wpAny_comprehension_free rfl fold (closure_ok caught) blk.kind (fun y hy e => by rw [blk.uniq y hy, e]) (thn (it.run pins s0 σ0 H0 _ I0 h0) fun xv sA hA => thn hA fun itv sB hB => ?_)
  obtain ⟨ia, fp, tn, J, HB, rfl, IB, T, stB, frB, run⟩ := hB
  refine PpSet.newSet_ok (newEnv_comp ?_)
  have noD : HB sB.heap.objs.size = none := IB.hok.fresh (Nat.le_refl _)
  obtain ⟨W, ⟨m0, w0⟩, turn⟩ := run _ noD
  generalize hs : ({ sB with heap := sB.heap.push (bareSet X.w) } : Shared) = sC
  have hC : sC.heap = sB.heap.push (bareSet X.w) := by rw [← hs]
  generalize hD : sB.heap.objs.size = D at noD turn w0
  have IC : Inv X pins σ0 (upd HB D (SetK X.prog X.w D (fun _ => false) 0)) sC := by
    rw [← hs, ← hD]
    exact IB.laid (t' := sB.toks) (fun b o e => Heap.get?_push_of_some _ e) (Nat.le_refl _) (setK_new bare_set)
  have below : ∀ b ∈ fp, b < sB.heap.objs.size := fun b hb => let ⟨o, e, _⟩ := T.obj _ _ stB b hb; Heap.lt_size e
  have frC : ∀ b ∈ fp, FpOk X pins (upd HB D (SetK X.prog X.w D (fun _ => false) 0)) b ∧ b < sC.heap.objs.size := fun b hb =>
    ⟨⟨(upd_ne (by rw [← hD]; exact Nat.ne_of_lt (below b hb))).trans (frB b hb).1, (frB b hb).2⟩, by rw [hC, Heap.size_push]; exact Nat.lt_succ_of_lt (below b hb)⟩
  have stC : tn 0 sC.heap := T.keep _ _ _ stB fun b _ o e => by rw [hC]; exact Heap.get?_push_of_some _ e
  generalize hH : upd HB D (SetK X.prog X.w D (fun _ => false) 0) = HC at IC frC w0
  have ID := block_start IC blk nd frC
  generalize hcl : cellsFrom (sC.heap.objs.size + 1) sco.names (cloFrom X.env.cells sco.names []) = cl at ID
  have pT := tgt sC HC sC.heap.objs.size cl fp
  have pI := tst sC HC sC.heap.objs.size cl fp
  have pV := val sC HC sC.heap.objs.size cl fp
  show codeAny (model X.prog X.w) X.A (.compStart (.SetComp elt [⟨tg, iter, ifs, 0⟩] sco pos) 0 (.ref ia) (.ref D) (compEnvC sco cl sC.heap.objs.size X.env)) (compPost (model X.prog X.w) X.A X.xe none (EP X pins σ0 Q0) (.ref D) sC.heap.objs.size)
    { sC with heap := pushCells (sC.heap.push { cls := .type "dict", data := .dict #[] }) sco.names }
  have loc : (compEnvC sco cl sC.heap.objs.size X.env).locals = sC.heap.objs.size := rfl
  generalize hce : compEnvC sco cl sC.heap.objs.size X.env = ce at ID pT pI pV loc ⊢
  generalize hsD : ({ sC with heap := pushCells (sC.heap.push { cls := .type "dict", data := .dict #[] }) sco.names } : Shared) = sD at ID ⊢
  have stD : tn 0 sD.heap := T.keep _ _ _ stC fun b _ o e => by rw [← hsD]; exact pushCells_keeps _ _ _ _ (Heap.get?_push_of_some _ e)
  have still : ∀ {σ' : L2.St} {H' : Hp} {s' : Shared}, Inv (X.blk sC HC sco ce fp) [] σ' H' s' → (∀ b ∈ fp, H' b = none) → ∀ b ∈ fp, FpOk (X.blk sC HC sco ce fp) [] H' b := fun {σ' H' s'} Z no b hb =>
    ⟨no b hb, (Z.ok.exf b hb).1, Z.ok.exfs b hb, .inl hb, fun x c e => (Z.ok.exf b hb).2 x c e, fun p hp => absurd (show p ∈ ([] : List (Addr × Obj)) ++ [] from hp) (by simp)⟩
  have goes : codeAny (model X.prog X.w) X.A (.compLoop (.SetComp elt [⟨tg, iter, ifs, 0⟩] sco pos) 0 (.ref ia) (.ref D) ce) (compPost (model X.prog X.w) X.A X.xe none (EP X pins σ0 Q0) (.ref D) sC.heap.objs.size) sD := by
    refine PpSet.compLoopS_any (fun n s' => ∃ i H', Inv (X.blk sC HC sco ce fp) [] (wipe σ0 (own.map (·.2))) H' s' ∧ tn i s'.heap ∧ (∀ b ∈ fp, H' b = none) ∧ W i n H') ?_ m0 ⟨0, HC, ID, stD, fun b hb => (frC b hb).1.1, w0⟩
    rintro n sE ⟨i, HE, IE, stE, noE, wE⟩
    rcases turn i n HE wE with ⟨stop, last⟩ | ⟨go, Nx, nxt, step⟩
    · refine thnF (T.done (X.blk sC HC sco ce fp) rfl rfl rfl calm i [] sE _ HE (fun _ _ => False) IE (still IE noE) stE stop) fun r sF ⟨hr, IF⟩ => ?_
      subst hr
      have IG : Inv X pins σ0 HE sF := IC.call' (ch := fp) IF.os IF.base IF.hok IF.bare fun b hb => let z := (frC b hb).1; ⟨z.2.2.2.1, z.2.1, z.2.2.2.2.1, z.2.2.2.2.2⟩
      have noC : HE sC.heap.objs.size = none := by
        have z : HE ce.locals = none := IF.free
        rw [loc] at z
        exact z
      obtain ⟨m, hn, _⟩ := IF.loc
      replace hn : sF.heap.Ns ce.locals m := hn
      rw [loc] at hn
      have fr := IC.fpOk (H' := HE) (Nat.le_refl _) noC
      refine ⟨m, hn, fun g2 sb => ?_⟩
      exact ⟨.ref D, HE, IG.turned (t' := sF.toks) (fun b o hb e => (sb.2 b hb).trans e) fr.1 fr.2.1 fr.2.2.2.1 fr.2.2.2.2.1 fr.2.2.2.2.2, rfl, last⟩
    · refine thnF (T.item (X.blk sC HC sco ce fp) rfl rfl rfl calm i [] sE _ HE (fun _ _ => False) IE (still IE noE) stE go) fun r sF ⟨u, hr, hF⟩ => ?_
      subst hr
      refine thnF hF fun _ sG ⟨x, HG, IG, rG, yG, stG, noG⟩ => ?_
      have JG := IG.pinned (still IG noG) (T.obj _ _ stG)
      refine thnF (pT.run _ sG _ HG x u _ JG rG (step x HG yG)) fun _ sI ⟨σI, HI, II, wI, qI⟩ => ?_
      refine thnF (pI.run _ sI σI HI _ II qI) fun b sJ ⟨HJ, IJ, qJ⟩ => ?_
      have next : ∀ {s' : Shared} {H' : Hp}, Inv (X.blk sC HC sco ce fp) ([] ++ pinsAt fp sG.heap) σI H' s' → Nx H' →
          ∃ m, m < n ∧ ∃ i H', Inv (X.blk sC HC sco ce fp) [] (wipe σ0 (own.map (·.2))) H' s' ∧ tn i s'.heap ∧ (∀ b ∈ fp, H' b = none) ∧ W i m H' := fun {s' H'} Z nx => by
        obtain ⟨m, less, wN⟩ := nxt H' nx
        have pin : ∀ b ∈ fp, ∀ o, sG.heap.get? b = some o → s'.heap.get? b = some o ∧ H' b = none := fun b hb o e =>
          ⟨(Z.pin (b, o) (List.mem_append_right _ (List.mem_append_right _ (mem_pinsAt hb e)))).1, (Z.pin (b, o) (List.mem_append_right _ (List.mem_append_right _ (mem_pinsAt hb e)))).2.1⟩
        refine ⟨m, less, i + 1, H', (Z.unpinned (pins := [])).weak (by rw [← wI, wipe_length]) (fun j v e => ?_), T.keep _ _ _ stG fun b hb o e => (pin b hb o e).1, fun b hb => ?_, wN⟩
        · rw [← wI] at e
          exact (wipe_some e).1
        · obtain ⟨o, e, _⟩ := T.obj _ _ stG b hb
          exact (pin b hb o e).2
      cases b with
      | true =>
        simp only [if_true] at qJ ⊢
        refine thnF (pV.run _ sJ σI HJ _ IJ qJ) fun z sK ⟨yv, HK, IK, rK, c, S, k, ey, atD, few, nx⟩ => ?_
        subst ey
        exact add_inK (X := X.blk sC HC sco ce fp) IK rK atD few fun sL IL => next IL nx
      | false =>
        simp only [Bool.false_eq_true, if_false] at qJ ⊢
        exact next IJ qJ
  exact PpSet.codeAny_compStart_set goes (T.self X.A 0 _ _ _ stD goes)
end
end Tm

set_option maxHeartbeats 4000000
/-! Kind._is_renaming, Kind.renamed. -/
namespace Tm
open PySem PySem.Spec PyProof.Rows L2
local macro_rules | `(tactic| walk_at "x") => `(tactic| dsimp only [tNext, tRet, tSeq, tCall, tCB, tC, tCons, tNil, tAsg, tDrop, sFld])
abbrev Nms := List (Str × Str)
def NmP (kv : L2.Key × V) (e : Str × Str) : Prop := kv.1 = Sum.inr e.1 ∧ kv.2 = .str e.2
def NmV (H : Hp) (d : Addr) (ns : Nms) : Prop := ∃ kvn, H d = some (.dK kvn) ∧ Paired NmP kvn ns
def lookN (ns : Nms) (x : Str) : Option Str := (ns.find? fun e => decide (e.1 = x)).map (·.2)
def ren (ns : Nms) (x : Str) : Str := (lookN ns x).getD x
theorem look_nm : ∀ {kvn : List (L2.Key × V)} {ns : Nms} (x : Str), Paired NmP kvn ns → valV kvn (Sum.inr x) = (lookN ns x).map V.str
  | _, _, x, .nil => rfl
  | kv :: kvs, e :: r, x, .cons h t => by
    have ih := look_nm x t
    rw [valV_cons, h.1]
    unfold lookN
    rw [List.find?_cons]
    by_cases z : e.1 = x
    · subst z
      rw [if_pos (by simp), h.2]
      simp
    · rw [if_neg (by simp [z])]
      rw [show decide (e.1 = x) = false from decide_eq_false z]
      exact ih
theorem look_mem : ∀ {ns : Nms} {e : Str × Str}, e ∈ ns → (ns.map (·.1)).Nodup → lookN ns e.1 = some e.2
  | [], _, h, _ => nomatch h
  | x :: r, e, h, nd => by
    unfold lookN
    rw [List.find?_cons]
    have nd2 := List.nodup_cons.mp (show (x.1 :: r.map (·.1)).Nodup from nd)
    rcases List.mem_cons.mp h with z | z
    · rw [z]
      simp
    · have : x.1 ≠ e.1 := fun q => nd2.1 (q ▸ List.mem_map.mpr ⟨e, z, rfl⟩)
      rw [show decide (x.1 = e.1) = false from decide_eq_false this]
      exact look_mem z nd2.2
def renT (ns : Nms) (t : Tab) : Tab := t.map fun e => (ren ns e.1, e.2)
/-- a list comprehension over the keys of a locked dict -/
theorem lc_runK {α : Type} {σ : L2.St} {H : Hp} {Q : VK} {j : Nat} {tt : TT} {te td : TE} {vs : List Nat} {d : Addr} {o : Obj} {kvs : List (L2.Key × V)} (hd : Ev td σ H fun v _ => v = .ref d) (hf : H d = some (.frz o (.dK kvs))) (zs : List α) (hlen : zs.length = kvs.length)
    (b : α → Bool) (R : α → V → Hp → Prop) (hz : zs.length ≤ 100000) (hw : ∀ x, wipe ((wipe σ vs).set j (some x)) vs = wipe σ vs) (hR : ∀ z v H H', TupS H H' → R z v H → R z v H')
    (hs : ∀ (i : Nat) z kv H1, zs[i]? = some z → kvs[i]? = some kv → Same H H1 → EvT tt ((wipe σ vs).set j (some (kV kv.1))) H1 (b z) ∧ (b z = true → ∀ H3, Same H1 H3 → Ev te ((wipe σ vs).set j (some (kV kv.1))) H3 (R z)))
    (hq : ∀ p H1 ys, H p = none → Same H H1 → H1 p = some (.lst ys) → Paired (fun v z => R z v H1) ys (zs.filter b) → Q (.ref p) H1) : tLc (iKeys td) (gName j) tt te vs σ H Q := by
  refine hd _ fun v H1 e ev => ⟨d, o, ev, .inl ⟨kvs, e _ _ hf, ?_⟩⟩
  refine lc_name (Q := Q) (walk_keys) zs b R hlen (by omega) hw hR (fun H2 e2 => e2 _ _ (e _ _ hf)) (fun i H v H' y => by rw [y.1]; exact Same.refl _) (fun i z x H2 H' hz' e2 y => ?_) (fun p H2 ys hp e2 => hq p H2 ys (e.free hp) (e.trans e2))
  obtain ⟨rfl, k, v, hk, rfl⟩ := y
  exact hs i z (k, v) _ hz' hk (e.trans e2)
/-- {a text for key in a locked dict}, all texts different -/
theorem sck_keys {P : Program} {w : World} {σ : L2.St} {H : Hp} {Q : VK} {j : Nat} {te td : TE} {vs : List Nat} {d : Addr} {o : Obj} {kvs : List (L2.Key × V)} {ns : List Str} {f : Str → Str} (hd : Ev td σ H fun v _ => v = .ref d) (hf : H d = some (.frz o (.dK kvs))) (hk : kvs.map (·.1) = ns.map Sum.inr)
    (few : ns.length ≤ 1000) (nd : (ns.map f).Nodup) (hw : ∀ x, wipe ((wipe σ vs).set j (some x)) vs = wipe σ vs) (he : ∀ x H', x ∈ ns → Same H H' → Ev te ((wipe σ vs).set j (some (.str x))) H' fun v _ => v = .str (f x))
    (hq : ∀ p H1 S, Same H H1 → H1 p = some (SetK P w p S ns.length) → Q (.ref p) H1) : tSck P w (iKeys td) (gName j) tYes te vs σ H Q := by
  refine hd _ fun v H1 e ev => ⟨d, o, ev, .inl ⟨kvs, e _ _ hf, fun D hD => ?_⟩⟩
  have hlen : kvs.length = ns.length := by
    have := congrArg List.length hk
    rwa [List.length_map, List.length_map] at this
  have wk := walk_keys (d := d) (o := o) (kvs := kvs)
  refine ⟨fun i m H' => m = ns.length - i ∧ i ≤ ns.length ∧ Same H1 H' ∧ ∃ S, H' D = some (SetK P w D S i) ∧ (∀ k, S k = true ↔ k ∈ (ns.take i).map fun x => Sum.inr (f x)), ⟨ns.length, by simp, Nat.zero_le _, same_new hD, fun _ => false, upd_same, by simp⟩, ?_⟩
  rintro i m H' ⟨rfl, hi, e2, S, hS, hm⟩
  have hf' := e2 _ _ (e _ _ hf)
  by_cases hlt : i < ns.length
  · refine .inr ⟨wk.goes i H' (by omega) hf', _, fun H2 p => p, fun x H2 y => ?_⟩
    obtain ⟨eH, k, v, hkv, rfl⟩ := wk.yields i H' x H2 (by omega) hf' y
    rw [eH]
    have hz : ns[i]? = some ns[i] := List.getElem?_eq_getElem hlt
    have ek : k = Sum.inr ns[i] := by
      have h1 : (kvs.map (·.1))[i]? = some k := by rw [List.getElem?_map, hkv]; rfl
      rw [hk, List.getElem?_map, hz] at h1
      exact (Option.some.inj h1).symm
    subst ek
    refine ⟨hw _, ?_⟩
    dsimp only [tYes]
    rw [if_pos rfl]
    refine he ns[i] H' (List.getElem_mem hlt) (e.trans e2) _ fun y H3 e3 ey => ?_
    have hno : S (Sum.inr (f ns[i])) = false := by
      cases hc : S (Sum.inr (f ns[i])) with
      | false => rfl
      | true =>
        obtain ⟨z, hz1, hz2⟩ := List.mem_map.mp ((hm _).mp hc)
        have h2 : f ns[i] ∉ (ns.map f).take i := nd_split nd (by rw [List.getElem?_map, hz]; rfl)
        rw [← List.map_take] at h2
        exact absurd (List.mem_map.mpr ⟨z, hz1, Sum.inr.inj hz2⟩) h2
    refine ⟨Sum.inr (f ns[i]), S, i, ey, e3 _ _ hS, by show i + 1 < 4096; omega, ns.length - (i + 1), by omega, rfl, hlt, same_mut (e2.trans e3) hD, moreK S (Sum.inr (f ns[i])), ?_, fun k => ?_⟩
    · rw [if_neg (by rw [hno]; decide)]
      exact upd_same
    · rw [take_one hz, List.map_append, List.mem_append, ← hm k]
      unfold moreK
      simp
  · have ei : i = ns.length := by omega
    subst ei
    exact .inl ⟨by rw [← hlen]; exact wk.stops H' hf', hq D H' S (e.trans e2) hS⟩
section
variable {P : Program} {w : World} {K : PySem.W.Frag} {mg : Str → Option Value} {base : Heap} {C : Addr}
abbrev s_isren : Stmt := inClass (top 24) 13
theorem sc_is_renaming : FnScope ["self", "names", "name"] ["self", "names"] (defScope s_isren) := ⟨rfl, rfl, rfl, by decide +kernel, rfl, by decide +kernel, by decide +kernel⟩
def sp_isren (C : Addr) : Sp := fun vs H Q _ => ∃ (v : V) (t : Tab) (d : Addr) (ns : Nms), vs = [v, .ref d] ∧ KindV C H v t ∧ NmV H d ns ∧ ns ≠ [] ∧ (∀ e ∈ ns, e.1 ∈ namesT t ∧ okName e.2 = true) ∧ (ns.map (·.1)).Nodup ∧ ns.length ≤ 100 ∧ ((namesT t).map (ren ns)).Nodup ∧ ∀ H', Same H H' → Q (.bl true) H'
abbrev s_renamed : Stmt := inClass (top 24) 9
theorem sc_renamed : FnScope ["self", "names", "name", "row"] ["self", "names"] (defScope s_renamed) := ⟨rfl, rfl, rfl, by decide +kernel, rfl, by decide +kernel, by decide +kernel⟩
def sp_renamed (C : Addr) : Sp := fun vs H Q _ => ∃ (v : V) (t : Tab) (d : Addr) (ns : Nms), vs = [v, .ref d] ∧ KindV C H v t ∧ NmV H d ns ∧ ns ≠ [] ∧ (∀ e ∈ ns, e.1 ∈ namesT t ∧ okName e.2 = true) ∧ (ns.map (·.1)).Nodup ∧ ns.length ≤ 100 ∧ sp_kind C (renT ns t) H Q
end
end Tm

/-! _kind_over, cut_kind. -/
namespace Tm
open PySem PySem.Spec PyProof.Rows L2
local macro_rules | `(tactic| walk_at "x") => `(tactic| dsimp only [tNext, tRet, tSeq, tCall, tCB, tC, tCons, tNil, tAsg, tDrop, sFld])
/-! ### one of two rules -/
def tEi (t1 t2 : TE) : TE := fun σ H Q => t1 σ H Q ∨ t2 σ H Q
def iEi (w1 w2 : TI) : TI := fun σ H R => w1 σ H R ∨ w2 σ H R
section
variable {X : Cx} {e tg : Expr} {t1 t2 : TE} {w1 w2 : TI}
theorem pe_ei (h1 : PE X e t1) (h2 : PE X e t2) : PE X e (tEi t1 t2) :=
  ⟨fun pins s σ H Q I h => h.elim (h1.run pins s σ H Q I) (h2.run pins s σ H Q I)⟩
theorem pi_ei (h1 : PI X tg e w1) (h2 : PI X tg e w2) : PI X tg e (iEi w1 w2) :=
  ⟨fun pins s σ H R I h => h.elim (h1.run pins s σ H R I) (h2.run pins s σ H R I)⟩
end
/-- a list or a tuple of whole numbers -/
def StV (H : Hp) (v : V) (ns : List Nat) : Prop := ∃ p, v = .ref p ∧ (H p = some (.lst (natV ns)) ∨ Rd H p (.tup (natV ns)))
theorem rd_keep {H H' : Hp} {a : Addr} {u : HO} (e : Same H H') (h : Rd H a u) : Rd H' a u := h.imp (e _ _) fun ⟨o, h⟩ => ⟨o, e _ _ h⟩
def NuV (H : Hp) (v : V) (g : Int → Option Int) : Prop := (∃ p ns, v = .ref p ∧ Rd H p (.tup (natV ns)) ∧ ∀ i y, 0 ≤ i → g i = some y → (ns.map fun n : Nat => (n : Int))[i.toNat]? = some y) ∨ ∃ d kvn, v = .ref d ∧ H d = some (.dK kvn) ∧ ∀ i y, g i = some y → valV kvn (Sum.inl i) = some (.int y)
theorem StV.keep {H H' : Hp} {v : V} {ns : List Nat} (e : Same H H') (h : StV H v ns) : StV H' v ns := by
  obtain ⟨p, e1, h⟩ := h
  exact ⟨p, e1, h.imp (e _ _) (rd_keep e)⟩
theorem NuV.keep {H H' : Hp} {v : V} {g : Int → Option Int} (e : Same H H') (h : NuV H v g) : NuV H' v g := by
  rcases h with ⟨p, ns, e1, h, q⟩ | ⟨d, kvn, e1, h, q⟩
  · exact .inl ⟨p, ns, e1, rd_keep e h, q⟩
  · exact .inr ⟨d, kvn, e1, e _ _ h, q⟩
def pickR (r : Row) (s : Nat) : Int × Int := r.getD s (0, 0)
def numG (g : Int → Option Int) (y : Int) : Int := (g y).getD 0
def overR (states : List Nat) (g : Int → Option Int) (r : Row) : Row := states.map fun s => (numG g (pickR r s).1, (pickR r s).2)
def overT (states : List Nat) (g : Int → Option Int) (t : Tab) : Tab := t.map fun e => (e.1, overR states g e.2)
theorem dc_bindI {td tk tv : TE} {g : TG} {tt : TT} {vs : List Nat} {σ : L2.St} {H : Hp} {Q : VK} (h : td σ H fun v H1 => tDc (iItems (tC v)) g tt tk tv vs σ H1 Q) : tDc (iItems td) g tt tk tv vs σ H Q := h
theorem pick_at {r : Row} {s : Nat} (h : s < r.length) : r[s]? = some (pickR r s) := by
  unfold pickR
  rw [List.getD_eq_getElem?_getD, List.getElem?_eq_getElem h]
  rfl
section
variable {K : PySem.W.Frag} {σ : L2.St} {H : Hp} {te : TE} {vs : List Nat} {i j : Nat}
/-- [.. for state in states], states a list or a tuple -/
theorem ev_lcSt {v : V} {ns : List Nat} {R : Nat → V → Hp → Prop} (hi : σ[i]? = some (some v)) (hs : StV H v ns) (few : ns.length ≤ 1000) (hw : ∀ x, wipe ((wipe σ vs).set j (some x)) vs = wipe σ vs) (hR : ∀ z v H H', TupS H H' → R z v H → R z v H')
    (he : ∀ z H1, z ∈ ns → Same H H1 → Ev te ((wipe σ vs).set j (some (.int (z : Int)))) H1 (R z)) :
    Ev (tLc (iEi (iList K (tVar i)) (iTup K (tVar i))) (gName j) tYes te vs) σ H (fun v H1 => ∃ p ys, v = .ref p ∧ H1 p = some (.lst ys) ∧ Paired (fun v z => R z v H1) ys ns) := fun Q q => by
  obtain ⟨p, rfl, hp⟩ := hs
  have hx : ∀ {k : Nat} {x : V} {z : Nat}, ns[k]? = some z → (natV ns)[k]? = some x → x = .int (z : Int) := fun {k x z} h1 h2 => by
    unfold natV at h2
    rw [List.getElem?_map, h1] at h2
    exact (Option.some.inj h2).symm
  rcases hp with hp | hp
  · exact .inl (lc_runL (K := K) (xs := natV ns) (fun Q q => ⟨_, hi, q _ _ (Same.refl _) ⟨p, rfl, SqL.of hp⟩⟩) ns (natV_len ns) (fun _ => true) R (by omega) hw hR (fun k z x H1 hz hx' e => ⟨evt_yes, fun _ H3 e3 => by rw [hx hz hx']; exact he z H3 (List.mem_of_getElem? hz) (e.trans e3)⟩)
      fun p H1 ys hp e hl hP => q _ _ e ⟨p, ys, rfl, hl, by rw [filter_all] at hP; exact hP⟩)
  · exact .inr (lc_runT (K := K) (xs := natV ns) (fun Q q => ⟨_, hi, q _ _ (Same.refl _) ⟨p, rfl, .inl hp⟩⟩) ns (natV_len ns) (fun _ => true) R (by omega) hw hR (fun k z x H1 hz hx' e => ⟨evt_yes, fun _ H3 e3 => by rw [hx hz hx']; exact he z H3 (List.mem_of_getElem? hz) (e.trans e3)⟩)
      fun p H1 ys hp e hl hP => q _ _ e ⟨p, ys, rfl, hl, by rw [filter_all] at hP; exact hP⟩)
/-- row[state] -/
theorem ev_rowAt {v : V} {r : Row} {s : Nat} (hi : σ[i]? = some (some v)) (hv : RowV H v r) (hj : σ[j]? = some (some (.int (s : Int)))) (lt : s < r.length) : Ev (tOp (rIxT K) (tVar i) (tVar j)) σ H fun v H1 => PairV H1 v (pickR r s) := fun Q q => by
  obtain ⟨a, rs, rfl, ha, hx⟩ := hv
  obtain ⟨x, hx1, hx2⟩ := paired_ix hx (pick_at lt)
  exact ⟨_, hi, _, hj, a, rs, _, x, rfl, rfl, SqT.of ha, atI_nat hx1, q _ _ (Same.refl _) hx2⟩
theorem ev_num {x : TE} {v : V} {g : Int → Option Int} {y : Int} (hi : σ[i]? = some (some v)) (hv : NuV H v g) (hx : Ev x σ H fun v _ => v = .int y) (hg : (g y).isSome = true) (h0 : 0 ≤ y) : Ev (tEi (tOp (rIxT K) (tVar i) x) (tDGet (tVar i) x)) σ H fun v _ => v = .int (numG g y) := fun Q q => by
  obtain ⟨z, hz⟩ := Option.isSome_iff_exists.mp hg
  have en : numG g y = z := by
    unfold numG
    rw [hz]
    rfl
  rw [en] at q
  rcases hv with ⟨p, ns, rfl, hp, look⟩ | ⟨d, kvn, rfl, hd, look⟩
  · refine .inl ⟨_, hi, hx _ fun u H1 e1 eu => ⟨p, natV ns, y, .int z, rfl, eu, .inl (rd_keep e1 hp), ?_, q _ _ e1 rfl⟩⟩
    have h1 := look y z h0 hz
    obtain ⟨n, hn⟩ : ∃ n : Nat, y = (n : Int) := ⟨y.toNat, by omega⟩
    subst hn
    refine atI_nat ?_
    rw [Int.toNat_natCast, List.getElem?_map] at h1
    unfold natV
    rw [List.getElem?_map]
    cases hc : ns[n]? with
    | none => rw [hc] at h1; cases h1
    | some m =>
      rw [hc] at h1
      rw [← Option.some.inj h1]
      rfl
  · refine .inr ⟨_, hi, hx _ fun u H1 e1 eu => ⟨d, .int z, rfl, ?_, q _ _ e1 rfl⟩⟩
    have hg := DGet.k (k := Sum.inl y) (e1 _ _ hd)
    rw [look y z hz] at hg
    rw [eu]
    exact hg
theorem ev_pickE {x : TE} {p : Int × Int} {k : Nat} {y : Int} (hx : Ev x σ H fun v H1 => PairV H1 v p) (hj : [p.1, p.2][k]? = some y) : Ev (tOp (rIxT K) x (tC (.int (k : Int)))) σ H fun v _ => v = .int y := fun Q q =>
  hx _ fun v H1 e1 h1 => by
    obtain ⟨c, rfl, hc⟩ := h1
    refine ⟨c, _, _, .int y, rfl, rfl, SqT.of hc, ?_, q _ _ e1 rfl⟩
    rcases k with _ | _ | k
    · cases hj
      exact atI_nat (j := 0) rfl
    · cases hj
      exact atI_nat (j := 1) rfl
    · cases hj
end
section
variable {P : Program} {w : World} {K : PySem.W.Frag} {mg : Str → Option Value} {base : Heap} {C : Addr}
abbrev s_over : Stmt := top 25
theorem sc_kind_over : FnScope ["kind", "states", "numbers", "name", "row", "state"] ["kind", "states", "numbers"] (defScope s_over) := ⟨rfl, rfl, rfl, by decide +kernel, rfl, by decide +kernel, by decide +kernel⟩
def overOk (states : List Nat) (g : Int → Option Int) (t : Tab) : Prop := ∀ e ∈ t, ∀ s ∈ states, s < sizeT t ∧ (g (pickR e.2 s).1).isSome = true ∧ 0 ≤ (pickR e.2 s).1
def sp_over (C : Addr) : Sp := fun vs H Q _ => ∃ (v st nu : V) (t : Tab) (states : List Nat) (g : Int → Option Int), vs = [v, st, nu] ∧ KindV C H v t ∧ StV H st states ∧ states.length ≤ 100 ∧ NuV H nu g ∧ overOk states g t ∧ sp_kind C (overT states g t) H Q
theorem ok_over (B : Bt mg) (T : Kc K C) (OC_Kind : OkC P w K mg base "Kind" C 5 ["self", "operations"] (sp_init C)) (OP_operations : OkP P w K mg base C "operations" 1 (sp_ops C)) (D : Df K mg "_kind_over" s_over ["kind", "states", "numbers"]) : Ok P w K mg base "_kind_over" 7 ["kind", "states", "numbers"] (sp_over C) := by
  refine D.ok sc_kind_over (fun vs H Q E h => ?_) (fun f cdv A outer s H vs Q E hr h => ?_)
  · obtain ⟨v, st, nu, t, states, g, rfl, _⟩ := h
    rfl
  · obtain ⟨v, st, nu, t, states, g, rfl, hk, hst', few, hnu, good, ok2, nd2, q⟩ := h
    have hu := hu_of hr
    refine ⟨_, pss_one (ps_ret (OC_Kind.make hr (ha := pa_cons (pe_dc (own := [("name", 3), ("row", 4)]) (g := gTup K 2 (gCons (gName 3) (gCons (gName 4) (gNil)))) (tt := tYes) rfl sc_kind_over.nd (pi_items (pe_frz (OP_operations.get hr T.cl (he := pv 0)))) (blkOk_by (own := [("name", 3), ("row", 4)]) (N := ["kind", "states", "numbers", "name", "row", "state"]) (sc := defScope s_over) (by decide +kernel)) (fun _ _ _ _ _ => pg_tup (by rfl) (pgs_cons (pg_name (i := 3) sc_kind_over.nd rfl (.inl rfl)) (pgs_cons (pg_name (i := 4) sc_kind_over.nd rfl (.inr rfl)) (pgs_nil)))) (fun _ _ _ _ _ => pts_nil) (fun _ _ _ _ _ => pv 3) (fun _ _ _ _ _ => pe_callTy (tupleK (K := K)) (by rfl) B.tuple (by decide +kernel) (pa_cons (pe_lc (own := [("state", 5)]) (g := gName 5) (tt := tYes) rfl sc_kind_over.nd (pi_ei (piL (K := K) (pv 1)) (piT (K := K) (pv 1))) (blkOk_by (own := [("state", 5)]) (N := ["kind", "states", "numbers", "name", "row", "state"]) (by rfl)) (fun _ _ _ _ _ => pg_name (i := 5) sc_kind_over.nd rfl (.inl rfl)) (fun _ _ _ _ _ => pts_nil) (fun _ _ _ _ _ => pe_tup (pa_cons (pe_ei (pe_ix (ixTK (K := K)) (pv 2) (pe_ix (ixTK (K := K)) (pe_ix (ixTK (K := K)) (pv 4) (pv 5) (fun _ _ => rfl)) (pe_int) (fun _ _ => rfl)) (fun _ _ => rfl)) (pe_dget hu (pv 2) (pe_ix (ixTK (K := K)) (pe_ix (ixTK (K := K)) (pv 4) (pv 5) (fun _ _ => rfl)) (pe_int) (fun _ _ => rfl)) (fun _ _ => rfl))) (pa_cons (pe_ix (ixTK (K := K)) (pe_ix (ixTK (K := K)) (pv 4) (pv 5) (fun _ _ => rfl)) (pe_int) (fun _ _ => rfl)) (pa_nil))))) (pa_nil)))) (pa_nil)))), ?_⟩
    obtain ⟨a, dx, d, kvs, rfl, ha, hd, ht, hok, nd, hst⟩ := id hk
    dsimp only [tRet, tMake, tCons, tNil]
    refine dc_bindI ?_
    refine ⟨_, rfl, a, dx, _, rfl, ha, .ref a, t, rfl, hk, fun p kv hp htp => ⟨p, .dK kv, rfl, upd_same, trivial, fun od => ?_⟩⟩
    have e1 : Same H (upd (upd H p (.dK kv)) p (.frz od (.dK kv))) := same_mut (same_new hp) hp
    have hf : (upd (upd H p (.dK kv)) p (.frz od (.dK kv))) p = some (.frz od (.dK kv)) := upd_same
    have htp2 := htp.mono (tups_of e1)
    generalize upd (upd H p (.dK kv)) p (.frz od (.dK kv)) = H1 at e1 hf htp2
    refine dc_tabI (K := K) (o := od) (kvs := kv) (ev_c rfl) hf htp2 (few_tab hok) (fun _ => true) (fun e => e.1) (fun e => overR states g e.2) nd (by intro _ _; rfl) (fun e x H2 he e2 hx => ⟨evt_yes, fun _ => ev_is rfl rfl, fun _ => ?_⟩) (fun p2 H2 kvs' e2 hp2 ht2 => ?_)
    · refine ev_rowOf (zs := states) (f := fun s => (numG g (pickR e.2 s).1, (pickR e.2 s).2)) ?_
      refine ev_lcSt rfl (hst'.keep (e1.trans e2)) (by omega) (by intro _; rfl) (fun z v H H' e h => h.mono e) fun s0 H3 hs0 e3 => ?_
      obtain ⟨lt, hg, h0⟩ := good e he s0 hs0
      have hl : s0 < e.2.length := by rw [size_of_ok hok _ he]; exact lt
      have hx3 := hx.mono (tups_of e3)
      exact ev_pair (ev_num rfl (hnu.keep (e1.trans (e2.trans e3))) (ev_pickE (k := 0) (ev_rowAt rfl hx3 rfl hl) rfl) hg h0) fun H4 e4 => ev_pickE (k := 1) (ev_rowAt rfl (hx3.mono (tups_of e4)) rfl hl) rfl
    · rw [filter_all] at ht2
      exact mk_kind (Q := Q) (t := overT states g t) hp2 ht2 ok2 nd2 fun v' H' t' e' hk' pm => q v' H' t' (e1.trans (e2.trans e')) hk' pm
end
end Tm

/-! _is_state_tuple, _is_mapped, is_map. -/
namespace Tm
open PySem PySem.Spec PyProof.Rows L2
local macro_rules | `(tactic| walk_at "x") => `(tactic| dsimp only [tNext, tRet, tSeq, tCall, tCB, tC, tCons, tNil, tAsg, tDrop, sFld])
def inAll (m : Nat) (ns : List Nat) : Bool := ns.all fun n => decide (n < m)
def mapR (r r2 : Row) (ns : List Nat) : Bool := (List.range r.length).all fun s => decide (pickR r2 (ns.getD s 0) = (((ns.getD (pickR r s).1.toNat 0 : Nat) : Int), (pickR r s).2))
theorem natV_at {ns : List Nat} {i : Nat} (h : i < ns.length) : (natV ns)[i]? = some (.int (ns.getD i 0 : Nat)) := by
  unfold natV
  rw [List.getElem?_map, List.getD_eq_getElem?_getD, List.getElem?_eq_getElem h]
  rfl
theorem ok_range {t : Tab} {e : Str × Row} (h : okTab t = true) (he : e ∈ t) {p : Int × Int} (hp : p ∈ e.2) : 0 ≤ p.1 ∧ p.1 < sizeT t := by
  have h5 := h
  unfold okTab at h5
  simp only [Bool.and_eq_true, decide_eq_true_eq] at h5
  have h6 := List.all_eq_true.mp h5.2 e he
  simp only [Bool.and_eq_true] at h6
  have h7 := h6.2
  unfold okRow at h7
  simp only [Bool.and_eq_true, decide_eq_true_eq] at h7
  have h8 := List.all_eq_true.mp h7.2 p hp
  unfold okPair at h8
  simp only [Bool.and_eq_true, decide_eq_true_eq] at h8
  omega
section
variable {P : Program} {w : World} {K : PySem.W.Frag} {mg : Str → Option Value} {base : Heap} {C : Addr}
abbrev s_statet : Stmt := top 23
theorem sc_is_state_tuple : FnScope ["value", "many", "size", "state"] ["value", "many", "size"] (defScope s_statet) := ⟨rfl, rfl, rfl, by decide +kernel, rfl, by decide +kernel, by decide +kernel⟩
def sp_statet : Sp := fun vs H Q _ => ∃ (p : Addr) (ns : List Nat) (many size : Nat), vs = [.ref p, .int (many : Int), .int (size : Int)] ∧ Rd H p (.tup (natV ns)) ∧ ns.length ≤ 100 ∧ ∀ H', Same H H' → Q (.bl (decide (ns.length = many) && inAll size ns)) H'
theorem ok_statet (B : Bt mg) (O_is_number_in : Ok P w K mg base "is_number_in" 1 ["value", "least", "most"] sp_num) (D : Df K mg "_is_state_tuple" s_statet ["value", "many", "size"]) : Ok P w K mg base "_is_state_tuple" 3 ["value", "many", "size"] sp_statet := by
  refine D.ok sc_is_state_tuple (fun vs H Q E h => ?_) (fun f cdv A outer s H vs Q E hr h => ?_)
  · obtain ⟨p, ns, many, size, rfl, _⟩ := h
    rfl
  · obtain ⟨p, ns, many, size, rfl, hp, few, q⟩ := h
    refine ⟨_, pss_cons (ps_if (PW.pt (pw_or (pt_not (pt_val (pe_callB (isiK (K := K)) (by rfl) B.isinstance (by decide +kernel) (pa_cons (pv 0) (pa_cons (pe_ty (n := "tuple") (by rfl) B.tuple (by decide +kernel)) (pa_nil)))))) (pw_or1 (pt_cmpR op_ne (pe_callB (lenK (K := K)) (by rfl) B.len (by decide +kernel) (pa_cons (pv 0) (pa_nil))) (pv 1) (nomark _)))))
        (pss_one (ps_ret (pe_bl)))
        (pss_nil))
      (pss_one (ps_ret (pe_callB (allK (K := K)) (by rfl) B.all (by decide +kernel) (pa_cons (pe_lc (own := [("state", 3)]) (g := gName 3) (tt := tYes) rfl sc_is_state_tuple.nd (pi_tup (pv 0)) (blkOk_by (own := [("state", 3)]) (N := ["value", "many", "size", "state"]) (sc := defScope s_statet) (by decide +kernel)) (fun _ _ _ _ _ => pg_name (i := 3) sc_is_state_tuple.nd rfl (.inl rfl)) (fun _ _ _ _ _ => pts_nil) (fun _ _ _ _ _ => O_is_number_in.call hr (ha := pa_cons (pv 3) (pa_cons (pe_int) (pa_cons (pe_op op_sub (pv 2) (pe_int)) (pa_nil)))))) (pa_nil))))), ?_⟩
    refine ⟨_, rfl, .ref p, .ty "tuple", _, _, true, rfl, .ty "tuple", hp.elim (fun h => .base (.tup h)) (fun ⟨_, h⟩ => .fTuple h), kit_ty (by decide +kernel), _, rfl, ?_⟩
    refine ifF rfl ?_
    refine ⟨_, rfl, p, _, rfl, .inr (.inl hp), _, rfl, rfl, _, rfl, ?_⟩
    by_cases hl : ns.length = many
    · refine ifF (by rw [natV_len, hl]; simp) ?_
      dsimp only [tNext]
      walk_at "x"
      refine lc_runT (K := K) (xs := natV ns) (ev_is rfl ⟨p, rfl, .inl hp⟩) ns (natV_len ns) (fun _ => true) (fun z v _ => v = V.bl (decide (z < size))) (by omega) (by intro _; rfl) (fun _ _ _ _ _ h => h)
        (fun i z v H1 hi y e => ⟨evt_yes, fun _ H3 e3 Q q => ?_⟩) (fun p H1 ys hp e hl' hP => ?_)
      · have hv : v = .int (z : Int) := by
          unfold natV at y
          rw [List.getElem?_map, hi] at y
          exact (Option.some.inj y).symm
        subst hv
        refine ⟨_, rfl, _, rfl, _, _, rfl, rfl, (z : Int), 0, (size : Int) - 1, rfl, q _ _ (Same.refl _) ?_⟩
        congr 1
        rw [Bool.eq_iff_iff]
        simp only [Bool.and_eq_true, decide_eq_true_eq]
        omega
      · rw [filter_all] at hP
        have ey := bools_all _ hP
        rw [ey] at hl'
        refine ⟨p, _, rfl, SqL.of hl', ?_⟩
        rw [all_id_map]
        have := q H1 e
        rw [decide_eq_true hl, Bool.true_and] at this
        exact this
    · refine ifT (by rw [natV_len]; simp only [V.int.injEq, Bool.not_eq_true', decide_eq_false_iff_not]; omega) ?_
      have := q H (Same.refl _)
      rw [decide_eq_false hl, Bool.false_and] at this
      exact this
def rowAt (t : Tab) (x : Str) : Row := ((t.find? fun e => decide (e.1 = x)).map (·.2)).getD []
theorem row_in : ∀ {t : Tab} {x : Str}, x ∈ namesT t → (x, rowAt t x) ∈ t
  | [], x, h => nomatch h
  | e :: r, x, h => by
    unfold rowAt
    rw [List.find?_cons]
    by_cases z : e.1 = x
    · subst z
      simp
    · rw [show decide (e.1 = x) = false from decide_eq_false z]
      have h2 : x ∈ namesT r := by
        rcases List.mem_cons.mp (show x ∈ e.1 :: namesT r from h) with q | q
        · exact absurd q.symm z
        · exact q
      exact List.mem_cons_of_mem _ (row_in h2)
def isMap (t u : Tab) (ns : List Nat) : Bool := decide (namesT t = namesT u) && (decide (ns.length = sizeT t) && inAll (sizeT u) ns) && (namesT t).all fun x => mapR (rowAt t x) (rowAt u x) ns
theorem eqv_strs : ∀ xs ys : List Str, PyData.eqvAll (xs.map PyData.str) (ys.map PyData.str) = decide (xs = ys)
  | [], [] => rfl
  | [], _ :: _ => by simp [PyData.eqvAll]
  | _ :: _, [] => by simp [PyData.eqvAll]
  | x :: xs, y :: ys => by
    show ((x == y) && PyData.eqvAll (xs.map PyData.str) (ys.map PyData.str)) = _
    rw [eqv_strs xs ys, Bool.eq_iff_iff]
    simp
theorem nice_strsT {xs : List Str} (h : xs.all PyData.strOk = true) : Nice 1 (.tuple (xs.map .str)) := .tuple fun d hd => by
  obtain ⟨x, hx, rfl⟩ := List.mem_map.mp hd
  exact nice_str (List.all_eq_true.mp h x hx)
end
end Tm

/-! _numbered, _mark, _classes, image_of. -/
namespace Tm
open PySem PySem.Spec PyProof.Rows L2
local macro_rules | `(tactic| walk_at "x") => `(tactic| dsimp only [tNext, tRet, tSeq, tCall, tCB, tC, tCons, tNil, tAsg, tDrop, sFld])
/-! ### the mirror -/
def moreF (fs : List (List Int)) (m : List Int) : List (List Int) := if m ∈ fs then fs else fs ++ [m]
def firstsL (ms : List (List Int)) : List (List Int) := ms.foldl moreF []
def ixOf : List (List Int) → List Int → Nat
  | [], _ => 0
  | x :: r, m => if x = m then 0 else ixOf r m + 1
theorem ixOf_at : ∀ {l : List (List Int)} {m : List Int}, m ∈ l → l[ixOf l m]? = some m ∧ ∀ k z, k < ixOf l m → l[k]? = some z → z ≠ m
  | x :: r, m, h => by
    unfold ixOf
    by_cases e : x = m
    · rw [if_pos e]
      exact ⟨by rw [← e]; rfl, fun k z hk _ => absurd hk (Nat.not_lt_zero _)⟩
    · rw [if_neg e]
      have h2 : m ∈ r := by
        rcases List.mem_cons.mp h with q | q
        · exact absurd q.symm e
        · exact q
      obtain ⟨h3, h4⟩ := ixOf_at h2
      refine ⟨h3, fun k z hk hz => ?_⟩
      cases k with
      | zero => rw [← Option.some.inj hz]; exact e
      | succ k => exact h4 k z (by omega) hz
def numL (ms : List (List Int)) : List Nat := ms.map fun m => ixOf (firstsL ms) m
theorem firsts_len : ∀ (ms fs : List (List Int)), (ms.foldl moreF fs).length ≤ fs.length + ms.length
  | [], fs => Nat.le_refl _
  | m :: r, fs => by
    refine Nat.le_trans (firsts_len r (moreF fs m)) ?_
    unfold moreF
    split
    · simp only [List.length_cons]; omega
    · rw [List.length_append]; simp only [List.length_cons, List.length_nil]; omega
theorem firsts_mem : ∀ (ms fs : List (List Int)) (m : List Int), m ∈ fs ∨ m ∈ ms → m ∈ ms.foldl moreF fs
  | [], fs, m, h => h.elim id fun z => nomatch z
  | x :: r, fs, m, h => by
    refine firsts_mem r (moreF fs x) m ?_
    unfold moreF
    rcases h with z | z
    · left
      split
      · exact z
      · exact List.mem_append_left _ z
    · rcases List.mem_cons.mp z with q | q
      · subst q
        left
        split
        · assumption
        · simp
      · exact .inr q
theorem firsts_sub : ∀ (ms fs : List (List Int)) (m : List Int), m ∈ ms.foldl moreF fs → m ∈ fs ∨ m ∈ ms
  | [], fs, m, h => .inl h
  | x :: r, fs, m, h => by
    rcases firsts_sub r (moreF fs x) m h with z | z
    · unfold moreF at z
      split at z
      · exact .inl z
      · rcases List.mem_append.mp z with q | q
        · exact .inl q
        · rw [List.mem_singleton.mp q]; exact .inr List.mem_cons_self
    · exact .inr (List.mem_cons_of_mem _ z)
theorem firsts_step {ms : List (List Int)} {i : Nat} {m : List Int} (h : ms[i]? = some m) : firstsL (ms.take (i + 1)) = moreF (firstsL (ms.take i)) m := by
  rw [take_one h]
  unfold firstsL
  rw [List.foldl_append]
  rfl
/-- marks: how they stand in the heap, what they are as data -/
structure MkR (K : PySem.W.Frag) (ms : List (List Int)) (enc : List Int → PyData) (R : List Int → V → Hp → Prop) : Prop where
  mono : ∀ a v H H', TupS H H' → R a v H → R a v H'
  dp : ∀ a v H, R a v H → Dp K H v (enc a)
  eqv : ∀ a ∈ ms, ∀ b ∈ ms, PyData.eqv (enc a) (enc b) = decide (a = b)
  nice : ∀ a ∈ ms, Nice 3 (enc a)
theorem any_in {K : PySem.W.Frag} {ms L : List (List Int)} {enc : List Int → PyData} {R : List Int → V → Hp → Prop} (M : MkR K ms enc R) {m : List Int} (hm : m ∈ ms) (hL : ∀ z ∈ L, z ∈ ms) : (L.map enc).any (fun z => PyData.eqv z (enc m)) = decide (m ∈ L) := by
  rw [Bool.eq_iff_iff, decide_eq_true_eq, List.any_eq_true]
  constructor
  · rintro ⟨z, hz, e⟩
    obtain ⟨y, hy, rfl⟩ := List.mem_map.mp hz
    rw [M.eqv y (hL y hy) m hm, decide_eq_true_eq] at e
    exact e ▸ hy
  · intro h
    exact ⟨enc m, List.mem_map.mpr ⟨m, h, rfl⟩, by rw [M.eqv m hm m hm]; exact decide_eq_true rfl⟩
theorem dp_marks {K : PySem.W.Frag} {enc : List Int → PyData} {R : List Int → V → Hp → Prop} {H : Hp} (d : ∀ a v, R a v H → Dp K H v (enc a)) : ∀ {vs : List V} {ms : List (List Int)}, Paired (fun v a => R a v H) vs ms → DpAll K H vs (ms.map enc)
  | _, _, .nil => .nil
  | _, _, .cons h t => .cons (d _ _ h) (dp_marks d t)
section
variable {P : Program} {w : World} {K : PySem.W.Frag} {mg : Str → Option Value} {base : Heap} {C : Addr}
end
end Tm

/-! _mark, _classes. -/
namespace Tm
open PySem PySem.Spec PyProof.Rows L2
local macro_rules | `(tactic| walk_at "x") => `(tactic| dsimp only [tNext, tRet, tSeq, tCall, tCB, tC, tCons, tNil, tAsg, tDrop, sFld])
abbrev Rows := List Row
def markL (rws : Rows) (ns : List Nat) (s : Nat) : List Int := ((ns.getD s 0 : Nat) : Int) :: rws.map fun r => ((ns.getD (pickR r s).1.toNat 0 : Nat) : Int)
def cls0 (rws : Rows) (n : Nat) : List Nat := numL ((List.range n).map fun s => rws.map fun r => (pickR r s).2)
def clsS (rws : Rows) (n : Nat) (ns : List Nat) : List Nat := numL ((List.range n).map (markL rws ns))
def clsN (rws : Rows) (n : Nat) : Nat → List Nat
  | 0 => cls0 rws n
  | i + 1 => clsS rws n (clsN rws n i)
theorem num_len (ms : List (List Int)) : (numL ms).length = ms.length := List.length_map ..
theorem cls_len (rws : Rows) (n : Nat) : ∀ i, (clsN rws n i).length = n
  | 0 => by unfold clsN cls0; rw [num_len, List.length_map, List.length_range]
  | i + 1 => by unfold clsN clsS; rw [num_len, List.length_map, List.length_range]
def R1 (a : List Int) (v : V) (H : Hp) : Prop := ∃ q, v = .ref q ∧ H q = some (.tup (a.map V.int))
def enc1 (a : List Int) : PyData := .tuple (a.map .int)
def R2m (a : List Int) (v : V) (H : Hp) : Prop := ∃ n rest q q2, a = n :: rest ∧ v = .ref q ∧ H q = some (.tup [.int n, .ref q2]) ∧ H q2 = some (.tup (rest.map V.int))
def enc2 : List Int → PyData
  | [] => .none
  | n :: r => .tuple [.int n, .tuple (r.map .int)]
theorem eqv_ints : ∀ xs ys : List Int, PyData.eqvAll (xs.map PyData.int) (ys.map PyData.int) = decide (xs = ys)
  | [], [] => rfl
  | [], _ :: _ => by simp [PyData.eqvAll]
  | _ :: _, [] => by simp [PyData.eqvAll]
  | x :: xs, y :: ys => by
    show ((x == y) && PyData.eqvAll (xs.map PyData.int) (ys.map PyData.int)) = _
    rw [eqv_ints xs ys, Bool.eq_iff_iff]
    simp
theorem mk1 {K : PySem.W.Frag} (ms : List (List Int)) : MkR K ms enc1 R1 where
  mono := fun a v H H' e ⟨q, h1, h2⟩ => ⟨q, h1, e _ _ h2⟩
  dp := fun a v H ⟨q, h1, h2⟩ => by subst h1; exact .tup (SqT.of h2) (dp_ints _)
  eqv := fun a _ b _ => eqv_ints a b
  nice := fun a _ => nice_up (nice_ints a) (by decide)
theorem mk2 {K : PySem.W.Frag} {ms : List (List Int)} (h : ∀ a ∈ ms, a ≠ []) : MkR K ms enc2 R2m where
  mono := fun a v H H' e ⟨n, r, q, q2, h1, h2, h3, h4⟩ => ⟨n, r, q, q2, h1, h2, e _ _ h3, e _ _ h4⟩
  dp := fun a v H ⟨n, r, q, q2, h1, h2, h3, h4⟩ => by
    subst h1 h2
    exact .tup (SqT.of h3) (.cons (.int _) (.cons (.tup (SqT.of h4) (dp_ints _)) .nil))
  eqv := fun a ha b hb => by
    match a, b, h a ha, h b hb with
    | n :: r, m :: u, _, _ =>
      show ((n == m) && (PyData.eqvAll (r.map PyData.int) (u.map PyData.int) && true)) = _
      rw [eqv_ints, Bool.eq_iff_iff]
      simp
  nice := fun a ha => by
    match a, h a ha with
    | n :: r, _ => exact nice_up (n := 2) (.tuple fun d hd => by
        rcases List.mem_cons.mp hd with z | z
        · rw [z]; exact nice_up (nice_int n) (by decide)
        · rw [List.mem_singleton.mp z]; exact nice_ints r) (by decide)
section
variable {K : PySem.W.Frag} {σ : L2.St} {H : Hp} {te : TE} {vs : List Nat} {i j k : Nat}
/-- tuple([a number for row in rows]) -/
theorem ev_rowsT {p : Addr} {xs : List V} {rws : Rows} (hi : σ[i]? = some (some (.ref p))) (hp : H p = some (.lst xs)) (hx : Paired (RowV H) xs rws) (few : rws.length ≤ 1000) (hw : ∀ x, wipe ((wipe σ vs).set j (some x)) vs = wipe σ vs) (f : Row → Int)
    (he : ∀ r x H1, r ∈ rws → Same H H1 → RowV H1 x r → Ev te ((wipe σ vs).set j (some x)) H1 fun v _ => v = .int (f r)) :
    Ev (tCB (fun xs H Q => ∃ p ys, xs = [.ref p] ∧ ((SqL K H p ys ∧ ∀ l, H l = none → Q (.ref l) (upd H l (.tup ys))) ∨ (SqT K H p ys ∧ Q (.ref p) H))) (tCons (tLc (iList K (tVar i)) (gName j) tYes te vs) tNil)) σ H fun v H1 => R1 (rws.map f) v H1 := fun Q q => by
  have hlx := Paired.length hx
  dsimp only [tCB, tCons, tNil]
  refine lc_runL (K := K) (xs := xs) (fun Q q => ⟨_, hi, q _ _ (Same.refl _) ⟨p, rfl, SqL.of hp⟩⟩) rws hlx (fun _ => true) (fun r v _ => v = .int (f r)) (by omega) hw (fun _ _ _ _ _ h => h)
    (fun n r x H1 hr hxi e => ⟨evt_yes, fun _ H3 e3 => ?_⟩) (fun p5 H5 ys hp5 e5 hl5 hP5 => ?_)
  · obtain ⟨r', hr', hrow⟩ := paired_ix2 hx hxi
    obtain rfl : r' = r := by rw [hr] at hr'; exact (Option.some.inj hr').symm
    exact he _ x H3 (List.mem_of_getElem? hr) (e.trans e3) (hrow.mono (tups_of (e.trans e3)))
  · rw [filter_all] at hP5
    refine ⟨p5, ys, rfl, .inl ⟨SqL.of hl5, fun l hl => q _ _ (e5.trans (same_new hl)) ⟨l, rfl, ?_⟩⟩⟩
    rw [upd_same, paired_fun hP5, List.map_map]
    rfl
/-- numbers[e] -/
theorem ev_numT {x : TE} {p : Addr} {ns : List Nat} {y : Int} (hi : σ[i]? = some (some (.ref p))) (hp : Rd H p (.tup (natV ns))) (hx : Ev x σ H fun v _ => v = .int y) (h0 : 0 ≤ y) (h1 : y < ns.length) : Ev (tOp (rIxT K) (tVar i) x) σ H fun v _ => v = .int ((ns.getD y.toNat 0 : Nat) : Int) := fun Q q => by
  refine ⟨_, hi, hx _ fun u H1 e1 eu => ⟨p, natV ns, y, _, rfl, eu, .inl (rd_keep e1 hp), ?_, q _ _ e1 rfl⟩⟩
  obtain ⟨n, rfl⟩ : ∃ n : Nat, y = (n : Int) := ⟨y.toNat, by omega⟩
  rw [Int.toNat_natCast]
  exact atI_nat (natV_at (by omega))
end
section
variable {P : Program} {w : World} {K : PySem.W.Frag} {mg : Str → Option Value} {base : Heap} {C : Addr}
theorem paired_rows {H : Hp} : ∀ {kv : List (L2.Key × V)} {t : Tab}, TabV H kv t → Paired (RowV H) (kv.map (·.2)) (t.map (·.2))
  | _, _, .nil => .nil
  | _, _, .cons h r => .cons h.2 (paired_rows r)
def rowsOf (t : Tab) : Rows := t.map (·.2)
end
end Tm

/-! max(a tuple), a tuple's index; image_of. -/
namespace Tm
open PySem PySem.Spec PyProof.Rows L2
local macro_rules | `(tactic| walk_at "x") => `(tactic| dsimp only [tNext, tRet, tSeq, tCall, tCB, tC, tCons, tNil, tAsg, tDrop, sFld])
def rMaxT (K : PySem.W.Frag) : List V → Hp → VK → Prop := fun vs H Q => ∃ (a : Addr) (ns : List Nat), vs = [V.ref a] ∧ SqT K H a (natV ns) ∧ 0 < ns.length ∧ ∀ m ∈ ns, (∀ y ∈ ns, y ≤ m) → Q (.int ((m : Nat) : Int)) H
theorem cr_maxT {X : Cx} {K : PySem.W.Frag} (calm : X.calm = true) (hK : X.K = K := by rfl) : CallR X (.builtin "max") (rMaxT K) := by
  subst hK
  intro pins s σ H vs us Q I r h
  obtain ⟨a, ns, rfl, hs, pos, q⟩ := h
  rw [Vals.ref1 r]
  obtain ⟨its, rv, tup, _⟩ := I.tuple hs
  have isT : s.heap.IsTuple a its.toArray := tup
  have less : a < s.heap.objs.size := by
    obtain ⟨_, e, _⟩ := id isT
    exact Heap.lt_size e
  have cnt : its.length = ns.length := by rw [← rv.length, natV_len]
  have nums : ∀ (i : Nat) (v : Value), its.toArray[i]? = some v → ∃ t, v = Value.int ((ns.getD i 0 : Nat) : Int) t := fun i v hv => by
    have hv2 : its[i]? = some v := by simpa using hv
    have hi : i < ns.length := cnt ▸ (List.getElem?_eq_some_iff.mp hv2).1
    obtain ⟨u, hu, ru⟩ := rv.get (natV_at hi)
    rw [hv2] at hu
    cases hu
    exact ru
  refine call_max_walk (wpAny_pyIter_tuple isT ⟨_, _, _, _, _, _, _, rfl, Walks.tuple (A := X.A.in1) (I.ok.hd calm) _ a (Nat.ne_of_lt less) its.toArray, ⟨⟨_, Heap.get?_push_size _ rfl, rfl, rfl⟩, isT.push _⟩, fun b hb => ?_, by simpa [cnt] using pos, CmpOf.ints_gt (fun i => ((ns.getD i 0 : Nat) : Int)) nums, fun v g n hv keep => ?_⟩)
  · have big : ∀ o, (s.heap.push o).objs.size = s.heap.objs.size + 1 := fun o => Heap.size_push ..
    refine Nat.lt_of_lt_of_eq ?_ (big _).symm
    rcases List.mem_cons.mp hb with e | e
    · exact e ▸ Nat.lt_succ_self _
    · exact List.mem_singleton.mp e ▸ Nat.lt_succ_of_lt less
  · obtain ⟨t, rfl⟩ := nums _ v hv
    obtain ⟨b1, b2⟩ := argBest_gt (fun i => ((ns.getD i 0 : Nat) : Int)) (its.toArray.size - 1)
    have in_ : argBest (fun i j => decide (((ns.getD i 0 : Nat) : Int) > ((ns.getD j 0 : Nat) : Int))) (its.toArray.size - 1) < ns.length := by
      have sz : its.toArray.size = its.length := List.size_toArray
      omega
    refine ⟨.int _, H, I.kept (t' := n) fun b u e => keep b u (fun m => Nat.ne_of_lt (Heap.lt_size e) (List.mem_singleton.mp m)) (Heap.get?_push_of_some _ e), ⟨t, rfl⟩, q _ ?_ fun y hy => ?_⟩
    · rw [List.getD_eq_getElem?_getD, List.getElem?_eq_getElem in_]
      exact List.getElem_mem in_
    · obtain ⟨j, hj, rfl⟩ := List.mem_iff_getElem.mp hy
      have h2 := b2 j (by have sz : its.toArray.size = its.length := List.size_toArray; omega)
      have e : ns.getD j 0 = ns[j] := by rw [List.getD_eq_getElem?_getD, List.getElem?_eq_getElem hj]; rfl
      rw [e] at h2
      exact Int.ofNat_le.mp h2
theorem flat_nats (l : List Nat) : (natV l).all flatV = true := flat_nat l
theorem mt_tupIx {X : Cx} {K : PySem.W.Frag} (hK : X.K = K := by rfl) : MtR X "tuple.index" (fun x xs H Q => ∃ (p : Addr) (ns : List Nat) (z j : Nat), x = .ref p ∧ xs = [.int (z : Int)] ∧ SqT K H p (natV ns) ∧ ns[j]? = some z ∧ (∀ m, m < j → ns[m]? ≠ some z) ∧ Q (.int (j : Nat)) H) := by
  subst hK
  intro pins s σ H x xs v us Q I rx rs h
  obtain ⟨p, ns, z, j, rfl, rfl, hs, hz, no, q⟩ := h
  cases rx
  obtain ⟨u, rfl, t, rfl⟩ := vals1 rs
  obtain ⟨its, rv, pl, _⟩ := I.tuple hs
  obtain ⟨⟨cls, dd, dt, sl⟩, ho, hc, n, hd⟩ := pl
  simp only at hc hd
  subst hc
  subst hd
  have cnt : its.toArray.size = ns.length := by rw [List.size_toArray, ← rv.length, natV_len]
  have hj : j < its.toArray.size := by rw [cnt]; exact (List.getElem?_eq_some_iff.mp hz).1
  have at_ : ∀ (m : Nat) (hm : m < its.toArray.size), ∃ y t', ns[m]? = some y ∧ its.toArray[m] = Value.int ((y : Nat) : Int) t' := fun m hm => by
    have hm' : m < ns.length := by rw [← cnt]; exact hm
    obtain ⟨u, hu, t', ht'⟩ := rv.get (natV_at hm')
    refine ⟨ns[m], t', List.getElem?_eq_getElem hm', ?_⟩
    have e1 := (List.getElem?_eq_some_iff.mp hu).2
    have e2 : ns.getD m 0 = ns[m] := by rw [List.getD_eq_getElem?_getD, List.getElem?_eq_getElem hm']; rfl
    rw [e2] at ht'
    rw [← ht', ← e1]
    simp
  refine call_meets PySem.F.slot_tuple_index ⟨_, ho, rfl⟩ PySem.F.entry_tuple_index (PySem.F.args_tuple_index_2 _ _) (TI.tuple_indexAt p its.toArray n dd sl (.int (z : Int) t) (eqU (.int (z : Int))) j hj ?_ ?_)
    ⟨ho, fun u hu => mem_eqAt (x := .int (z : Int)) ⟨t, rfl⟩ rfl rv (flat_nats ns) u (by simpa using hu), ⟨.int (j : Nat), H, I.tok _, ⟨_, rfl⟩, q⟩⟩
  · obtain ⟨y, t', h1, h2⟩ := at_ j hj
    rw [hz] at h1
    cases h1
    rw [h2]
    show ((z : Int) == (z : Int)) = true
    exact beq_self_eq_true _
  · intro m hm hmj
    obtain ⟨y, t', h1, h2⟩ := at_ m hm
    rw [h2]
    show ((y : Int) == (z : Int)) = false
    exact beq_eq_false_iff_ne.mpr fun e => no m hmj (by rw [h1, Int.ofNat.inj e])
/-- a method of a tuple that has no dict of its own -/
def tTupM (r : V → List V → Hp → VK → Prop) (to : TE) (t : TA) : TE := fun σ H Q => to σ H fun x H1 => (∃ p ns, x = .ref p ∧ TupD H1 p ns) ∧ t σ H1 fun xs H2 => r x xs H2 Q
theorem pe_tupM {X : Cx} {id : String} {r : V → List V → Hp → VK → Prop} {o e : Expr} {es : List Expr} {to : TE} {t : TA} {name : Str} {apos cpos : Pos} (pa : PlainAttrs "tuple") (slot : Slot "tuple" name id) (hty : typeOf (.builtin id) = pure (.type "method_descriptor")) (hm : MtR X id r) (ho : PE X o to) (ha : PA X (e :: es) t)
    (base : attributeBase o name X.env (eval o X.env) = eval o X.env := by rfl)
    (few : ((backTo cpos (starEach (e :: es) X.env)).all (fun x => !x.1) && (backToKw cpos (keywordEach [] X.env)).all (fun x => x.1.isSome) && decide ((e :: es).length + ([] : List Keyword).length + (if ([] : List Keyword).isEmpty then 0 else 1) < 30)) = true := by rfl)
    (line : (apos.endLine == cpos.line) = true := by rfl) (star : starEach (e :: es) X.env = (false, eval e X.env) :: starEach es X.env := by rfl) (plain : (backTo cpos (starEach es X.env)).any (·.1) = false := by rfl) :
    PE X (.Call (.Attribute o name apos) (e :: es) [] cpos) (tTupM r to t) := by
  refine ⟨fun pins s σ H Q I h => wpAny_Call_method_late base few line rfl (thn (ho.run pins s σ H _ I h) fun v s1 ⟨x, H1, I1, r1, td, q1⟩ => ?_)⟩
  obtain ⟨p, ns, rfl, ob, nodict, hp⟩ := td
  cases r1
  obtain ⟨get, room, its, rv, o2, get2, cl, _⟩ := I1.hok _ _ hp
  rw [get] at get2
  cases get2
  refine ⟨"tuple", id, pa, slot, hty, ⟨ob, get, cl⟩, fun a ea => by cases ea; exact ⟨ob, get, nodict⟩, ?_⟩
  have run := ha.run cpos pins s1 σ H1 _ I1 q1
  rw [star] at run ⊢
  refine Calls.callWith_builtin (by show (false || (backTo cpos (starEach es X.env)).any (·.1)) = false; rw [plain] <;> rfl) (Calls.evalArgs_plain ?_)
  exact thn run fun us s2 ⟨vs, H2, I2, r2, q2⟩ => hm pins s2 σ H2 (.ref p) vs (.ref p) us Q I2 rfl r2 q2
/-! ### image_of -/
def imgN (t : Tab) : List Nat := clsN (rowsOf t) (sizeT t) (sizeT t)
def ixN (ns : List Nat) (k : Nat) : Nat := ixOf (ns.map fun (n : Nat) => [(n : Int)]) [(k : Int)]
theorem ixN_at {ns : List Nat} {k : Nat} (h : k ∈ ns) : ns[ixN ns k]? = some k ∧ ∀ m, m < ixN ns k → ns[m]? ≠ some k := by
  obtain ⟨h1, h2⟩ := ixOf_at (l := ns.map fun (n : Nat) => [(n : Int)]) (m := [(k : Int)]) (List.mem_map.mpr ⟨k, h, rfl⟩)
  constructor
  · rw [List.getElem?_map] at h1
    show ns[ixOf (ns.map fun (n : Nat) => [(n : Int)]) [(k : Int)]]? = some k
    cases hc : ns[ixOf (ns.map fun (n : Nat) => [(n : Int)]) [(k : Int)]]? with
    | none => rw [hc] at h1; cases h1
    | some y =>
      rw [hc] at h1
      have := Option.some.inj h1
      simp only [List.cons.injEq, and_true] at this
      rw [Int.ofNat.inj this]
  · intro m hm e
    exact h2 m [(k : Int)] hm (by rw [List.getElem?_map, e]; rfl) rfl
def maxN (ns : List Nat) : Nat := ns.foldl max 0
def firN (ns : List Nat) (m : Nat) : List Nat := (List.range (m + 1)).map (ixN ns)
def gOf (ns : List Nat) (i : Int) : Option Int := if 0 ≤ i then (ns[i.toNat]?).map fun (n : Nat) => (n : Int) else none
/-- what is asked of the numbers m (the greatest of them) of a table's classes -/
structure ImgOk (t : Tab) (m : Nat) : Prop where
  few : m + 1 ≤ 13
  mem : m ∈ imgN t
  top : ∀ y ∈ imgN t, y ≤ m
  all : ∀ k, k ≤ m → k ∈ imgN t
  over : overOk (firN (imgN t) m) (gOf (imgN t)) t
def imgT (t : Tab) (m : Nat) : Tab := overT (firN (imgN t) m) (gOf (imgN t)) t
section
variable {P : Program} {w : World} {K : PySem.W.Frag} {mg : Str → Option Value} {base : Heap} {C : Addr}
/-- (a kind, a tuple of numbers) -/
def DuoV (C : Addr) (H : Hp) (v : V) (t : Tab) (ns : List Nat) : Prop := ∃ p k q, v = .ref p ∧ H p = some (.tup [k, .ref q]) ∧ KindV C H k t ∧ TupD H q ns
end
end Tm

/-! enumerate(a tuple); cut_kind. -/
namespace TmE
open PySem PySem.Spec PyProof.Rows L2 Tm
open AutoSeq1 (wpAny_loadPart')
abbrev itO (l : Addr) : Obj := { cls := .type "tuple_iterator", data := .fields #[.ref l, .int 0 0] }
abbrev enO (it : Addr) : Obj := { cls := .type "enumerate", data := .fields #[.none, .bool false, .ref it, rawInt 0, .none, .none] }
theorem meets_enT (l : Addr) (items : Array Value) (n : Nat) (dct : Option Addr) (sl : Array (Option Value)) :
    Meets (Builtin.«enumerate.__new__» ⟨[.type "enumerate", .ref l], []⟩) (fun _ R s => s.heap.get? l = some ⟨.type "tuple", dct, .seq items n, sl⟩ ∧
      R (.ok (.ret (.ref (s.heap.push (itO l)).objs.size))) { s with heap := (s.heap.push (itO l)).push (enO s.heap.objs.size) }) :=
  .of_wp fun prog w A R s h => by
    obtain ⟨heap0, gen0, drawn0, tok0, os0⟩ := s
    obtain ⟨there, h⟩ := h
    have ofT := sub_enumerate
    have isT : Heap.IsTuple (Shared.heap ⟨heap0, gen0, drawn0, tok0, os0⟩) l items := ⟨_, there, rfl, n, rfl⟩
    wp_walk using wpAny_loadPart' there
    refine wpAny_stack_any fun stack => wpAny_pure ?_
    split
    · rename_i cl _ _ _ _ _
      cases (cl == Value.type "enumerate") <;>
        (wp_walk using wpAny_loadPart' there, wpAny_pyIter_tuple isT
         exact ⟨_, rfl, h⟩)
    · wp_walk using wpAny_loadPart' there, wpAny_pyIter_tuple isT
      exact ⟨_, rfl, h⟩
section
variable {prog : Program} {w : World} {A : Around} {E : Value → Shared → Prop} {s : Shared}
theorem call_enT {l : Addr} {items : Array Value} {Q : Value → Shared → Prop} (isT : s.heap.IsTuple l items)
    (k : ∀ g, IsEnum g (s.heap.objs.size + 1) s.heap.objs.size 0 .none → g.IsTupleIter s.heap.objs.size l 0 → (∀ b o, s.heap.get? b = some o → g.get? b = some o) → Q (.ref (s.heap.objs.size + 1)) { s with heap := g }) :
    wpAny (model prog w) A (call (.type "enumerate") [.ref l]) Q E s := by
  obtain ⟨⟨cl, dct, dat, sl⟩, there, cl_, n, dat_⟩ := isT
  replace cl_ : cl = .type "tuple" := cl_
  replace dat_ : dat = .seq items n := dat_
  subst cl_ dat_
  refine callType_new F.called_enumerate (by decide) (F.typeCall_enumerate_1 _) (F.newCall_enumerate_1 _) (fun obj => F.args_object_init_2 obj _) F.entry_enumerate_new (meets_enT l items n dct sl) ⟨there, ?_⟩
  have one : (s.heap.push (itO l)).objs.size = s.heap.objs.size + 1 := Heap.size_push ..
  show _ ∧ _
  rw [one]
  have isE : IsEnum ((s.heap.push (itO l)).push (enO s.heap.objs.size)) (s.heap.objs.size + 1) s.heap.objs.size 0 .none := by
    have q := Heap.get?_push_size (s.heap.push (itO l)) (o := enO s.heap.objs.size) rfl
    rw [one] at q
    exact q
  exact ⟨⟨_, isE, rfl⟩, k _ isE ⟨_, Heap.get?_push_of_some _ (Heap.get?_push_size _ rfl), rfl, rfl⟩ fun b o x => Heap.get?_push_of_some _ (Heap.get?_push_of_some _ x)⟩
theorem drawsT (calm : A.handled = none) (it l : Addr) (ne : l ≠ it) (items : Array Value) : Draws prog w A it [it, l] items.size (fun i v => items[i]? = some v) (fun i h => h.IsTupleIter it l i ∧ h.IsTuple l items) where
  live := fun _ _ st => st.1.elim fun o q => ⟨o, q.1⟩
  frame := fun _ _ _ st k => ⟨st.1.at fun o e => k it (by simp) o e, st.2.at fun o e => k l (by simp) o e⟩
  item := fun i s Q E hi st q => RZ.nextOf_tuple_item st.1 st.2 (x := items[i]) (by simp [hi]) fun g st1 sb => q _ g s.toks (by simp [hi]) ⟨st1, st.2.extBut sb.extBut ne⟩ sb
  done := fun s Q E st q => RZ.nextOf_tuple_end calm st.1 st.2 (by simp) q
end
/-- a tuple's items, each in a new pair -/
def IteT (K : PySem.W.Frag) (a : Addr) : It :=
  ⟨fun i H => ∃ (xs : List V) (x : V), SqT K H a xs ∧ xs[i]? = some x, fun i H v H' => ∃ T x, v = .ref T ∧ H T = none ∧ H' = upd H T (.tup [.int (i : Nat), x]) ∧ ∀ xs, SqT K H a xs → xs[i]? = some x, fun i H => ∃ xs : List V, SqT K H a xs ∧ xs.length = i⟩
theorem tup_not {h : Heap} {a b : Addr} {items : Array Value} {o : Obj} (t : h.IsTuple a items) (g : h.get? b = some o) (c : o.cls ≠ .type "tuple") : a ≠ b := by
  rintro rfl
  obtain ⟨q, hq, cq, _⟩ := t
  rw [hq] at g
  cases g
  exact c cq
theorem turn_enT {P : Program} {w : World} {K : PySem.W.Frag} {elts : List Expr} {kk : Nat} {tpos : Pos} (a e it : Addr) :
    Turn P w K (.Tuple elts kk tpos) (IteT K a) [e, it] e (fun i h => (∃ old, IsEnum h e it ((i : Nat) : Int) old) ∧ h.IsTupleIter it a i ∧ e ≠ it) where
  mem := List.mem_cons_self
  obj := fun i h st b hb => by
    obtain ⟨⟨old, isE⟩, ⟨o, ho, _, dat⟩, _⟩ := st
    rcases List.mem_cons.mp hb with z | z
    · exact z ▸ ⟨_, isE, fun v q => nomatch q⟩
    · exact List.mem_singleton.mp z ▸ ⟨o, ho, fun v q => by rw [dat] at q; cases q⟩
  keep := fun i h h' st k => ⟨st.1.elim fun old isE => ⟨old, k e List.mem_cons_self _ isE⟩, st.2.1.at fun o q => k it (List.mem_cons_of_mem _ List.mem_cons_self) o q, st.2.2⟩
  item := by
    intro X eP ew eK calm i pins s σ H E I fr st go
    subst eP ew eK
    obtain ⟨⟨old, isE⟩, isI, ne⟩ := st
    obtain ⟨xs, x, hs, hx⟩ := go
    obtain ⟨its, rv, tup, _⟩ := I.tuple hs
    have isT : s.heap.IsTuple a its.toArray := tup
    obtain ⟨u, hu, ru⟩ := rv.get hx
    have ltE : e < s.heap.objs.size := Heap.lt_size isE
    have ltI : it < s.heap.objs.size := by
      obtain ⟨_, q, _⟩ := isI
      exact Heap.lt_size q
    have nI : a ≠ it := by
      obtain ⟨o, ho, ci, _⟩ := id isI
      exact tup_not isT ho (by rw [ci]; decide +kernel)
    have nE : a ≠ e := tup_not isT isE (show Value.type "enumerate" ≠ Value.type "tuple" by decide +kernel)
    have D := drawsT (prog := X.prog) (w := X.w) (A := X.A.in1) (I.ok.hd calm) it a nI its.toArray
    have lt : i < its.toArray.size := by
      rw [List.size_toArray]
      exact (List.getElem?_eq_some_iff.mp hu).1
    refine wpAny_pyNext_enum_itemD D isE ⟨isI, isT⟩ lt ne (fun z => by
      rcases List.mem_cons.mp z with z | z
      · exact ne z
      · exact nE (List.mem_singleton.mp z).symm) fun x' g tk at_ out st1 newT _ kept => ?_
    obtain rfl : x' = u := by
      have : its[i]? = some x' := by simpa using at_
      rw [hu] at this
      exact (Option.some.inj this).symm
    refine ⟨_, rfl, wpAny_letOwnedTupleGo_enum (s := { s with heap := g, toks := tk + 1 }) out fun g2 isE2 sb => ?_⟩
    have newT2 : g2.get? s.heap.objs.size = some { cls := .type "tuple", data := .seq #[.int i tk, x'] } := (sb.2 _ (Nat.ne_of_gt ltE)).trans newT
    have new : ObjOk X.prog X.w (upd H s.heap.objs.size (.tup [.int (i : Nat), x])) g2 s.heap.objs.size (.tup [.int (i : Nat), x]) :=
      ⟨by show 2 ≤ sizeLine; decide, [.int i tk, x'], .cons ⟨_, rfl⟩ (.cons ru .nil), ⟨_, newT2, rfl, _, rfl⟩⟩
    have off : ∀ b, b ∉ [e, it] → b ≠ e ∧ b ≠ it := fun b hb => ⟨fun z => hb (by simp [z]), fun z => hb (by simp [z])⟩
    have J : Inv X pins σ (upd H s.heap.objs.size (.tup [.int (i : Nat), x])) { s with heap := g2, toks := tk + 1 } :=
      I.turnedNew (ch := [e, it]) (fun b ob hb q => (sb.2 b (off b hb).1).trans (kept b ob (off b hb).1 (off b hb).2 q)) fr (Nat.le_refl _) new
    refine ⟨.ref s.heap.objs.size, _, J, rfl, ⟨_, x, rfl, I.hok.fresh (Nat.le_refl _), rfl, fun ys hy => by rw [I.tuple_inj hy hs]; exact hx⟩, ⟨⟨x', ?_⟩, st1.1.at fun o q => (sb.2 it (Ne.symm ne)).trans q, ne⟩, fun b hb => ?_⟩
    · rw [show ((i + 1 : Nat) : Int) = (i : Int) + 1 from by omega]
      exact isE2
    · have small : b < s.heap.objs.size := by
        rcases List.mem_cons.mp hb with z | z
        · exact z ▸ ltE
        · exact List.mem_singleton.mp z ▸ ltI
      rw [upd_ne (Nat.ne_of_lt small)]
      exact (fr b hb).1
  done := by
    intro X eP ew eK calm i pins s σ H E I fr st stop
    subst eP ew eK
    obtain ⟨⟨old, isE⟩, isI, ne⟩ := st
    obtain ⟨xs, hs, cnt⟩ := stop
    obtain ⟨its, rv, tup, _⟩ := I.tuple hs
    have isT : s.heap.IsTuple a its.toArray := tup
    have nI : a ≠ it := by
      obtain ⟨o, ho, ci, _⟩ := id isI
      exact tup_not isT ho (by rw [ci]; decide +kernel)
    have D := drawsT (prog := X.prog) (w := X.w) (A := X.A.in1) (I.ok.hd calm) it a nI its.toArray
    have ei : its.toArray.size = i := by rw [List.size_toArray, ← rv.length, cnt]
    obtain ⟨f0, f1, f2, f3, f4, f5⟩ := fr it (List.mem_cons_of_mem _ List.mem_cons_self)
    refine wpAny_pyNext_enum_endD D isE ⟨ei.symm ▸ isI, isT⟩ fun g eb => ⟨rfl, I.turned (t' := s.toks) (fun b o hb q => eb b o hb q) f0 f1 f3 f4 f5⟩
  self := fun A i s Q E st q => st.1.elim fun old isE => wpAny_pyIter_enum isE q
def iEnT (K : PySem.W.Frag) (ta : TA) : TI := fun σ H R => ta σ H fun vs H1 => ∃ a xs, vs = [.ref a] ∧ SqT K H1 a xs ∧ R (IteT K a) H1
theorem pi_enT {X : Cx} {K : PySem.W.Frag} {e : Expr} {ta : TA} {p pos tpos : Pos} {elts : List Expr} {kk : Nat} (gl : Gl X "enumerate") (un : X.mg "enumerate" = none) (ha : PA X [e] ta) (hK : X.K = K := by rfl) (star : starEach [e] X.env = [(false, eval e X.env)] := by rfl) :
    PI X (.Tuple elts kk tpos) (.Call (.Name "enumerate" p) [e] [] pos) (iEnT K ta) := by
  subst hK
  refine ⟨fun pins s σ H R I h => Call_ (ld_blt I gl un boot_enumerate (PyProof.Rows.callWith_type1 (thn (ha.run pos pins s σ H _ I h) fun us s1 ⟨vs, H1, I1, r1, q1⟩ => ?_) star rfl))⟩
  obtain ⟨a, xs, rfl, hs, q⟩ := q1
  rw [Vals.ref1 r1]
  obtain ⟨its, rv, tup, _⟩ := I1.tuple hs
  refine call_enT (show s1.heap.IsTuple a its.toArray from tup) fun g isE isI kept => wpAny_pyIter_enum isE ?_
  have J : Inv X pins σ H1 { s1 with heap := g } := I1.kept (t' := s1.toks) kept
  refine ⟨s1.heap.objs.size + 1, [s1.heap.objs.size + 1, s1.heap.objs.size], _, _, H1, rfl, J, turn_enT a (s1.heap.objs.size + 1) s1.heap.objs.size, ⟨⟨.none, isE⟩, isI, Nat.succ_ne_self _⟩, fun b hb => ?_, q⟩
  have big : s1.heap.objs.size ≤ b := by
    rcases List.mem_cons.mp hb with z | z
    · exact z ▸ Nat.le_succ _
    · exact Nat.le_of_eq (List.mem_singleton.mp z).symm
  exact I1.fpOk big (I1.hok.fresh big)
end TmE
namespace Tm
open PySem PySem.Spec PyProof.Rows L2 TmE
local macro_rules | `(tactic| walk_at "x") => `(tactic| dsimp only [tNext, tRet, tSeq, tCall, tCB, tC, tCons, tNil, tAsg, tDrop, sFld])
theorem walk_enT {K : PySem.W.Frag} {a : Addr} {xs : List V} : Walk (IteT K a) xs.length (fun H => SqT K H a xs) (YPair (fun i => some (.int (i : Nat))) (fun i => xs[i]?)) := by
  refine ⟨fun i _ hi q => ⟨xs, xs[i], q, by simp [hi]⟩, fun _ q => ⟨xs, q, rfl⟩, fun i H v H' _ q y => ?_⟩
  obtain ⟨T, x, h1, h2, h3, h4⟩ := y
  exact ⟨T, .int (i : Nat), x, h1, h2, h3, rfl, h4 xs q⟩
/-- {old: number for number, old in enumerate(a tuple of numbers)} -/
theorem dc_enT {K : PySem.W.Frag} {σ : L2.St} {H : Hp} {Q : VK} {i j : Nat} {ta : TA} {vs : List Nat} {ns : List Nat} (hl : EvA ta σ H fun l H1 => ∃ a, l = [.ref a] ∧ Rd H1 a (.tup (natV ns))) (few : ns.length ≤ 1000) (nd : ns.Nodup)
    (hw : ∀ x y, wipe (((wipe σ vs).set i (some x)).set j (some y)) vs = wipe σ vs) (gi : ∀ x y, (((wipe σ vs).set i (some x)).set j (some y))[i]? = some (some x)) (gj : ∀ x y, (((wipe σ vs).set i (some x)).set j (some y))[j]? = some (some y))
    (hq : ∀ p H1 kvs, Same H H1 → H1 p = some (.dK kvs) → Paired (fun kv z => kv.1 = Sum.inl ((z.1 : Nat) : Int) ∧ kv.2 = V.int ((z.2 : Nat) : Int)) kvs ns.zipIdx → Q (.ref p) H1) :
    tDc (iEnT K ta) (gTup K 2 (gCons (gName i) (gCons (gName j) gNil))) tYes (tVar j) (tVar i) vs σ H Q := by
  refine hl _ fun v H1 e h => ?_
  obtain ⟨a, ea, hr⟩ := h
  have hs : SqT K H1 a (natV ns) := .inl hr
  have cnt : ns.zipIdx.length = (natV ns).length := by rw [List.length_zipIdx, natV_len]
  refine ⟨a, natV ns, ea, hs, dc_go (Q := Q) walk_enT ns.zipIdx (fun _ => true) (fun z => Sum.inl ((z.1 : Nat) : Int)) (fun z v _ => v = V.int ((z.2 : Nat) : Int)) cnt (by rw [natV_len]; omega) ?_ (fun _ _ _ _ _ h => h) (fun H2 e2 => same_seqT e2 hs) (fun k z x H2 H' hz e2 y Qg qg => ?_) (fun p H2 kvs hp e2 hd hP => ?_)⟩
  · have e3 : ns.zipIdx.map (fun z => (Sum.inl ((z.1 : Nat) : Int) : L2.Key)) = ns.map fun n : Nat => Sum.inl (n : Int) := by
      have := congrArg (List.map fun n : Nat => (Sum.inl (n : Int) : L2.Key)) (List.zipIdx_map_fst 0 (l := ns))
      rw [List.map_map] at this
      exact this
    rw [e3, List.nodup_iff_pairwise_ne, List.pairwise_map]
    exact (List.nodup_iff_pairwise_ne.mp nd).imp fun h z => h (Int.ofNat.inj (Sum.inl.inj z))
  · obtain ⟨T, x', y', rfl, hT, rfl, hx, hy⟩ := y
    have ex : V.int (k : Int) = x' := Option.some.inj hx
    subst ex
    obtain ⟨z1, z2⟩ := z
    have hz2 := hz
    rw [List.getElem?_zipIdx] at hz2
    obtain ⟨w1, hw1, hw2⟩ := Option.map_eq_some_iff.mp hz2
    have e5 : z1 = w1 ∧ z2 = k := by
      have := hw2
      simp only [Nat.zero_add, Prod.mk.injEq] at this
      exact ⟨this.1.symm, this.2.symm⟩
    have ey : V.int ((z1 : Nat) : Int) = y' := by
      have h6 : (natV ns)[k]? = some y' := hy
      unfold natV at h6
      rw [List.getElem?_map, hw1] at h6
      rw [e5.1]
      exact Option.some.inj h6
    subst ey
    have e7 : Same H2 (upd H2 T (.tup [V.int (k : Int), V.int ((z1 : Nat) : Int)])) := same_new hT
    refine pair_names (SqT.of upd_same) (qg _ _ (hw _ _) e7 evt_yes (fun _ H3 e3 => ev_is (gj _ _) rfl) fun _ H3 e3 => ev_is (gi _ _) (by rw [e5.2]))
  · rw [filter_all] at hP
    exact hq p H2 kvs (e.trans e2) hd hP
/-- name = {..: .. for ..} -/
theorem ps_setDc {X : Cx} {i : Nat} {y : Str} {py : Pos} {kx vx tg iter : Expr} {ifs : List Expr} {sco : Scope} {own : List (Str × Nat)} {pos spos : Pos} {wi : TI} {g : TG} {tt : TT} {tk tv : TE} (calm : X.calm = true) (nd : X.N.Nodup) (hy : X.N[i]? = some y) (loc : X.env.scope.names.lookup y = some .local)
    (sw : swapsWith (.DictComp kx vx [⟨tg, iter, ifs, 0⟩] sco pos) (some (.Name y py)) spos.line X.env = pure true) (it : PI X tg iter wi) (blk : BlkOk X.N X.env.scope sco own)
    (tgt : ∀ (s : Shared) (H : Hp) (C : Addr) (cl : List (Str × Addr)) (fp : List Addr), PG (X.blk s H sco (compEnvC sco cl C X.env) fp) tg g) (tst : ∀ (s : Shared) (H : Hp) (C : Addr) (cl : List (Str × Addr)) (fp : List Addr), PTs (X.blk s H sco (compEnvC sco cl C X.env) fp) ifs tt)
    (key : ∀ (s : Shared) (H : Hp) (C : Addr) (cl : List (Str × Addr)) (fp : List Addr), PE (X.blk s H sco (compEnvC sco cl C X.env) fp) kx tk) (val : ∀ (s : Shared) (H : Hp) (C : Addr) (cl : List (Str × Addr)) (fp : List Addr), PE (X.blk s H sco (compEnvC sco cl C X.env) fp) vx tv)
    (fold : ∀ x, foldedSetIterable iter X.env x = pure x := by intro _; rfl) : PS X (.Assign [.Name y py] (.DictComp kx vx [⟨tg, iter, ifs, 0⟩] sco pos) spos) (tAsg (tDc wi g tt tk tv (own.map (·.2))) (gName i)) := by
  refine ⟨fun pins s σ H D I h => ?_⟩
  rw [exec_Assign_Name_used _ _ _ _ sw]
  refine wpAny_bind (wpAny_standAt (wpAny_bind ?_))
  show wpAny _ X.A (do let _ ← comprehension (.DictComp kx vx [⟨tg, iter, ifs, 0⟩] sco pos) sco X.env (firstIterPos [⟨tg, iter, ifs, 0⟩] pos) newDict false (eval iter X.env) (some (assign (.Name y py) X.env))) _ _ s
  have h2 : tDc wi g tt tk tv (own.map (·.2)) σ H (fun x H1 => gName i x σ H1 D.nx) := h
  refine wpAny_bind (thn (dc_core (Qf := fun _ s1 => SP X pins D .next s1) calm nd I it blk tgt tst key val fold h2 fun L C s1 m H1 I1 q ns fr => ?_) fun _ s1 z => wpAny_pure (wpAny_pure z))
  show wpAny _ _ (assign (.Name y py) X.env (.ref L)) _ _ _
  refine wpAny_assign_Name (store_ok2 (v := V.ref L) I1 nd hy (.inl loc) rfl (fun s2 I2 ⟨a, sb, ea⟩ => ?_) (.inr loc))
  obtain ⟨f0, f1, f2, f3, f4, f5⟩ := fr
  have ne : C ≠ a := by
    rcases ea with z | z
    · exact z ▸ f1
    · exact fun e => f4 y a z e.symm
  exact ⟨m, ns.sameBut sb ne, fun g2 sb2 => ⟨_, H1, I2.turned (t' := s2.toks) (fun b o hb e => (sb2.2 b hb).trans e) f0 f1 f3 f4 f5, q⟩⟩
theorem sw_dict {kx vx : Expr} {gs : List Comprehension} {sco : Scope} {pos py : Pos} {y : Str} {l : Nat} {env : Env} (fn : env.scope.kind = .function) (loc : env.scope.names.lookup y = some .local) (line : (py.line == pos.line) = true)
    (no : (sco.names.any fun (n, k) => n == y && (k == .local || k == .cell)) = false) : swapsWith (.DictComp kx vx gs sco pos) (some (.Name y py)) l env = pure true := by
  have isL : env.kindOf y = some .local := loc
  have isF : env.blockKind = .function := by
    unfold Env.blockKind
    rw [fn]
    rfl
  unfold swapsWith
  simp only [isF, isL, no, Expr.pos, line]
  rfl
/-- the place of a number -/
def gIx (ns : List Nat) (i : Int) : Option Int := (ns.zipIdx.find? fun z => decide (((z.1 : Nat) : Int) = i)).map fun z => ((z.2 : Nat) : Int)
theorem look_ix : ∀ {kvs : List (L2.Key × V)} {zs : List (Nat × Nat)} (i y : Int), Paired (fun kv z => kv.1 = Sum.inl ((z.1 : Nat) : Int) ∧ kv.2 = V.int ((z.2 : Nat) : Int)) kvs zs →
    ((zs.find? fun z => decide (((z.1 : Nat) : Int) = i)).map fun z => ((z.2 : Nat) : Int)) = some y → valV kvs (Sum.inl i) = some (.int y)
  | _, _, i, y, .nil, h => nomatch h
  | kv :: kvs, z :: zs, i, y, .cons h t, hy => by
    rw [valV_cons, h.1]
    rw [List.find?_cons] at hy
    by_cases e : ((z.1 : Nat) : Int) = i
    · rw [show decide (((z.1 : Nat) : Int) = i) = true from decide_eq_true e] at hy
      rw [if_pos (by rw [e]), h.2]
      cases hy
      rfl
    · rw [show decide (((z.1 : Nat) : Int) = i) = false from decide_eq_false e] at hy
      rw [if_neg (fun q => e (Sum.inl.inj q))]
      exact look_ix i y t hy
section
variable {P : Program} {w : World} {K : PySem.W.Frag} {mg : Str → Option Value} {base : Heap} {C : Addr}
structure CutOk (t : Tab) (s : Nat) (out states : List Nat) : Prop where
  lt : s < sizeT t
  run : runR t 100 [] [s] = some out
  few : out.length < 64
  one : ∀ ns : List Int, ns.Perm (iN out) → ns.Pairwise (· ≤ ·) → ns = iN states
  nd : states.Nodup
  few2 : states.length ≤ 100
  over : overOk states (gIx states) t
def DuoT (C : Addr) (H : Hp) (v : V) (t : Tab) (ns : List Nat) : Prop := ∃ p k q, v = .ref p ∧ H p = some (.tup [k, .ref q]) ∧ KindV C H k t ∧ TupD H q ns
end
end Tm

/-! Comprehensions with two for; beside. -/
namespace Tm
open PySem PySem.Spec PyProof.Rows L2 TmE
local macro_rules | `(tactic| walk_at "x") => `(tactic| dsimp only [tNext, tRet, tSeq, tCall, tCB, tC, tCons, tNil, tAsg, tDrop, sFld])
/-! ### [e for x in xs for y in ys] -/
def duos (n m : Nat) : List (Nat × Nat) := (List.range n).flatMap fun a => (List.range m).map fun b => (a, b)
theorem duos_succ (n m : Nat) : duos (n + 1) m = duos n m ++ (List.range m).map fun b => (n, b) := by
  unfold duos
  rw [List.range_succ, List.flatMap_append]
  simp
theorem duos_len (n m : Nat) : (duos n m).length = n * m := by
  induction n with
  | zero => simp [duos]
  | succ n ih => rw [duos_succ, List.length_append, ih, List.length_map, List.length_range, Nat.succ_mul]
def L2at (H1 : Hp) (D : Addr) (R : Nat → Nat → V → Hp → Prop) (l : List (Nat × Nat)) (H : Hp) : Prop := Same H1 H ∧ ∃ ys, H D = some (.lst ys) ∧ Paired (fun v z => R z.1 z.2 v H) ys l
theorem l2_more {H1 H H2 : Hp} {D : Addr} {R : Nat → Nat → V → Hp → Prop} {l : List (Nat × Nat)} {a b : Nat} {v : V} (hD : H1 D = none) (hR : ∀ a b v H H', TupS H H' → R a b v H → R a b v H') (p : L2at H1 D R l H) (e : Same H H2) (r : R a b v H2) (few : l.length ≤ 100000 - 1) :
    ∃ acc, H2 D = some (.lst acc) ∧ acc.length < sizeLine ∧ L2at H1 D R (l ++ [(a, b)]) (upd H2 D (.lst (acc ++ [v]))) := by
  obtain ⟨e1, ys, hy, hP⟩ := p
  have hy2 := e _ _ hy
  have tu : TupS H2 (upd H2 D (.lst (ys ++ [v]))) := tups_upd hy2 fun xs z => by cases z
  have len := Paired.length hP
  refine ⟨ys, hy2, sz_lt (by omega), same_mut (e1.trans e) hD, ys ++ [v], upd_same, ?_⟩
  exact paired_app (Paired.mapP hP fun v z h => hR _ _ _ _ _ ((tups_of e).trans tu) h) (hR _ _ _ _ _ tu r)
theorem lc2_go {J : It} {G : Hp → Prop} {us ws : List V} (w : Walk J us.length G (YAt us)) {wi1 : TI} {te : TE} {vs vs1 : List Nat} {j k : Nat} {σ : L2.St} {H1 : Hp} {Q : VK} (R : Nat → Nat → V → Hp → Prop) (hR : ∀ a b v H H', TupS H H' → R a b v H → R a b v H') (hG : ∀ H, Same H1 H → G H)
    (hz : us.length ≤ 100 ∧ ws.length ≤ 100) (hw : ∀ x, wipe ((wipe σ vs).set j (some x)) vs = wipe σ vs) (hw1 : ∀ x y, wipe (((wipe σ vs).set j (some x)).set k (some y)) vs1 = wipe ((wipe σ vs).set j (some x)) vs1) (hv1 : ∀ x, wipe ((wipe σ vs).set j (some x)) vs1 = (wipe σ vs).set j (some x))
    (hin : ∀ x H (S : It → Hp → Prop), Same H1 H → (∀ J1 G1, Walk J1 ws.length G1 (YAt ws) → (∀ H, Same H1 H → G1 H) → S J1 H) → wi1 ((wipe σ vs).set j (some x)) H S)
    (he : ∀ a b x y H, us[a]? = some x → ws[b]? = some y → Same H1 H → Ev te (((wipe σ vs).set j (some x)).set k (some y)) H (R a b))
    (hq : ∀ p H ys, H1 p = none → Same H1 H → H p = some (.lst ys) → Paired (fun v z => R z.1 z.2 v H) ys (duos us.length ws.length) → Q (.ref p) H) :
    ∀ D, H1 D = none → ∃ W : Nat → Nat → Hp → Prop, (∃ m, W 0 m (upd H1 D (.lst []))) ∧ ∀ i m H, W i m H → (J.stop i H ∧ Q (.ref D) H) ∨ (J.go i H ∧ ∃ Nx : Hp → Prop, (∀ H', Nx H' → ∃ m', m' < m ∧ W (i + 1) m' H') ∧ ∀ x H', J.yld i H x H' → gName j x (wipe σ vs) H' fun σ2 H2 => wipe σ2 vs = wipe σ vs ∧ tYes σ2 H2 fun b H3 =>
      if b = true then wi1 σ2 H3 fun J1 H4 => ∃ W1 : Nat → Nat → Hp → Prop, (∃ m, W1 0 m H4) ∧ ∀ j1 k1 H, W1 j1 k1 H → (J1.stop j1 H ∧ Nx H) ∨ (J1.go j1 H ∧ ∃ Nx1 : Hp → Prop, (∀ H', Nx1 H' → ∃ k', k' < k1 ∧ W1 (j1 + 1) k' H') ∧ ∀ x H', J1.yld j1 H x H' → gName k x (wipe σ2 vs1) H' fun σ3 H5 => wipe σ3 vs1 = wipe σ2 vs1 ∧ tYes σ3 H5 fun b H6 =>
          if b = true then te σ3 H6 fun y H7 => ∃ acc, H7 D = some (.lst acc) ∧ acc.length < sizeLine ∧ Nx1 (upd H7 D (.lst (acc ++ [y]))) else Nx1 H6)
      else Nx H3) := by
  intro D hD
  have small : ∀ i b, i < us.length → b ≤ ws.length → (duos i ws.length ++ (List.range b).map fun b => (i, b)).length ≤ 100000 - 1 := fun i b hi hb => by
    rw [List.length_append, duos_len, List.length_map, List.length_range]
    have : i * ws.length ≤ 100 * 100 := Nat.mul_le_mul (by omega) hz.2
    omega
  refine ⟨fun i m H => m = us.length - i ∧ i ≤ us.length ∧ L2at H1 D R (duos i ws.length) H, ⟨us.length, by simp, Nat.zero_le _, same_new hD, [], upd_same, .nil⟩, ?_⟩
  rintro i m H ⟨rfl, hi, p⟩
  by_cases lt : i < us.length
  · refine .inr ⟨w.goes i H lt (hG _ p.1), fun H' => L2at H1 D R (duos (i + 1) ws.length) H', fun H' p' => ⟨us.length - (i + 1), by omega, rfl, lt, p'⟩, fun x H' y => ?_⟩
    obtain ⟨eH, hx⟩ := w.yields i H x H' lt (hG _ p.1) y
    subst eH
    refine ⟨hw x, ?_⟩
    dsimp only [tYes]
    rw [if_pos rfl]
    refine hin x H' _ p.1 fun J1 G1 w1 hG1 => ?_
    refine ⟨fun b k1 H => k1 = ws.length - b ∧ b ≤ ws.length ∧ L2at H1 D R (duos i ws.length ++ (List.range b).map fun b => (i, b)) H, ⟨ws.length, by simp, Nat.zero_le _, by simpa using p⟩, ?_⟩
    rintro b k1 H2 ⟨rfl, hb, p2⟩
    by_cases lt2 : b < ws.length
    · refine .inr ⟨w1.goes b H2 lt2 (hG1 _ p2.1), fun H' => L2at H1 D R (duos i ws.length ++ (List.range (b + 1)).map fun b => (i, b)) H', fun H' p' => ⟨ws.length - (b + 1), by omega, rfl, lt2, p'⟩, fun y H3 yy => ?_⟩
      obtain ⟨eH, hy⟩ := w1.yields b H2 y H3 lt2 (hG1 _ p2.1) yy
      subst eH
      rw [hv1]
      refine ⟨by rw [hw1, hv1], ?_⟩
      rw [if_pos rfl]
      refine he i b x y H3 hx hy p2.1 _ fun v H4 e4 r => ?_
      obtain ⟨acc, h1, h2, h3⟩ := l2_more hD hR p2 e4 r (small i b lt hb)
      refine ⟨acc, h1, h2, ?_⟩
      show L2at H1 D R (duos i ws.length ++ (List.range (b + 1)).map fun b => (i, b)) _
      rw [List.range_succ, List.map_append, ← List.append_assoc]
      exact h3
    · have eb : b = ws.length := by omega
      subst eb
      refine .inl ⟨w1.stops H2 (hG1 _ p2.1), ?_⟩
      show L2at H1 D R (duos (i + 1) ws.length) H2
      rw [duos_succ]
      exact p2
  · have ei : i = us.length := by omega
    subst ei
    obtain ⟨e, ys, hy, hP⟩ := p
    exact .inl ⟨w.stops H (hG _ e), hq D H ys hD e hy hP⟩
theorem tab_put {H : Hp} {pd : Addr} {kvs : List (L2.Key × V)} {T : Tab} {i : Nat} {x : Str} {r : Row} {v : V} (hd : H pd = some (.dK kvs)) (ht : TabV H kvs (T.take i)) (hi : T[i]? = some (x, r)) (hr : RowV H v r) (nd : (namesT T).Nodup) (few : i ≤ 1000) :
    ∃ kvs', DPut H pd (.str x) v (upd H pd (.dK kvs')) ∧ TabV (upd H pd (.dK kvs')) kvs' (T.take (i + 1)) := by
  have no : valV kvs (Sum.inr x) = none := by
    have e := tab_isSome x ht
    have ni : x ∉ namesT (T.take i) := fun m => by
      have nd2 := nd
      have lt := (List.getElem?_eq_some_iff.mp hi).1
      have sp : T = T.take i ++ (x, r) :: T.drop (i + 1) := by
        rw [← (List.getElem?_eq_some_iff.mp hi).2, List.getElem_cons_drop, List.take_append_drop]
      rw [sp] at nd2
      unfold namesT at nd2 m
      rw [List.map_append, List.map_cons, List.nodup_append] at nd2
      exact nd2.2.2 x m x List.mem_cons_self rfl
    rw [decide_eq_false ni] at e
    cases z : valV kvs (Sum.inr x) with
    | none => rfl
    | some y => rw [z] at e; cases e
  have tu : TupS H (upd H pd (.dK (kvs ++ [(Sum.inr x, v)]))) := tups_upd hd (fun xs z => by cases z)
  refine ⟨kvs ++ [(Sum.inr x, v)], ?_, ?_⟩
  · have q := DPut.k (k := (Sum.inr x : L2.Key)) (v := v) hd (by
      rw [Paired.length ht, List.length_take]
      exact sz_lt (by omega))
    rw [putK_new v no] at q
    exact q
  · rw [take_one hi]
    exact paired_app (ht.mono tu) ⟨rfl, hr.mono tu⟩
/-- a for over any walk -/
theorem for_walk {J : It} {n : Nat} {G : Hp → Prop} {Y : Nat → Hp → V → Hp → Prop} (w : Walk J n G Y) {g : TG} {tb : TS} {D : Ends} {σ : L2.St} {H : Hp} (Pv : Nat → L2.St → Hp → Prop) (h0 : Pv 0 σ H) (hG : ∀ i σ H, i ≤ n → Pv i σ H → G H)
    (hs : ∀ i x σ H H', i < n → Pv i σ H → Y i H x H' → g x σ H' fun σ2 H2 => tb { D with nx := Pv (i + 1), ct := Pv (i + 1), bk := D.nx } σ2 H2) (hd : ∀ σ H, Pv n σ H → D.nx σ H) :
    ∃ W : Nat → Nat → L2.St → Hp → Prop, (∃ m, W 0 m σ H) ∧ ∀ i m σ H, W i m σ H → (J.stop i H ∧ D.nx σ H) ∨ (J.go i H ∧ ∃ N : L2.St → Hp → Prop, (∀ σ' H', N σ' H' → ∃ m', m' < m ∧ W (i + 1) m' σ' H') ∧ ∀ x H', J.yld i H x H' → g x σ H' fun σ2 H2 => tb { D with nx := N, ct := N, bk := D.nx } σ2 H2) := by
  refine ⟨fun i m σ H => m = n - i ∧ i ≤ n ∧ Pv i σ H, ⟨n, by simp, Nat.zero_le _, h0⟩, ?_⟩
  rintro i m σ H ⟨rfl, hi, p⟩
  have q := hG i σ H hi p
  by_cases lt : i < n
  · exact .inr ⟨w.goes i H lt q, Pv (i + 1), fun σ' H' p' => ⟨n - (i + 1), by omega, rfl, lt, p'⟩, fun x H' y => hs i x σ H H' lt p (w.yields i H x H' lt q y)⟩
  · have e : i = n := by omega
    subst e
    exact .inl ⟨w.stops H q, hd σ H p⟩
theorem walk_rng {n : Nat} : Walk (Itr 0 n) ((List.range n).map fun i : Nat => V.int (i : Int)).length (fun _ => True) (YAt ((List.range n).map fun i : Nat => V.int (i : Int))) := by
  have len : ((List.range n).map fun i : Nat => V.int (i : Int)).length = n := by rw [List.length_map, List.length_range]
  rw [len]
  have w := walk_range (lo := 0) (n := n)
  refine ⟨w.goes, w.stops, fun i H x H' hi q y => ?_⟩
  obtain ⟨e, ex⟩ := w.yields i H x H' hi q y
  refine ⟨e, ?_⟩
  rw [List.getElem?_map, List.getElem?_range hi, ex]
  show some (V.int ((i : Nat) : Int)) = some (V.int (0 + (i : Nat)))
  rw [Int.zero_add]
def bes1 (m2 : Nat) (r : Row) : Row := (duos r.length m2).map fun z => ((pickR r z.1).1 * (m2 : Int) + (z.2 : Int), (pickR r z.1).2)
def bes2 (n1 m2 : Nat) (r : Row) : Row := (duos n1 r.length).map fun z => ((z.1 : Int) * (m2 : Int) + (pickR r z.2).1, (pickR r z.2).2)
def besT (t u : Tab) : Tab := (t.map fun e => (e.1, bes1 (sizeT u) e.2)) ++ u.map fun e => (e.1, bes2 (sizeT t) (sizeT u) e.2)
theorem anyK {X : Cx} {K : PySem.W.Frag} (hc : X.calm = true := by rfl) (hK : X.K = K := by rfl) : CallR X (.builtin "any") (rAny K) := by subst hK; exact cr_any hc
theorem piR {X : Cx} {tg e : Expr} {ta : TA} {p pos : Pos} (hg : Gl X "range") (hm : X.mg "range" = none) (ha : PA X [e] ta) (hs : starEach [e] X.env = [(false, eval e X.env)] := by rfl) : PI X tg (.Call (.Name "range" p) [e] [] pos) (iRng1 ta) := pi_range1 hg hm ha hs
theorem ev_sizeK {K : PySem.W.Frag} {C : Addr} {σ : L2.St} {H : Hp} {i : Nat} {o : V} {u : Tab} (hi : σ[i]? = some (some o)) (ho : KindV C H o u) : Ev (tProp C (sp_size C) [] E0 (tVar i)) σ H fun v _ => v = .int ((sizeT u : Nat) : Int) := fun Q q => by
  obtain ⟨a, dx, d, kvs, rfl, ha, _⟩ := id ho
  exact ⟨_, hi, a, dx, _, rfl, ha, .ref a, u, rfl, ho, q _ _ (Same.refl _) rfl⟩
theorem c_mul {i j : Int} (h0 : 0 ≤ i) (h1 : i ≤ 10000) : CMul i j := by
  have e : (2 : Int) ^ 64 = 18446744073709551616 := by decide
  refine .inl ?_
  rw [e]
  omega
theorem rng_at {n k : Nat} {z : V} (h : ((List.range n).map fun i : Nat => V.int (i : Int))[k]? = some z) : z = .int (k : Int) ∧ k < n := by
  have lt : k < n := by
    have := (List.getElem?_eq_some_iff.mp h).1
    rwa [List.length_map, List.length_range] at this
  rw [List.getElem?_map, List.getElem?_range lt] at h
  exact ⟨(Option.some.inj h).symm, lt⟩
theorem row_at {H H' : Hp} {xs : List V} {r : Row} {i : Nat} {y : V} (hx : Paired (PairV H) xs r) (e : Same H H') (h : xs[i]? = some y) : PairV H' y (pickR r i) ∧ pickR r i ∈ r := by
  obtain ⟨z, hz, hp⟩ := paired_ix2 hx h
  have : pickR r i = z := by
    unfold pickR
    rw [List.getD_eq_getElem?_getD, hz]
    rfl
  rw [this]
  exact ⟨hp.mono (tups_of e), List.mem_of_getElem? hz⟩
section
variable {K : PySem.W.Frag} {C : Addr} {H : Hp} {o d x a : V} {o3 o5 o6 : Option V} {t u : Tab} {r : Row}
theorem ev_bes1 (ho : KindV C H o u) (hx : RowV H x r) (hr : r.length ≤ 12 ∧ ∀ p ∈ r, 0 ≤ p.1 ∧ p.1 < 12) (hs : sizeT u ≤ 12) :
    Ev (tCB (fun xs H Q => ∃ p ys, xs = [.ref p] ∧ ((SqL K H p ys ∧ ∀ l, H l = none → Q (.ref l) (upd H l (.tup ys))) ∨ (SqT K H p ys ∧ Q (.ref p) H))) (tCons (tLc2 (iTup K (tVar 4)) (gName 5) tYes (iRng1 (tCons (tProp C (sp_size C) [] E0 (tVar 1)) tNil)) (gName 6) tYes
      (tTup (tCons (tOp (rI0 fun i j => V.int (i + j)) (tOp (rI CMul fun i j => V.int (i * j)) (tOp (rIxT K) (tVar 5) (tC (V.int 0))) (tProp C (sp_size C) [] E0 (tVar 1))) (tVar 6)) (tCons (tOp (rIxT K) (tVar 5) (tC (V.int 1))) tNil))) [5, 6] [6]) tNil)) [some a, some o, some d, o3, some x, o5, o6] H fun v H1 => RowV H1 v (bes1 (sizeT u) r) := by
  refine ev_rowOf (zs := duos r.length (sizeT u)) (f := fun z => ((pickR r z.1).1 * (sizeT u : Int) + (z.2 : Int), (pickR r z.1).2)) fun Q q => ?_
  obtain ⟨ap, xs, rfl, hap, hxs⟩ := id hx
  have hlx := Paired.length hxs
  refine ⟨_, rfl, ap, rfl, ⟨xs, SqT.of hap⟩, ?_⟩
  refine lc2_go (us := xs) (ws := (List.range (sizeT u)).map fun i : Nat => V.int (i : Int)) (walk_tup) (fun i k v H => PairV H v ((pickR r i).1 * (sizeT u : Int) + (k : Int), (pickR r i).2)) (fun a b v H H' e h => h.mono e) (fun H2 e => same_seqT e (SqT.of hap)) ⟨by omega, by rw [List.length_map, List.length_range]; omega⟩ (fun _ => rfl) (fun _ _ => rfl) (fun _ => rfl) (fun y H2 S e S1 => ?_) (fun i k y z H2 hy hz e => ?_) fun p H2 ys hp e hl hP => ?_
  · obtain ⟨ao, dxo, _, _, rfl, hao, _⟩ := id (ho.keep e)
    exact ⟨_, rfl, ao, dxo, _, rfl, hao, _, u, rfl, ho.keep e, _, rfl, by omega, by omega, by rw [Int.toNat_natCast]; exact S1 _ _ walk_rng fun _ _ => trivial⟩
  · obtain ⟨hy2, hm⟩ := row_at hxs e hy
    obtain ⟨rfl, lt⟩ := rng_at hz
    obtain ⟨p0, p1⟩ := hr.2 _ hm
    refine ev_pair (fun Q q => ?_) fun H3 e3 => ev_pick (j := 1) rfl (hy2.mono (tups_of e3)) rfl
    refine ev_pick (K := K) (j := 0) rfl hy2 rfl _ fun v1 H3 e3 ev => ?_
    subst ev
    refine ev_sizeK (K := K) rfl (ho.keep (e.trans e3)) _ fun v2 H4 e4 ev => ?_
    subst ev
    exact ⟨_, _, rfl, rfl, c_mul p0 (by omega), _, rfl, _, _, rfl, rfl, q _ _ (e3.trans e4) rfl⟩
  · refine q _ _ e ⟨p, ys, rfl, hl, ?_⟩
    rw [hlx, List.length_map, List.length_range] at hP
    exact hP
theorem ev_bes2 (ha : KindV C H a t) (ho : KindV C H o u) (hx : RowV H x r) (hr : r.length ≤ 12 ∧ ∀ p ∈ r, 0 ≤ p.1 ∧ p.1 < 12) (hs : sizeT u ≤ 12) (hs1 : sizeT t ≤ 12) :
    Ev (tCB (fun xs H Q => ∃ p ys, xs = [.ref p] ∧ ((SqL K H p ys ∧ ∀ l, H l = none → Q (.ref l) (upd H l (.tup ys))) ∨ (SqT K H p ys ∧ Q (.ref p) H))) (tCons (tLc2 (iRng1 (tCons (tProp C (sp_size C) [] E0 (tVar 0)) tNil)) (gName 6) tYes (iTup K (tVar 4)) (gName 5) tYes
      (tTup (tCons (tOp (rI0 fun i j => V.int (i + j)) (tOp (rI CMul fun i j => V.int (i * j)) (tVar 6) (tProp C (sp_size C) [] E0 (tVar 1))) (tOp (rIxT K) (tVar 5) (tC (V.int 0)))) (tCons (tOp (rIxT K) (tVar 5) (tC (V.int 1))) tNil))) [6, 5] [5]) tNil)) [some a, some o, some d, o3, some x, o5, o6] H fun v H1 => RowV H1 v (bes2 (sizeT t) (sizeT u) r) := by
  refine ev_rowOf (zs := duos (sizeT t) r.length) (f := fun z => ((z.1 : Int) * (sizeT u : Int) + (pickR r z.2).1, (pickR r z.2).2)) fun Q q => ?_
  obtain ⟨ap, xs, rfl, hap, hxs⟩ := id hx
  have hlx := Paired.length hxs
  obtain ⟨aa, dxa, _, _, rfl, haa, _⟩ := id ha
  refine ⟨_, rfl, aa, dxa, _, rfl, haa, _, t, rfl, ha, _, rfl, by omega, by omega, ?_⟩
  rw [Int.toNat_natCast]
  refine lc2_go (us := (List.range (sizeT t)).map fun i : Nat => V.int (i : Int)) (ws := xs) walk_rng (fun i k v H => PairV H v ((i : Int) * (sizeT u : Int) + (pickR r k).1, (pickR r k).2)) (fun a b v H H' e h => h.mono e) (fun H2 e => trivial) ⟨by rw [List.length_map, List.length_range]; omega, by omega⟩ (fun _ => rfl) (fun _ _ => rfl) (fun _ => rfl) (fun y H2 S e S1 => ?_) (fun i k y z H2 hy hz e => ?_) fun p H2 ys hp e hl hP => ?_
  · exact ⟨_, rfl, ap, rfl, ⟨xs, SqT.of (e _ _ hap)⟩, S1 _ _ walk_tup fun H3 e3 => SqT.of (e3 _ _ hap)⟩
  · obtain ⟨hz2, hm⟩ := row_at hxs e hz
    obtain ⟨rfl, lt⟩ := rng_at hy
    refine ev_pair (fun Q q => ?_) fun H3 e3 => ev_pick (j := 1) rfl (hz2.mono (tups_of e3)) rfl
    refine ⟨_, rfl, ?_⟩
    refine ev_sizeK (K := K) rfl (ho.keep e) _ fun v2 H4 e4 ev => ?_
    subst ev
    refine ⟨_, _, rfl, rfl, c_mul (by omega) (by omega), ?_⟩
    refine ev_pick (K := K) (j := 0) rfl (hz2.mono (tups_of e4)) rfl _ fun v1 H3 e3 ev => ?_
    subst ev
    exact ⟨_, _, rfl, rfl, q _ _ (e4.trans e3) rfl⟩
  · refine q _ _ e ⟨p, ys, rfl, hl, ?_⟩
    rw [hlx, List.length_map, List.length_range] at hP
    exact hP
end
/-- all but what stands at pd is kept -/
def KP (pd : Addr) (H H' : Hp) : Prop := ∀ b o, H b = some o → b ≠ pd → H' b = some o
theorem kp_same {pd : Addr} {H0 H H' : Hp} (e : Same H0 H) (h0 : H0 pd = none) (k : KP pd H H') : Same H0 H' := fun b o hb => k b o (e b o hb) fun z => by rw [z, h0] at hb; cases hb
theorem kp_mut {pd : Addr} {H H' H2 : Hp} {o : HO} (k : KP pd H H') (e : Same H' H2) : KP pd H (upd H2 pd o) := fun b u hb n => by rw [upd_ne n]; exact e _ _ (k b u hb n)
theorem kp_tups {pd : Addr} {H H' : Hp} {kvs : List (L2.Key × V)} (h : H pd = some (.dK kvs)) (k : KP pd H H') : TupS H H' := fun b xs hb => k b _ hb fun z => by rw [z, h] at hb; cases hb
theorem bes_at1 {t u : Tab} {i : Nat} {e : Str × Row} (h : t[i]? = some e) : (besT t u)[i]? = some (e.1, bes1 (sizeT u) e.2) := by
  have lt := (List.getElem?_eq_some_iff.mp h).1
  unfold besT
  rw [List.getElem?_append_left (by rw [List.length_map]; exact lt), List.getElem?_map, h]
  rfl
theorem bes_at2 {t u : Tab} {i : Nat} {e : Str × Row} (h : u[i]? = some e) : (besT t u)[t.length + i]? = some (e.1, bes2 (sizeT t) (sizeT u) e.2) := by
  unfold besT
  rw [List.getElem?_append_right (by rw [List.length_map]; omega), List.length_map, Nat.add_sub_cancel_left, List.getElem?_map, h]
  rfl
theorem besT_len (t u : Tab) : (besT t u).length = t.length + u.length := by
  unfold besT
  rw [List.length_append, List.length_map, List.length_map]
section
variable {P : Program} {w : World} {K : PySem.W.Frag} {mg : Str → Option Value} {base : Heap} {C : Addr}
end
end Tm

/-! _law_table: the drawn operations of a kind. _law_row of names. -/
namespace Tm
open PySem PySem.Spec PyProof.Rows L2
local macro_rules | `(tactic| walk_at "x") => `(tactic| dsimp only [tNext, tRet, tSeq, tCall, tCB, tC, tCons, tNil, tAsg, tDrop, sFld])
theorem VatV.keepU {H : Hp} {l p : Addr} {o : HO} (h : VatV H l) (n : p ≠ l) : VatV (upd H p o) l := by
  obtain ⟨x, y, z, e⟩ := h
  exact ⟨x, y, z, by rw [upd_ne n.symm]; exact e⟩
theorem vat_ne {H : Hp} {l p : Addr} (h : VatV H l) (hp : H p = none) : p ≠ l := fun z => by
  obtain ⟨x, y, zz, e⟩ := h
  rw [z, e] at hp
  cases hp
theorem kl_none {H H' : Hp} {l p : Addr} (k : KL l H H') (hp : H' p = none) : H p = none := by
  cases e : H p with
  | none => rfl
  | some o =>
    by_cases z : p = l
    · obtain ⟨_, _, _, e2⟩ := k.2
      rw [z, e2] at hp
      cases hp
    · rw [k.1 _ _ e z] at hp
      cases hp
/-- texts out of texts -/
theorem strs_of {ns : List Str} {ys zs : List V} (p : (ns.map V.str).Perm (ys ++ zs)) (nd : ns.Nodup) : ∃ ws : List Str, ys = ws.map V.str ∧ ws.Nodup ∧ ∀ x ∈ ws, x ∈ ns := by
  have mem : ∀ y ∈ ys, ∃ x ∈ ns, V.str x = y := fun y hy => List.mem_map.mp (p.mem_iff.mpr (List.mem_append_left _ hy))
  have ndv : (ys ++ zs).Nodup := p.nodup (List.pairwise_map.mpr (nd.imp fun h e => h (V.str.inj e)))
  have ndy : ys.Nodup := (List.nodup_append.mp ndv).1
  clear p ndv
  induction ys with
  | nil => exact ⟨[], rfl, .nil, fun _ h => nomatch h⟩
  | cons y ys ih =>
    obtain ⟨ws, e, n2, m2⟩ := ih (fun z hz => mem z (List.mem_cons_of_mem _ hz)) (List.nodup_cons.mp ndy).2
    obtain ⟨x, hx, rfl⟩ := mem y List.mem_cons_self
    refine ⟨x :: ws, by rw [e]; rfl, List.nodup_cons.mpr ⟨fun hm => ?_, n2⟩, fun z hz => ?_⟩
    · refine (List.nodup_cons.mp ndy).1 ?_
      rw [e]
      exact List.mem_map.mpr ⟨x, hm, rfl⟩
    · rcases List.mem_cons.mp hz with q | q
      · rw [q]
        exact hx
      · exact m2 z q
theorem tab_add {H : Hp} {pd : Addr} {kvs : List (L2.Key × V)} {t : Tab} {x : Str} {r : Row} {v : V} (hd : H pd = some (.dK kvs)) (ht : TabV H kvs t) (hr : RowV H v r) (nd : (namesT t).Nodup) (nx : x ∉ namesT t) (few : t.length ≤ 1000) :
    ∃ kvs', DPut H pd (.str x) v (upd H pd (.dK kvs')) ∧ TabV (upd H pd (.dK kvs')) kvs' (t ++ [(x, r)]) ∧ (namesT (t ++ [(x, r)])).Nodup := by
  have nd2 : (namesT (t ++ [(x, r)])).Nodup := by
    unfold namesT at nd nx ⊢
    rw [List.map_append, List.nodup_append]
    refine ⟨nd, by simp, fun a ha b hb => ?_⟩
    have eb : b = x := by simpa using hb
    rw [eb]
    intro z
    rw [z] at ha
    exact nx ha
  have e1 : (t ++ [(x, r)]).take t.length = t := by simp
  have e2 : (t ++ [(x, r)]).take (t.length + 1) = t ++ [(x, r)] := by
    rw [List.take_of_length_le (by simp)]
  obtain ⟨kvs', g1, g2⟩ := tab_put (T := t ++ [(x, r)]) (i := t.length) (x := x) (r := r) hd (by rw [e1]; exact ht) (by simp) hr nd2 few
  rw [e2] at g2
  exact ⟨kvs', g1, g2, nd2⟩
def nineN : List Str := ["add", "set", "a", "b", "read", "do", "decide", "eightlet", "z"]
theorem nine_ok : nineN.Nodup ∧ (nineN.all okName) = true ∧ (nineN.all PyData.strOk) = true := by decide +kernel
section
variable {P : Program} {w : World} {K : PySem.W.Frag} {mg : Str → Option Value} {base : Heap}
end
end Tm

/-! What is beside, as numbers: ways through a table; both beside. -/
namespace Tm
open PySem PySem.Spec PyProof.Rows L2
theorem nd_row {t : Tab} (nd : (namesT t).Nodup) {x : Str} {r r' : Row} (h : (x, r) ∈ t) (h' : (x, r') ∈ t) : r = r' := by
  induction t with
  | nil => cases h
  | cons e t ih =>
    have nd' := List.nodup_cons.mp (show (e.1 :: namesT t).Nodup from nd)
    rcases List.mem_cons.mp h with z | z <;> rcases List.mem_cons.mp h' with y | y
    · exact (Prod.mk.inj (z.trans y.symm)).2
    · refine absurd ?_ nd'.1
      rw [← z]
      exact List.mem_map.mpr ⟨_, y, rfl⟩
    · refine absurd ?_ nd'.1
      rw [← y]
      exact List.mem_map.mpr ⟨_, z, rfl⟩
    · exact ih nd'.2 z y
theorem rowAt_of {t : Tab} (nd : (namesT t).Nodup) {x : Str} {r : Row} (h : (x, r) ∈ t) : rowAt t x = r :=
  nd_row nd (row_in (List.mem_map.mpr ⟨_, h, rfl⟩)) h
theorem rowAt_perm {t u : Tab} (p : t.Perm u) (nd : (namesT u).Nodup) {x : Str} (h : x ∈ namesT t) : rowAt t x = rowAt u x :=
  (rowAt_of nd (p.mem_iff.mp (row_in h))).symm
theorem okTab_of {t : Tab} {n : Nat} (l1 : 1 ≤ t.length) (l6 : t.length ≤ 6) (n1 : 1 ≤ n) (n12 : n ≤ 12) (h : ∀ e ∈ t, okName e.1 = true ∧ e.2.length = n ∧ ∀ p ∈ e.2, okPair n p = true) : okTab t = true ∧ sizeT t = n := by
  have hs : sizeT t = n := by
    cases t with
    | nil => simp at l1
    | cons e t => exact (h e List.mem_cons_self).2.1
  refine ⟨?_, hs⟩
  unfold okTab
  rw [hs]
  simp only [Bool.and_eq_true, decide_eq_true_eq, List.all_eq_true]
  refine ⟨⟨⟨⟨l1, l6⟩, n1⟩, n12⟩, fun e he => ⟨(h e he).1, ?_⟩⟩
  unfold okRow
  rw [Bool.and_eq_true, decide_eq_true_eq, List.all_eq_true]
  exact (h e he).2
structure FineRow (n : Nat) (r : Row) : Prop where
  len : r.length = n
  fine : ∀ s, s < n → ∃ a : Nat, (pickR r s).1 = (a : Int) ∧ a < n ∧ 0 ≤ (pickR r s).2 ∧ (pickR r s).2 ≤ 99
theorem fine_of {t : Tab} (ok : okTab t = true) {e : Str × Row} (he : e ∈ t) : FineRow (sizeT t) e.2 := by
  refine ⟨size_of_ok ok e he, fun s hs => ?_⟩
  have hl := size_of_ok ok e he
  have hm := List.mem_of_getElem? (pick_at (r := e.2) (s := s) (by omega))
  have h5 := ok
  unfold okTab at h5
  simp only [Bool.and_eq_true, decide_eq_true_eq] at h5
  have h6 := List.all_eq_true.mp h5.2 e he
  simp only [Bool.and_eq_true] at h6
  have h7 := h6.2
  unfold okRow at h7
  simp only [Bool.and_eq_true, decide_eq_true_eq] at h7
  have h8 := List.all_eq_true.mp h7.2 _ hm
  unfold okPair at h8
  simp only [Bool.and_eq_true, decide_eq_true_eq] at h8
  exact ⟨(pickR e.2 s).1.toNat, by omega, by omega, by omega, by omega⟩
theorem ok_facts {t : Tab} (ok : okTab t = true) : 1 ≤ t.length ∧ t.length ≤ 6 ∧ 1 ≤ sizeT t ∧ sizeT t ≤ 12 ∧ ∀ e ∈ t, okName e.1 = true := by
  have h5 := ok
  unfold okTab at h5
  simp only [Bool.and_eq_true, decide_eq_true_eq] at h5
  refine ⟨h5.1.1.1.1, h5.1.1.1.2, h5.1.1.2, h5.1.2, fun e he => ?_⟩
  have h6 := List.all_eq_true.mp h5.2 e he
  simp only [Bool.and_eq_true] at h6
  exact h6.1
theorem fine_ok {n : Nat} {r : Row} (f : FineRow n r) : ∀ p ∈ r, okPair n p = true := fun p hp => by
  obtain ⟨s, hs⟩ := List.mem_iff_getElem?.mp hp
  have lt : s < r.length := (List.getElem?_eq_some_iff.mp hs).1
  have e : pickR r s = p := by
    unfold pickR
    rw [List.getD_eq_getElem?_getD, hs]
    rfl
  obtain ⟨a, h1, h2, h3, h4⟩ := f.fine s (by rw [← f.len]; exact lt)
  rw [e] at h1 h3 h4
  unfold okPair
  simp only [Bool.and_eq_true, decide_eq_true_eq]
  omega
theorem row_ext {r r' : Row} (hl : r.length = r'.length) (h : ∀ s, s < r.length → pickR r s = pickR r' s) : r = r' := by
  refine List.ext_getElem? fun s => ?_
  by_cases z : s < r.length
  · rw [pick_at z, pick_at (by omega), h s z]
  · rw [List.getElem?_eq_none (by omega), List.getElem?_eq_none (by omega)]
/-! ### ways -/
def goR (t : Tab) : Nat → List Str → Nat × List Int
  | s, [] => (s, [])
  | s, x :: ns => ((goR t (pickR (rowAt t x) s).1.toNat ns).1, (pickR (rowAt t x) s).2 :: (goR t (pickR (rowAt t x) s).1.toNat ns).2)
theorem step_mem {t : Tab} (nd : (namesT t).Nodup) {x : Str} (hx : x ∈ namesT t) {s : Nat} (hs : s < (rowAt t x).length) (told : List Int) : stepG t (s, told) x = ((pickR (rowAt t x) s).1.toNat, told ++ [(pickR (rowAt t x) s).2]) := by
  unfold stepG
  cases hf : t.find? fun e => decide (e.1 = x) with
  | none =>
    have := List.find?_eq_none.mp hf _ (row_in hx)
    exact absurd (decide_eq_true (rfl : x = x)) this
  | some e =>
    have hm := List.mem_of_find?_eq_some hf
    have e1 : e.1 = x := of_decide_eq_true (List.find?_some (p := fun e : Str × Row => decide (e.1 = x)) hf)
    have e2 : rowAt t x = e.2 := rowAt_of nd (by rw [← e1]; exact hm)
    dsimp only
    rw [← e2, pick_at hs]
theorem go_fold {t : Tab} (ok : okTab t = true) (nd : (namesT t).Nodup) : ∀ (ns : List Str) (s : Nat) (acc : List Int), s < sizeT t → (∀ x ∈ ns, x ∈ namesT t) → ns.foldl (stepG t) (s, acc) = ((goR t s ns).1, acc ++ (goR t s ns).2)
  | [], s, acc, _, _ => by simp [goR]
  | x :: ns, s, acc, hs, h => by
    have hx := h x List.mem_cons_self
    have f := fine_of ok (row_in hx)
    obtain ⟨a, h1, h2, h3, h4⟩ := f.fine s hs
    rw [List.foldl_cons, step_mem nd hx (by rw [f.len]; exact hs), go_fold ok nd ns _ _ (by dsimp only at h1; omega) fun y hy => h y (List.mem_cons_of_mem _ hy)]
    simp [goR]
theorem gone_go {t : Tab} (ok : okTab t = true) (nd : (namesT t).Nodup) {ns : List Str} {s : Nat} (hs : s < sizeT t) (h : ∀ x ∈ ns, x ∈ namesT t) : goneN t s ns = goR t s ns := by
  unfold goneN
  rw [go_fold ok nd ns s [] hs h]
  simp
theorem go_perm {t u : Tab} (p : t.Perm u) (nd : (namesT u).Nodup) : ∀ (ns : List Str) (s : Nat), (∀ x ∈ ns, x ∈ namesT t) → goR t s ns = goR u s ns
  | [], _, _ => rfl
  | x :: ns, s, h => by
    unfold goR
    rw [rowAt_perm p nd (h x List.mem_cons_self), go_perm p nd ns _ fun y hy => h y (List.mem_cons_of_mem _ hy)]
theorem go_len (t : Tab) : ∀ (ns : List Str) (s : Nat), (goR t s ns).2.length = ns.length
  | [], _ => rfl
  | x :: ns, s => by
    unfold goR
    dsimp only
    rw [List.length_cons, go_len t ns, List.length_cons]
theorem go_lt {t : Tab} (ok : okTab t = true) : ∀ (ns : List Str) (s : Nat), s < sizeT t → (∀ x ∈ ns, x ∈ namesT t) → (goR t s ns).1 < sizeT t
  | [], _, h, _ => h
  | x :: ns, s, hs, h => by
    have f := fine_of ok (row_in (h x List.mem_cons_self))
    obtain ⟨a, h1, h2, h3, h4⟩ := f.fine s hs
    unfold goR
    exact go_lt ok ns _ (by dsimp only at h1; omega) fun y hy => h y (List.mem_cons_of_mem _ hy)
/-! ### beside -/
theorem duos_at {m : Nat} : ∀ {n a b : Nat}, a < n → b < m → (duos n m)[a * m + b]? = some (a, b)
  | 0, _, _, h, _ => absurd h (Nat.not_lt_zero _)
  | n + 1, a, b, ha, hb => by
    rw [duos_succ]
    have hl := duos_len n m
    by_cases z : a < n
    · have : a * m + b < n * m := by
        have h1 : (a + 1) * m ≤ n * m := Nat.mul_le_mul_right m z
        have h2 : (a + 1) * m = a * m + m := Nat.succ_mul a m
        omega
      rw [List.getElem?_append_left (by rw [hl]; exact this)]
      exact duos_at z hb
    · have e : a = n := by omega
      subst e
      rw [List.getElem?_append_right (by rw [hl]; omega), hl, show a * m + b - a * m = b by omega, List.getElem?_map, List.getElem?_range hb]
      rfl
theorem dm_lt {n m a b : Nat} (ha : a < n) (hb : b < m) : a * m + b < n * m := by
  have h1 : (a + 1) * m ≤ n * m := Nat.mul_le_mul_right m ha
  have h2 : (a + 1) * m = a * m + m := Nat.succ_mul a m
  omega
theorem dm_div {m a b : Nat} (hb : b < m) : (a * m + b) / m = a := by
  rw [Nat.add_comm, Nat.add_mul_div_right _ _ (by omega), Nat.div_eq_of_lt hb, Nat.zero_add]
theorem dm_mod {m a b : Nat} (hb : b < m) : (a * m + b) % m = b := by
  rw [Nat.add_comm, Nat.add_mul_mod_self_right, Nat.mod_eq_of_lt hb]
theorem dm_of {n m k : Nat} (h : k < n * m) : ∃ a b, a < n ∧ b < m ∧ k = a * m + b := by
  have hm : 0 < m := by
    rcases Nat.eq_zero_or_pos m with z | z
    · rw [z] at h
      simp at h
    · exact z
  refine ⟨k / m, k % m, (Nat.div_lt_iff_lt_mul hm).mpr h, Nat.mod_lt _ hm, ?_⟩
  have := Nat.div_add_mod k m
  rw [Nat.mul_comm] at this
  omega
theorem bes1_len (m : Nat) (r : Row) : (bes1 m r).length = r.length * m := by
  unfold bes1
  rw [List.length_map, duos_len]
theorem bes2_len (n m : Nat) (r : Row) : (bes2 n m r).length = n * r.length := by
  unfold bes2
  rw [List.length_map, duos_len]
theorem pick_bes1 {r : Row} {m a b : Nat} (ha : a < r.length) (hb : b < m) : pickR (bes1 m r) (a * m + b) = ((pickR r a).1 * (m : Int) + (b : Int), (pickR r a).2) := by
  show ((bes1 m r).getD (a * m + b) (0, 0)) = _
  unfold bes1
  rw [List.getD_eq_getElem?_getD, List.getElem?_map, duos_at ha hb]
  rfl
theorem pick_bes2 {r : Row} {n m a b : Nat} (ha : a < n) (hb : b < r.length) : pickR (bes2 n m r) (a * r.length + b) = ((a : Int) * (m : Int) + (pickR r b).1, (pickR r b).2) := by
  show ((bes2 n m r).getD (a * r.length + b) (0, 0)) = _
  unfold bes2
  rw [List.getD_eq_getElem?_getD, List.getElem?_map, duos_at ha hb]
  rfl
theorem bes1_fine {r : Row} {n m : Nat} (f : FineRow n r) : FineRow (n * m) (bes1 m r) := by
  refine ⟨by rw [bes1_len, f.len], fun s hs => ?_⟩
  obtain ⟨a, b, ha, hb, rfl⟩ := dm_of hs
  obtain ⟨c, h1, h2, h3, h4⟩ := f.fine a ha
  rw [pick_bes1 (by rw [f.len]; exact ha) hb, h1]
  exact ⟨c * m + b, by push_cast; rfl, dm_lt h2 hb, h3, h4⟩
theorem bes2_fine {r : Row} {n m : Nat} (f : FineRow m r) : FineRow (n * m) (bes2 n m r) := by
  refine ⟨by rw [bes2_len, f.len], fun s hs => ?_⟩
  obtain ⟨a, b, ha, hb, rfl⟩ := dm_of hs
  obtain ⟨c, h1, h2, h3, h4⟩ := f.fine b hb
  have e := pick_bes2 (r := r) (n := n) (m := m) (a := a) (b := b) ha (by rw [f.len]; exact hb)
  rw [f.len] at e
  rw [e, h1]
  exact ⟨a * m + c, by push_cast; rfl, dm_lt ha h2, h3, h4⟩
theorem bes_names (t u : Tab) : namesT (besT t u) = namesT t ++ namesT u := by
  unfold namesT besT
  rw [List.map_append, List.map_map, List.map_map]
  rfl
theorem bes_ok {t u : Tab} (okt : okTab t = true) (oku : okTab u = true) (sz : sizeT t * sizeT u ≤ 12) (ln : t.length + u.length ≤ 6) : okTab (besT t u) = true ∧ sizeT (besT t u) = sizeT t * sizeT u := by
  obtain ⟨t1, t6, ts, ts2, tn⟩ := ok_facts okt
  obtain ⟨u1, u6, us, us2, un⟩ := ok_facts oku
  refine okTab_of (by rw [besT_len]; omega) (by rw [besT_len]; omega) (Nat.mul_pos ts us) sz fun e he => ?_
  rcases List.mem_append.mp he with z | z
  · obtain ⟨d, hd, rfl⟩ := List.mem_map.mp z
    have f := bes1_fine (m := sizeT u) (fine_of okt hd)
    exact ⟨tn d hd, f.len, fine_ok f⟩
  · obtain ⟨d, hd, rfl⟩ := List.mem_map.mp z
    have f := bes2_fine (n := sizeT t) (fine_of oku hd)
    exact ⟨un d hd, f.len, fine_ok f⟩
theorem bes_nd {t u : Tab} (ndt : (namesT t).Nodup) (ndu : (namesT u).Nodup) (ap : ∀ x ∈ namesT t, x ∉ namesT u) : (namesT (besT t u)).Nodup := by
  rw [bes_names, List.nodup_append]
  exact ⟨ndt, ndu, fun a ha b hb z => ap a ha (z ▸ hb)⟩
theorem bes_at {t u B : Tab} (p : B.Perm (besT t u)) (nd : (namesT (besT t u)).Nodup) : (∀ x ∈ namesT t, rowAt B x = bes1 (sizeT u) (rowAt t x)) ∧ ∀ x ∈ namesT u, rowAt B x = bes2 (sizeT t) (sizeT u) (rowAt u x) := by
  have ndB : (namesT B).Nodup := (p.map _).symm.nodup nd
  refine ⟨fun x hx => rowAt_of ndB (p.mem_iff.mpr ?_), fun x hx => rowAt_of ndB (p.mem_iff.mpr ?_)⟩
  · exact List.mem_append_left _ (List.mem_map.mpr ⟨_, row_in hx, rfl⟩)
  · exact List.mem_append_right _ (List.mem_map.mpr ⟨_, row_in hx, rfl⟩)
theorem bes_go {t u B : Tab} (okt : okTab t = true) (oku : okTab u = true) (ap : ∀ x ∈ namesT t, x ∉ namesT u) (h1 : ∀ x ∈ namesT t, rowAt B x = bes1 (sizeT u) (rowAt t x)) (h2 : ∀ x ∈ namesT u, rowAt B x = bes2 (sizeT t) (sizeT u) (rowAt u x)) :
    ∀ (row : List Str) (a b : Nat), (∀ x ∈ row, x ∈ namesT t ∨ x ∈ namesT u) → a < sizeT t → b < sizeT u →
      (goR B (a * sizeT u + b) row).1 = (goR t a (row.filter fun x => decide (x ∈ namesT t))).1 * sizeT u + (goR u b (row.filter fun x => decide (x ∈ namesT u))).1 ∧
      ((row.zip (goR B (a * sizeT u + b) row).2).filter fun z => decide (z.1 ∈ namesT t)).map (·.2) = (goR t a (row.filter fun x => decide (x ∈ namesT t))).2 ∧
      ((row.zip (goR B (a * sizeT u + b) row).2).filter fun z => decide (z.1 ∈ namesT u)).map (·.2) = (goR u b (row.filter fun x => decide (x ∈ namesT u))).2
  | [], a, b, _, _, _ => ⟨rfl, rfl, rfl⟩
  | x :: row, a, b, h, ha, hb => by
    have hr : ∀ y ∈ row, y ∈ namesT t ∨ y ∈ namesT u := fun y hy => h y (List.mem_cons_of_mem _ hy)
    rcases h x List.mem_cons_self with hx | hx
    · have nx := ap x hx
      have f := fine_of okt (row_in hx)
      obtain ⟨c, c1, c2, c3, c4⟩ := f.fine a ha
      dsimp only at c1 c3 c4
      have ep : pickR (rowAt B x) (a * sizeT u + b) = (((c * sizeT u + b : Nat) : Int), (pickR (rowAt t x) a).2) := by
        rw [h1 x hx, pick_bes1 (by rw [f.len]; exact ha) hb, c1]
        push_cast
        rfl
      obtain ⟨i1, i2, i3⟩ := bes_go okt oku ap h1 h2 row c b hr c2 hb
      have e1 : (x :: row).filter (fun x => decide (x ∈ namesT t)) = x :: row.filter (fun x => decide (x ∈ namesT t)) := by rw [List.filter_cons, if_pos (decide_eq_true hx)]
      have e2 : (x :: row).filter (fun x => decide (x ∈ namesT u)) = row.filter (fun x => decide (x ∈ namesT u)) := by rw [List.filter_cons, if_neg (by simpa using nx)]
      rw [e1, e2]
      have g1 : goR B (a * sizeT u + b) (x :: row) = ((goR B (c * sizeT u + b) row).1, (pickR (rowAt t x) a).2 :: (goR B (c * sizeT u + b) row).2) := by
        rw [goR, ep]
        simp only [Int.toNat_natCast]
      have g2 : goR t a (x :: row.filter fun x => decide (x ∈ namesT t)) = ((goR t c (row.filter fun x => decide (x ∈ namesT t))).1, (pickR (rowAt t x) a).2 :: (goR t c (row.filter fun x => decide (x ∈ namesT t))).2) := by
        rw [goR, c1]
        simp only [Int.toNat_natCast]
      rw [g1, g2]
      refine ⟨i1, ?_, ?_⟩
      · rw [List.zip_cons_cons, List.filter_cons, if_pos (decide_eq_true hx), List.map_cons, i2]
      · rw [List.zip_cons_cons, List.filter_cons, if_neg (by simpa using nx), i3]
    · have nx : x ∉ namesT t := fun z => ap x z hx
      have f := fine_of oku (row_in hx)
      obtain ⟨c, c1, c2, c3, c4⟩ := f.fine b hb
      dsimp only at c1 c3 c4
      have ep : pickR (rowAt B x) (a * sizeT u + b) = (((a * sizeT u + c : Nat) : Int), (pickR (rowAt u x) b).2) := by
        have e := pick_bes2 (r := rowAt u x) (n := sizeT t) (m := sizeT u) (a := a) (b := b) ha (by rw [f.len]; exact hb)
        rw [f.len] at e
        rw [h2 x hx, e, c1]
        push_cast
        rfl
      obtain ⟨i1, i2, i3⟩ := bes_go okt oku ap h1 h2 row a c hr ha c2
      have e1 : (x :: row).filter (fun x => decide (x ∈ namesT u)) = x :: row.filter (fun x => decide (x ∈ namesT u)) := by rw [List.filter_cons, if_pos (decide_eq_true hx)]
      have e2 : (x :: row).filter (fun x => decide (x ∈ namesT t)) = row.filter (fun x => decide (x ∈ namesT t)) := by rw [List.filter_cons, if_neg (by simpa using nx)]
      rw [e1, e2]
      have g1 : goR B (a * sizeT u + b) (x :: row) = ((goR B (a * sizeT u + c) row).1, (pickR (rowAt u x) b).2 :: (goR B (a * sizeT u + c) row).2) := by
        rw [goR, ep]
        simp only [Int.toNat_natCast]
      have g2 : goR u b (x :: row.filter fun x => decide (x ∈ namesT u)) = ((goR u c (row.filter fun x => decide (x ∈ namesT u))).1, (pickR (rowAt u x) b).2 :: (goR u c (row.filter fun x => decide (x ∈ namesT u))).2) := by
        rw [goR, c1]
        simp only [Int.toNat_natCast]
      rw [g1, g2]
      refine ⟨i1, ?_, ?_⟩
      · rw [List.zip_cons_cons, List.filter_cons, if_neg (by simpa using nx), i2]
      · rw [List.zip_cons_cons, List.filter_cons, if_pos (decide_eq_true hx), List.map_cons, i3]
/-! ### the halves are images -/
def leftsN (n m : Nat) : List Nat := (List.range (n * m)).map fun s => s / m
def rightsN (n m : Nat) : List Nat := (List.range (n * m)).map fun s => s % m
theorem lefts_at {n m a b : Nat} (ha : a < n) (hb : b < m) : (leftsN n m).getD (a * m + b) 0 = a := by
  unfold leftsN
  rw [List.getD_eq_getElem?_getD, List.getElem?_map, List.getElem?_range (dm_lt ha hb)]
  exact dm_div hb
theorem rights_at {n m a b : Nat} (ha : a < n) (hb : b < m) : (rightsN n m).getD (a * m + b) 0 = b := by
  unfold rightsN
  rw [List.getD_eq_getElem?_getD, List.getElem?_map, List.getElem?_range (dm_lt ha hb)]
  exact dm_mod hb
theorem map_left {n m : Nat} {r : Row} (f : FineRow n r) : mapR (bes1 m r) r (leftsN n m) = true := by
  unfold mapR
  rw [List.all_eq_true]
  intro s hs
  rw [List.mem_range, bes1_len, f.len] at hs
  obtain ⟨a, b, ha, hb, rfl⟩ := dm_of hs
  obtain ⟨c, c1, c2, c3, c4⟩ := f.fine a ha
  rw [decide_eq_true_eq, lefts_at ha hb, pick_bes1 (by rw [f.len]; exact ha) hb, c1]
  have e : ((c : Int) * (m : Int) + (b : Int)).toNat = c * m + b := by
    have : (c : Int) * (m : Int) + (b : Int) = ((c * m + b : Nat) : Int) := by push_cast; rfl
    rw [this, Int.toNat_natCast]
  dsimp only
  rw [e, lefts_at c2 hb, ← c1]
theorem map_right {n m : Nat} {r : Row} (f : FineRow m r) : mapR (bes2 n m r) r (rightsN n m) = true := by
  unfold mapR
  rw [List.all_eq_true]
  intro s hs
  rw [List.mem_range, bes2_len, f.len] at hs
  obtain ⟨a, b, ha, hb, rfl⟩ := dm_of hs
  obtain ⟨c, c1, c2, c3, c4⟩ := f.fine b hb
  have ep := pick_bes2 (r := r) (n := n) (m := m) (a := a) (b := b) ha (by rw [f.len]; exact hb)
  rw [f.len] at ep
  rw [decide_eq_true_eq, rights_at ha hb, ep, c1]
  have e : ((a : Int) * (m : Int) + (c : Int)).toNat = a * m + c := by
    have : (a : Int) * (m : Int) + (c : Int) = ((a * m + c : Nat) : Int) := by push_cast; rfl
    rw [this, Int.toNat_natCast]
  dsimp only
  rw [e, rights_at ha c2, ← c1]
theorem map_of {w t : Tab} {ns : List Nat} (nm : namesT w = namesT t) (ln : ns.length = sizeT w) (lt : ∀ n ∈ ns, n < sizeT t) (h : ∀ x ∈ namesT w, mapR (rowAt w x) (rowAt t x) ns = true) : isMap w t ns = true := by
  unfold isMap inAll
  rw [decide_eq_true nm, decide_eq_true ln]
  simp only [Bool.true_and, Bool.and_eq_true, List.all_eq_true, decide_eq_true_eq]
  exact ⟨lt, h⟩
/-! ### turned about -/
def turnN (n m : Nat) : List Nat := (List.range (n * m)).map fun s => s % m * n + s / m
theorem turn_at {n m a b : Nat} (ha : a < n) (hb : b < m) : (turnN n m)[a * m + b]? = some (b * n + a) := by
  unfold turnN
  rw [List.getElem?_map, List.getElem?_range (dm_lt ha hb)]
  show some ((a * m + b) % m * n + (a * m + b) / m) = some (b * n + a)
  rw [dm_mod hb, dm_div hb]
theorem turn_len (n m : Nat) : (turnN n m).length = n * m := by
  unfold turnN
  rw [List.length_map, List.length_range]
theorem turn_lt {n m : Nat} : ∀ k ∈ turnN n m, k < m * n := fun k hk => by
  obtain ⟨s, hs, rfl⟩ := List.mem_map.mp hk
  obtain ⟨a, b, ha, hb, rfl⟩ := dm_of (List.mem_range.mp hs)
  rw [dm_mod hb, dm_div hb]
  exact dm_lt hb ha
theorem turn_inj {n m i j : Nat} (hi : i < n * m) (hj : j < n * m) (h : (turnN n m)[i]? = (turnN n m)[j]?) : i = j := by
  obtain ⟨a, b, ha, hb, rfl⟩ := dm_of hi
  obtain ⟨c, d, hc, hd, rfl⟩ := dm_of hj
  rw [turn_at ha hb, turn_at hc hd] at h
  have h := Option.some.inj h
  have h1 := congrArg (· / n) h
  have h2 := congrArg (· % n) h
  simp only [dm_div ha, dm_div hc, dm_mod ha, dm_mod hc] at h1 h2
  rw [h1, h2]
theorem turn_nd (n m : Nat) : (turnN n m).Nodup := by
  rw [List.nodup_iff_pairwise_ne, List.pairwise_iff_getElem]
  intro i j hi hj lt z
  have := turn_inj (n := n) (m := m) (i := i) (j := j) (by rw [turn_len] at hi; exact hi) (by rw [turn_len] at hj; exact hj) (by rw [List.getElem?_eq_getElem hi, List.getElem?_eq_getElem hj, z])
  omega
/-- the place of each number -/
theorem turn_back {n m k : Nat} (h : k < m * n) : (turnN n m)[(turnN m n).getD k 0]? = some k ∧ (turnN m n).getD k 0 < n * m := by
  obtain ⟨b, a, hb, ha, rfl⟩ := dm_of h
  rw [List.getD_eq_getElem?_getD, turn_at hb ha]
  exact ⟨turn_at ha hb, dm_lt ha hb⟩
def gOfN (ns : List Nat) (y : Int) : Option Int := (ns.map fun n : Nat => (n : Int))[y.toNat]?
theorem turn_num {n m a b : Nat} (ha : a < n) (hb : b < m) : gOfN (turnN n m) ((a * m + b : Nat) : Int) = some ((b * n + a : Nat) : Int) := by
  unfold gOfN
  rw [Int.toNat_natCast, List.getElem?_map, turn_at ha hb]
  rfl
theorem over_len (S : List Nat) (g : Int → Option Int) (r : Row) : (overR S g r).length = S.length := by
  unfold overR
  rw [List.length_map]
theorem pick_over {S : List Nat} {g : Int → Option Int} {r : Row} {i s : Nat} (h : S[i]? = some s) : pickR (overR S g r) i = (numG g (pickR r s).1, (pickR r s).2) := by
  show (overR S g r).getD i (0, 0) = _
  unfold overR
  rw [List.getD_eq_getElem?_getD, List.getElem?_map, h]
  rfl
theorem turn_row1 {n m : Nat} {r : Row} (f : FineRow n r) : overR (turnN m n) (gOfN (turnN n m)) (bes1 m r) = bes2 m n r := by
  refine row_ext (by rw [over_len, turn_len, bes2_len, f.len]) fun s hs => ?_
  rw [over_len, turn_len] at hs
  obtain ⟨b, a, hb, ha, rfl⟩ := dm_of hs
  obtain ⟨c, c1, c2, c3, c4⟩ := f.fine a ha
  have ep := pick_bes2 (r := r) (n := m) (m := n) (a := b) (b := a) hb (by rw [f.len]; exact ha)
  rw [f.len] at ep
  rw [pick_over (turn_at hb ha), pick_bes1 (by rw [f.len]; exact ha) hb, ep, c1]
  have e : (c : Int) * (m : Int) + (b : Int) = ((c * m + b : Nat) : Int) := by push_cast; rfl
  dsimp only
  unfold numG
  rw [e, turn_num c2 hb]
  simp
theorem turn_row2 {n m : Nat} {r : Row} (f : FineRow m r) : overR (turnN m n) (gOfN (turnN n m)) (bes2 n m r) = bes1 n r := by
  refine row_ext (by rw [over_len, turn_len, bes1_len, f.len]) fun s hs => ?_
  rw [over_len, turn_len] at hs
  obtain ⟨b, a, hb, ha, rfl⟩ := dm_of hs
  obtain ⟨c, c1, c2, c3, c4⟩ := f.fine b hb
  have ep := pick_bes2 (r := r) (n := n) (m := m) (a := a) (b := b) ha (by rw [f.len]; exact hb)
  rw [f.len] at ep
  rw [pick_over (turn_at hb ha), pick_bes1 (r := r) (m := n) (by rw [f.len]; exact hb) ha, ep, c1]
  have e : (a : Int) * (m : Int) + (c : Int) = ((a * m + c : Nat) : Int) := by push_cast; rfl
  dsimp only
  unfold numG
  rw [e, turn_num ha c2]
  simp
theorem turn_tab {t u B : Tab} (okt : okTab t = true) (oku : okTab u = true) (p : B.Perm (besT t u)) : (overT (turnN (sizeT u) (sizeT t)) (gOfN (turnN (sizeT t) (sizeT u))) B).Perm (besT u t) := by
  refine (p.map _).trans ?_
  have e : (besT t u).map (fun e => (e.1, overR (turnN (sizeT u) (sizeT t)) (gOfN (turnN (sizeT t) (sizeT u))) e.2)) = (t.map fun e => (e.1, bes2 (sizeT u) (sizeT t) e.2)) ++ u.map fun e => (e.1, bes1 (sizeT t) e.2) := by
    unfold besT
    rw [List.map_append, List.map_map, List.map_map]
    have cc : ∀ {a b c d : Tab}, a = c → b = d → a ++ b = c ++ d := fun h1 h2 => by rw [h1, h2]
    refine cc (List.map_congr_left fun e he => ?_) (List.map_congr_left fun e he => ?_)
    · show (e.1, overR _ _ (bes1 (sizeT u) e.2)) = _
      rw [turn_row1 (fine_of okt he)]
    · show (e.1, overR _ _ (bes2 (sizeT t) (sizeT u) e.2)) = _
      rw [turn_row2 (fine_of oku he)]
  show ((besT t u).map _).Perm _
  rw [e]
  exact List.perm_append_comm
end Tm

/-! What a cut kind is, as numbers. -/
namespace Tm
open PySem PySem.Spec PyProof.Rows L2
theorem find_ix : ∀ {ns : List Nat} {i x k : Nat}, ns.Nodup → ns[i]? = some x → ((ns.zipIdx k).find? fun z => decide (((z.1 : Nat) : Int) = (x : Int))) = some (x, k + i)
  | [], _, _, _, _, h => nomatch h
  | a :: ns, 0, x, k, _, h => by
    cases h
    rw [List.zipIdx_cons, List.find?_cons]
    simp
  | a :: ns, i + 1, x, k, nd, h => by
    have nd' := List.nodup_cons.mp nd
    have h' : ns[i]? = some x := h
    have ne : a ≠ x := fun z => nd'.1 (by rw [z]; exact List.mem_of_getElem? h')
    rw [List.zipIdx_cons, List.find?_cons]
    have : decide (((a : Nat) : Int) = (x : Int)) = false := decide_eq_false fun z => ne (Int.ofNat.inj z)
    rw [this]
    dsimp only
    rw [find_ix nd'.2 h']
    congr 2
    omega
theorem gIx_at {ns : List Nat} {i x : Nat} (nd : ns.Nodup) (h : ns[i]? = some x) : gIx ns (x : Int) = some (i : Int) := by
  unfold gIx
  rw [find_ix nd h]
  simp
theorem nd_ix {ns : List Nat} {i j x : Nat} (nd : ns.Nodup) (h : ns[i]? = some x) (h' : ns[j]? = some x) : i = j := by
  obtain ⟨hi, e1⟩ := List.getElem?_eq_some_iff.mp h
  obtain ⟨hj, e2⟩ := List.getElem?_eq_some_iff.mp h'
  have pw := List.pairwise_iff_getElem.mp (List.nodup_iff_pairwise_ne.mp nd)
  rcases Nat.lt_trichotomy i j with z | z | z
  · exact absurd (e1.trans e2.symm) (pw i j hi hj z)
  · exact z
  · exact absurd (e2.trans e1.symm) (pw j i hj hi z)
theorem toN_pick {r : Row} {s : Nat} (h : s < r.length) : toN r s = (pickR r s).1.toNat := by
  unfold toN
  rw [pick_at h]
/-- states of a table that nothing leads out of -/
structure Shut (t : Tab) (S : List Nat) : Prop where
  nd : S.Nodup
  lt : ∀ x ∈ S, x < sizeT t
  to : ∀ e ∈ t, ∀ x ∈ S, toN e.2 x ∈ S
  some_ : S ≠ []
theorem Shut.len {t : Tab} {S : List Nat} (h : Shut t S) : 1 ≤ S.length ∧ S.length ≤ sizeT t := by
  refine ⟨?_, ?_⟩
  · have := h.some_
    cases S with
    | nil => exact absurd rfl this
    | cons => simp
  · have := List.Nodup.length_le_of_subset h.nd (l₂ := List.range (sizeT t)) fun x hx => List.mem_range.mpr (h.lt x hx)
    rwa [List.length_range] at this
theorem Shut.at_ {t : Tab} {S : List Nat} (h : Shut t S) (ok : okTab t = true) {e : Str × Row} (he : e ∈ t) {i s : Nat} (hi : S[i]? = some s) :
    ∃ j c : Nat, S[j]? = some c ∧ j < S.length ∧ (pickR e.2 s).1 = (c : Int) ∧ pickR (overR S (gIx S) e.2) i = ((j : Int), (pickR e.2 s).2) ∧ 0 ≤ (pickR e.2 s).2 ∧ (pickR e.2 s).2 ≤ 99 := by
  have f := fine_of ok he
  have hs := List.mem_of_getElem? hi
  obtain ⟨c, c1, c2, c3, c4⟩ := f.fine s (h.lt s hs)
  have hc : c ∈ S := by
    have := h.to e he s hs
    rw [toN_pick (by rw [f.len]; exact h.lt s hs), c1, Int.toNat_natCast] at this
    exact this
  obtain ⟨j, hj⟩ := List.mem_iff_getElem?.mp hc
  refine ⟨j, c, hj, (List.getElem?_eq_some_iff.mp hj).1, c1, ?_, c3, c4⟩
  rw [pick_over hi, c1]
  unfold numG
  rw [gIx_at h.nd hj]
  rfl
theorem Shut.over {t : Tab} {S : List Nat} (h : Shut t S) (ok : okTab t = true) : overOk S (gIx S) t := fun e he s hs => by
  obtain ⟨i, hi⟩ := List.mem_iff_getElem?.mp hs
  obtain ⟨j, c, hj, jl, c1, _⟩ := h.at_ ok he hi
  refine ⟨h.lt s hs, ?_, by omega⟩
  rw [c1, gIx_at h.nd hj]
  rfl
theorem over_names (S : List Nat) (g : Int → Option Int) (t : Tab) : namesT (overT S g t) = namesT t := by
  unfold namesT overT
  rw [List.map_map]
  rfl
theorem Shut.fine {t : Tab} {S : List Nat} (h : Shut t S) (ok : okTab t = true) {e : Str × Row} (he : e ∈ t) : FineRow S.length (overR S (gIx S) e.2) := by
  refine ⟨over_len _ _ _, fun i hi => ?_⟩
  obtain ⟨j, c, hj, jl, c1, c2, c3, c4⟩ := h.at_ ok he (List.getElem?_eq_getElem hi)
  rw [c2]
  exact ⟨j, rfl, jl, c3, c4⟩
theorem Shut.ok {t : Tab} {S : List Nat} (h : Shut t S) (ok : okTab t = true) : okTab (overT S (gIx S) t) = true ∧ sizeT (overT S (gIx S) t) = S.length := by
  obtain ⟨t1, t6, ts, ts2, tn⟩ := ok_facts ok
  have l := h.len
  have e : (overT S (gIx S) t).length = t.length := by
    unfold overT
    rw [List.length_map]
  refine okTab_of (by omega) (by omega) l.1 (by omega) fun e he => ?_
  obtain ⟨d, hd, rfl⟩ := List.mem_map.mp he
  have f := h.fine ok hd
  exact ⟨tn d hd, f.len, fine_ok f⟩
theorem Shut.rowAt {t W : Tab} {S : List Nat} (p : W.Perm (overT S (gIx S) t)) (nd : (namesT t).Nodup) : ∀ x ∈ namesT t, rowAt W x = overR S (gIx S) (rowAt t x) := fun x hx =>
  rowAt_of ((p.map _).symm.nodup (by rw [show (overT S (gIx S) t).map (fun e => e.1) = namesT t from over_names _ _ _]; exact nd)) (p.mem_iff.mpr (List.mem_map.mpr ⟨_, row_in hx, rfl⟩))
theorem Shut.go {t W : Tab} {S : List Nat} (h : Shut t S) (ok : okTab t = true) (hr : ∀ x ∈ namesT t, Tm.rowAt W x = overR S (gIx S) (Tm.rowAt t x)) : ∀ (row : List Str) (i s : Nat), (∀ x ∈ row, x ∈ namesT t) → S[i]? = some s →
    ∃ j c, S[j]? = some c ∧ goR W i row = (j, (goR t s row).2) ∧ (goR t s row).1 = c
  | [], i, s, _, hi => ⟨i, s, hi, rfl, rfl⟩
  | x :: row, i, s, hx, hi => by
    have hm := hx x List.mem_cons_self
    obtain ⟨j, c, hj, jl, c1, c2, _⟩ := h.at_ ok (row_in hm) hi
    dsimp only at c1 c2
    obtain ⟨j2, c3, h1, h2, h3⟩ := Shut.go h ok hr row j c (fun y hy => hx y (List.mem_cons_of_mem _ hy)) hj
    refine ⟨j2, c3, h1, ?_, ?_⟩
    · rw [goR, hr x hm, c2, goR, c1]
      simp only [Int.toNat_natCast]
      rw [h2]
    · rw [goR, c1]
      simp only [Int.toNat_natCast]
      exact h3
theorem Shut.map {t W : Tab} {S : List Nat} (h : Shut t S) (ok : okTab t = true) (nm : namesT W = namesT t) (sz : sizeT W = S.length) (hr : ∀ x ∈ namesT t, Tm.rowAt W x = overR S (gIx S) (Tm.rowAt t x)) : isMap W t S = true := by
  refine map_of nm sz.symm h.lt fun x hx => ?_
  rw [nm] at hx
  rw [hr x hx]
  unfold mapR
  rw [List.all_eq_true]
  intro i hi
  rw [List.mem_range, over_len] at hi
  obtain ⟨j, c, hj, jl, c1, c2, _⟩ := h.at_ ok (row_in hx) (List.getElem?_eq_getElem hi)
  dsimp only at c1 c2
  rw [decide_eq_true_eq, c2]
  simp only [Int.toNat_natCast]
  rw [List.getD_eq_getElem?_getD, List.getElem?_eq_getElem hi, List.getD_eq_getElem?_getD, hj]
  show pickR (Tm.rowAt t x) S[i] = ((c : Int), _)
  rw [← c1]
/-! ### what is reached -/
theorem walk_shut {t : Tab} (ok : okTab t = true) {s : Nat} (hs : s < sizeT t) : Shut t (walkN t s (sizeT t)) ∧ s ∈ walkN t s (sizeT t) := by
  obtain ⟨h1, h2, h3, h4⟩ := walk_facts hs (sizeT t)
  refine ⟨⟨h1, h2, fun e he x hx => (walk_all ok hs _).mpr (.step e ((walk_all ok hs x).mp hx) he), fun z => ?_⟩, h4⟩
  rw [z] at h4
  cases h4
theorem cut_ok {t : Tab} (ok : okTab t = true) {s : Nat} (hs : s < sizeT t) : ∃ out, CutOk t s out (walkN t s (sizeT t)) := by
  obtain ⟨out, e, nd, mem, few⟩ := runR_ok ok hs
  have h := (walk_shut ok hs).1
  have l := h.len
  have := (ok_facts ok).2.2.2.1
  exact ⟨out, hs, e, by omega, fun ns p up => reached_is ok hs nd mem p up, h.nd, by omega, h.over ok⟩
theorem reach_cut {t W : Tab} {s i0 : Nat} {S : List Nat} (h : Shut t S) (ok : okTab t = true) (p : W.Perm (overT S (gIx S) t)) (h0 : S[i0]? = some s) : ∀ x, ReachN t s x → ∀ i, S[i]? = some x → ReachN W i0 i := fun x hx => by
  induction hx with
  | start =>
    intro i hi
    rw [nd_ix h.nd hi h0]
    exact .start
  | @step y e hy he ih =>
    intro i hi
    have hyS : y ∈ S := by
      refine reach_least (S := fun x => x ∈ S) (List.mem_of_getElem? h0) (fun a ha e he => h.to e he a ha) y hy
    obtain ⟨k, hk⟩ := List.mem_iff_getElem?.mp hyS
    obtain ⟨j, c, hj, jl, c1, c2, _⟩ := h.at_ ok he hk
    have f := fine_of ok he
    have ec : toN e.2 y = c := by
      rw [toN_pick (by rw [f.len]; exact h.lt y hyS), c1, Int.toNat_natCast]
    rw [ec] at hi
    have ij := nd_ix h.nd hi hj
    subst ij
    have kl : k < S.length := (List.getElem?_eq_some_iff.mp hk).1
    have := ReachN.step (t := W) (e.1, overR S (gIx S) e.2) (ih k hk) (p.mem_iff.mpr (List.mem_map.mpr ⟨e, he, rfl⟩))
    rw [toN_pick (by rw [over_len]; exact kl), c2] at this
    exact this
theorem range_up (n : Nat) : (iN (List.range n)).Pairwise (· < ·) := by
  unfold iN
  rw [List.pairwise_map]
  exact List.pairwise_lt_range.imp fun h => by omega
theorem walk_cut {t W : Tab} {s i0 : Nat} (ok : okTab t = true) (hs : s < sizeT t) (okW : okTab W = true) (sz : sizeT W = (walkN t s (sizeT t)).length) (p : W.Perm (overT (walkN t s (sizeT t)) (gIx (walkN t s (sizeT t))) t)) (h0 : (walkN t s (sizeT t))[i0]? = some s) : walkN W i0 (sizeT W) = List.range (sizeT W) := by
  have h := (walk_shut ok hs).1
  have hi0 : i0 < sizeT W := by
    rw [sz]
    exact (List.getElem?_eq_some_iff.mp h0).1
  have e := rise_one (walk_up okW hi0) (range_up (sizeT W)) fun k => by
    unfold iN
    rw [List.mem_map, List.mem_map]
    constructor
    · rintro ⟨x, hx, rfl⟩
      exact ⟨x, List.mem_range.mpr ((walk_facts hi0 _).2.1 x hx), rfl⟩
    · rintro ⟨x, hx, rfl⟩
      refine ⟨x, (walk_all okW hi0 x).mpr ?_, rfl⟩
      have hx' : x < (walkN t s (sizeT t)).length := by
        rw [← sz]
        exact List.mem_range.mp hx
      exact reach_cut h ok p h0 _ ((walk_all ok hs _).mp (List.getElem_mem hx')) x (List.getElem?_eq_getElem hx')
  unfold iN at e
  exact List.map_inj_right (fun a b z => by omega) |>.mp e
theorem over_same {W : Tab} (ok : okTab W = true) : overT (List.range (sizeT W)) (gIx (List.range (sizeT W))) W = W := by
  unfold overT
  have : ∀ e ∈ W, ((e.1, overR (List.range (sizeT W)) (gIx (List.range (sizeT W))) e.2) : Str × Row) = id e := fun e he => by
    have f := fine_of ok he
    refine Prod.ext rfl ?_
    refine row_ext (by rw [over_len, List.length_range]; exact f.len.symm) fun s hs => ?_
    rw [over_len, List.length_range] at hs
    obtain ⟨c, c1, c2, c3, c4⟩ := f.fine s hs
    rw [pick_over (s := s) (by rw [List.getElem?_range hs])]
    unfold numG
    rw [c1, gIx_at (ns := List.range (sizeT W)) (i := c) (x := c) List.nodup_range (by rw [List.getElem?_range c2])]
    show ((c : Int), _) = pickR e.2 s
    rw [← c1]
  rw [List.map_congr_left this, List.map_id]
end Tm

/-! len(set(a tuple of whole numbers)); Kind.turned; _law_row of names; _law_without. -/
namespace Tm
open PySem PySem.Spec PyProof.Rows L2
local macro_rules | `(tactic| walk_at "x") => `(tactic| dsimp only [tNext, tRet, tSeq, tCall, tCB, tC, tCons, tNil, tAsg, tDrop, sFld])
def tLenSetT (K : PySem.W.Frag) (ta : TE) : TE := fun σ H Q => ta σ H fun x H1 => ∃ (l : Addr) (ns : List Int), x = .ref l ∧ SqT K H1 l (ns.map V.int) ∧ ns.Nodup ∧ ns.length ≤ 4000 ∧ Q (.int (ns.length : Nat)) H1
theorem pe_lenSetT {X : Cx} {K : PySem.W.Frag} {a : Expr} {ta : TE} {p p2 q pos : Pos} (hg : Gl X "len") (hm : X.mg "len" = none) (hg2 : Gl X "set") (hm2 : X.mg "set" = none) (ha : PE X a ta) (hK : X.K = K := by rfl) (hc : X.calm = true := by rfl)
    (na : starEach [a] X.env = (false, eval a X.env) :: starEach [] X.env := by rfl) : PE X (.Call (.Name "len" p) [.Call (.Name "set" p2) [a] [] q] [] pos) (tLenSetT K ta) := by
  subst hK
  refine ⟨fun pins s σ H Q I h => ?_⟩
  refine Call_ (ld_blt I hg hm boot_len ?_)
  refine PyProof.Rows.callWith_builtin1 (PyProof.Rows.args_cons ?_ rfl) rfl rfl
  refine Call_ (ld_blt I hg2 hm2 boot_set ?_)
  refine PyProof.Rows.callWith_type1 (PyProof.Rows.args_cons (thn (ha.run pins s σ H _ I h) fun v s1 ⟨x, H1, I1, r1, q1⟩ => PyProof.Rows.args_nil ?_) na) na rfl
  obtain ⟨l, ns, rfl, hq, hnd, hl, q1⟩ := q1
  cases r1
  obtain ⟨its, r, pl, hz⟩ := I1.tuple hq
  refine call_set_tupI (items := its.toArray) ns (I1.ok.hd hc) pl (by simpa using RZ.intsAre_vals r) (by unfold scanBound; omega) fun h' tk c hS hk hp => ?_
  refine PyProof.Rows.args_nil ?_
  obtain ⟨o, es, ep, t, ho, hex, hd, _, nd, mem, _, hf, hn, _⟩ := hS
  have I2 : Inv X pins σ H1 { s1 with heap := h', toks := tk } := I1.kept fun b o e => hp b o e
  have sub1 : ∀ x ∈ es.toList.map keyOf, x ∈ ns := fun x hx => of_decide_eq_true ((mem x).mpr hx)
  have sub2 : ∀ x ∈ ns, x ∈ es.toList.map keyOf := fun x hx => (mem x).mp (decide_eq_true hx)
  have l1 := List.Nodup.length_le_of_subset nd sub1
  have l2 := List.Nodup.length_le_of_subset hnd sub2
  have l3 : (es.toList.map keyOf).length = es.size := by rw [List.length_map, Array.length_toList]
  have hn2 : es.size = ns.length := Nat.le_antisymm (l3 ▸ l1) (l3 ▸ l2)
  exact call_len_set ho hex hd hf (by omega) ⟨.int ns.length, H1, I2.tok _, ⟨_, by rw [hn2]⟩, q1⟩
section
variable {P : Program} {w : World} {K : PySem.W.Frag} {mg : Str → Option Value} {base : Heap} {C : Addr}
abbrev s_turned : Stmt := inClass (top 24) 10
theorem sc_turned : FnScope ["self", "numbers", "states", "number"] ["self", "numbers"] (defScope s_turned) := ⟨rfl, rfl, rfl, by decide +kernel, rfl, by decide +kernel, by decide +kernel⟩
/-- numbers: a new number for each state -/
structure TurnOk (t : Tab) (ns states : List Nat) : Prop where
  len : ns.length = sizeT t
  lt : inAll (sizeT t) ns = true
  nd : ns.Nodup
  back : states = (List.range (sizeT t)).map (ixN ns)
  all : ∀ k, k < sizeT t → k ∈ ns
  over : overOk states (gOfN ns) t
def sp_turned (C : Addr) : Sp := fun vs H Q _ => ∃ (v : V) (t : Tab) (p : Addr) (ns states : List Nat), vs = [v, .ref p] ∧ KindV C H v t ∧ TupD H p ns ∧ TurnOk t ns states ∧ sp_kind C (overT states (gOfN ns) t) H Q
theorem ok_turned (B : Bt mg) (Bs : mg "set" = none) (T : Kc K C) (O_is_state_tuple : Ok P w K mg base "_is_state_tuple" 3 ["value", "many", "size"] sp_statet) (O_kind_over : Ok P w K mg base "_kind_over" 7 ["kind", "states", "numbers"] (sp_over C)) (D : DfM K C "turned" "Kind.turned" s_turned ["self", "numbers"]) : OkM P w K mg base C "turned" 8 ["self", "numbers"] (sp_turned C) := by
  refine D.ok sc_turned (fun vs H Q E h => ?_) (fun f cdv A outer s H vs Q E hr h => ?_)
  · obtain ⟨v, t, p, ns, states, rfl, _⟩ := h
    rfl
  · obtain ⟨v, t, p, ns, states, rfl, hk, hp, tk, ok2, nd2, q⟩ := h
    obtain ⟨a, dx, d, kvs, rfl, ha, hd, ht, hok, nd, hst⟩ := id hk
    have f := ok_facts hok
    refine ⟨_, pss_cons (ps_if (PW.pt (pw_or (pt_not (pt_val (O_is_state_tuple.call hr (ha := pa_cons (pv 1) (pa_cons (pe_fld (pv 0) rfl) (pa_cons (pe_fld (pv 0) rfl) (pa_nil))))))) (pw_or1 (pt_cmpR op_ne (pe_lenSetT (K := K) (by rfl) B.len (by rfl) Bs (pv 1)) (pe_fld (pv 0) rfl) (nomark _)))))
        (pss_one (ps_never))
        (pss_nil))
      (pss_cons (ps_setLc (i := 2) (own := [("number", 3)]) (g := gName 3) (tt := tYes) rfl sc_turned.nd rfl rfl (sw_true rfl rfl rfl (by decide +kernel)) (pi_range1 (by rfl) B.range (pa_cons (pe_fld (pv 0) rfl) (pa_nil))) (blkOk_by (own := [("number", 3)]) (N := ["self", "numbers", "states", "number"]) (sc := defScope s_turned) (by decide +kernel)) (fun _ _ _ _ _ => pg_name (i := 3) sc_turned.nd rfl (.inl rfl)) (fun _ _ _ _ _ => pts_nil) (fun _ _ _ _ _ => pe_tupM PySem.F.plainAttrs_tuple PySem.F.slot_tuple_index PySem.F.type_tuple_index (mt_tupIx (K := K)) (pv 1) (pa_cons (pv 3) (pa_nil))))
      (pss_one (ps_ret (O_kind_over.call hr (ha := pa_cons (pv 0) (pa_cons (pv 2) (pa_cons (pv 1) (pa_nil)))))))), ?_⟩
    have l12 : ns.length ≤ 12 := by
      have := tk.len
      omega
    refine ⟨_, rfl, _, rfl, a, C, dx, _, _, rfl, ha, T.cl, T.nS, kf_S _ _, _, rfl, a, C, dx, _, _, rfl, ha, T.cl, T.nS, kf_S _ _, p, ns, sizeT t, sizeT t, rfl, hp.rd, by omega, fun H1 e1 => ⟨_, rfl, ?_⟩⟩
    rw [decide_eq_true tk.len, tk.lt]
    refine ifF rfl ?_
    refine ⟨_, rfl, p, iN ns, rfl, .inl (by rw [← natV_iN]; exact (hp.keep e1).rd), ?_, by rw [iN, List.length_map]; omega, _, rfl, a, C, dx, _, _, rfl, e1 _ _ ha, T.cl, T.nS, kf_S _ _, rfl, _, rfl, ?_⟩
    · unfold iN
      exact List.pairwise_map.mpr (tk.nd.imp fun h e => h (by omega))
    refine ifF (by rw [iN, List.length_map, tk.len]; simp) ?_
    dsimp only [tNext]
    walk_at "x"
    refine lc_runR (n := (sizeT t : Int)) (fun Q q => ⟨_, rfl, a, C, dx, _, _, rfl, e1 _ _ ha, T.cl, T.nS, kf_S _ _, q _ _ (Same.refl _) rfl⟩) ⟨by omega, by omega⟩ (List.range (sizeT t)) (by simp) (fun _ => true) (fun z v _ => v = V.int ((ixN ns z : Nat) : Int)) (by rw [List.length_range]; omega) (by intro _; rfl) (fun _ _ _ _ _ h => h)
      (fun i z x H2 hz hx e2 => ⟨evt_yes, fun _ H3 e3 Q q => ?_⟩) (fun ps H2 ys hps e2 hls hP => ?_)
    · obtain ⟨ez, hi⟩ := range_at hz
      subst ez
      subst hx
      obtain ⟨h1, h2⟩ := ixN_at (tk.all z hi)
      have hp3 := hp.keep (e1.trans (e2.trans e3))
      exact ⟨_, rfl, ⟨p, ns, rfl, hp3⟩, _, rfl, p, ns, z, _, rfl, rfl, .inl hp3.rd, h1, h2, q _ _ (Same.refl _) rfl⟩
    · rw [filter_all] at hP
      have ey : ys = natV states := by
        have : ∀ {ys : List V} {m : List Nat}, Paired (fun v z => v = V.int ((ixN ns z : Nat) : Int)) ys m → ys = natV (m.map (ixN ns)) := by
          intro ys m hh
          induction hh with
          | nil => rfl
          | cons r _ ih =>
            rw [r, ih]
            rfl
        rw [tk.back]
        exact this hP
      subst ey
      have e12 := e1.trans e2
      dsimp only [gName]
      refine ⟨_, rfl, _, rfl, _, rfl, _, .ref ps, .ref p, t, states, gOfN ns, rfl, hk.keep e12, ⟨ps, rfl, .inl hls⟩, ?_, .inl ⟨p, ns, rfl, (hp.keep e12).rd, fun i y _ hy => hy⟩, tk.over, ok2, nd2, fun v' H' t' e' => q v' H' t' (e12.trans e')⟩
      rw [tk.back, List.length_map, List.length_range]
      omega
/-! ### a row of names -/
/-! ### without all of them -/
theorem okTab_sub {t u : Tab} (ok : okTab t = true) (h : ∀ e ∈ u, e ∈ t) (l1 : 1 ≤ u.length) (l6 : u.length ≤ t.length) : okTab u = true ∧ sizeT u = sizeT t := by
  have f := ok_facts ok
  exact okTab_of l1 (by omega) f.2.2.1 f.2.2.2.1 fun e he => ⟨f.2.2.2.2 e (h e he), size_of_ok ok e (h e he), fine_ok (fine_of ok (h e he))⟩
def lessT (ns : List Str) (t : Tab) : Tab := t.filter fun e => !decide (e.1 ∈ ns)
theorem less_next {ns : List Str} {i : Nat} {x : Str} {t : Tab} (h : ns[i]? = some x) : cutT x (lessT (ns.take i) t) = lessT (ns.take (i + 1)) t := by
  unfold cutT lessT
  rw [List.filter_filter]
  refine List.filter_congr fun e he => ?_
  rw [take_one h, Bool.eq_iff_iff]
  simp only [Bool.and_eq_true, Bool.not_eq_true', decide_eq_false_iff_not, List.mem_append, List.mem_singleton]
  constructor
  · rintro ⟨h1, h2⟩ (z | z)
    · exact h2 z
    · exact h1 z
  · intro z
    exact ⟨fun y => z (.inr y), fun y => z (.inl y)⟩
end
end Tm

set_option maxHeartbeats 2000000
/-! list(zip(a tuple, a list)): new tuples, all of them held by the list. -/
namespace TmZ
open PySem PySem.Spec PyProof.Rows L2
open PySem.W (kdx_alive)
section
variable {prog : Program} {w : World} {A : Around} {E : Value → Shared → Prop} {s : Shared}
theorem draws_tup (hh : A.handled = none) (it l : Addr) (hne : l ≠ it) (items : Array Value) :
    Draws prog w A it [it, l] items.size (fun i v => items[i]? = some v) (fun i h => h.IsTupleIter it l i ∧ h.IsTuple l items) where
  live := fun _ _ st => let ⟨o, ho, _⟩ := st.1; ⟨o, ho⟩
  frame := fun _ _ _ st hk => ⟨st.1.at fun o e => hk it (by simp) o e, by obtain ⟨o, ho, r⟩ := st.2; exact ⟨o, hk l (by simp) o ho, r⟩⟩
  item := fun i s Q E hi st hQ => by
    refine RZ.nextOf_tuple_item st.1 st.2 (x := items[i]) (by simp [hi]) fun h' hit' hs' => ?_
    exact hQ _ h' s.toks (by simp [hi]) ⟨hit', st.2.extBut hs'.extBut hne⟩ hs'
  done := fun s Q E st hE => RZ.nextOf_tuple_end hh st.1 st.2 (by simp) hE
variable {z TI TO i1 i2 : Addr} {fp1 fp2 : List Addr} {n1 n2 i : Nat} {P1 P2 : Nat → Value → Prop} {St1 St2 : Nat → Heap → Prop}
/-- the next pair while the tuple given out before is still there -/
theorem held_item {T : Addr} {f : Bool} {oT : Obj} {Q : Value → Shared → Prop} (S : ZipSep2 z TI TO i1 i2 fp1 fp2) (D1 : Draws prog w A i1 fp1 n1 P1 St1) (D2 : Draws prog w A i2 fp2 n2 P2 St2)
    (hz : IsZipHeld s.heap z TI TO T f) (hT : s.heap.get? T = some oT) (hTI : IsTupOf2 s.heap TI (.ref i1) (.ref i2)) (st1 : St1 i s.heap) (st2 : St2 i s.heap) (hlt1 : i < n1) (hlt2 : i < n2)
    (hQ : ∀ x1 x2 h' tk, P1 i x1 → P2 i x2 → IsZipHeld h' z TI TO T true → St1 (i + 1) h' → St2 (i + 1) h' → IsTupOf2 h' s.heap.objs.size x1 x2 → h'.objs.size = s.heap.objs.size + 1 →
      (∀ c o, c ≠ z → c ≠ i1 → c ≠ i2 → s.heap.get? c = some o → h'.get? c = some o) → Q (.ref s.heap.objs.size) { s with heap := h', toks := tk }) :
    wpAny (model prog w) A (Builtin.«zip.__next__» ⟨[.ref z], []⟩) (fun fin s' => ∃ v, fin = .done (.ret v) ∧ Q v s') E s := by
  obtain ⟨hp, g, d, tk0, os⟩ := s
  show wpAny _ _ (field (.ref z) 2 >>= _) _ _ _
  refine wpAny_bind (wpAny_field hz rfl (x := .bool false) rfl ?_)
  show wpAny _ _ (field (.ref z) 3 >>= _) _ _ _
  refine wpAny_bind (wpAny_field hz rfl (x := .ref TI) rfl ?_)
  refine wpAny_bind (wpAny_seqItems hTI rfl ?_)
  show wpAny _ _ (Builtin.SmallTypes.ownedTupleIsFree (.ref z) >>= _) _ _ _
  refine wpAny_bind (wpAny_tupleHeld_zip hz hT fun g0 hz0 hs0 => ?_)
  replace hs0 : Heap.SameBut z hp g0 := hs0
  simp only [Bool.false_eq_true, if_false]
  refine wpAny_bind ?_
  rw [← Array.forIn_toList]
  simp only [List.forIn_cons, List.forIn_nil]
  refine wpAny_bind (wpAny_bind (wpAny_holding ?_))
  show wpAny _ _ (Builtin.SmallTypes.nextOf (.ref i1) >>= _) _ _ ⟨g0, g, d, tk0, os⟩
  refine wpAny_bind (D1.item i _ _ _ hlt1 (D1.over st1 hs0 S.zf1) fun x1 p1 tk1 hx1 sn1 hp1 => wpAny_pure ?_)
  replace hp1 : Heap.SameBut i1 g0 p1 := hp1
  refine wpAny_pure ?_
  refine wpAny_bind (wpAny_bind (wpAny_holding ?_))
  show wpAny _ _ (Builtin.SmallTypes.nextOf (.ref i2) >>= _) _ _ ⟨p1, g, d, tk1, os⟩
  refine wpAny_bind (D2.item i _ _ _ hlt2 (D2.over (D2.over st2 hs0 S.zf2) hp1 S.sep1_2) fun x2 p2 tk2 hx2 sn2 hp2 => wpAny_pure ?_)
  replace hp2 : Heap.SameBut i2 p1 p2 := hp2
  refine wpAny_pure (wpAny_pure ?_)
  show wpAny _ _ (newTuple [x1, x2] >>= _) _ _ _
  refine wpAny_bind (wpAny_newTuple ?_)
  have hsz : p2.objs.size = hp.objs.size := by rw [hp2.1, hp1.1, hs0.1]
  have hzz : IsZipHeld p2 z TI TO T true := hp2.extBut _ _ S.zi2 (hp1.extBut _ _ S.zi1 hz0)
  have hk : ∀ c o, c ≠ z → c ≠ i1 → c ≠ i2 → hp.get? c = some o → p2.get? c = some o := fun c o c1 c2 c3 e => hp2.extBut _ _ c3 (hp1.extBut _ _ c2 (hs0.extBut _ _ c1 e))
  have hj1 : St1 (i + 1) p2 := D1.over sn1 hp2 S.sep2_1
  refine wpAny_pure ⟨_, rfl, ?_⟩
  show Q (.ref p2.objs.size) _
  have hp' : IsTupOf2 (p2.push { cls := .type "tuple", data := .seq #[x1, x2] }) p2.objs.size x1 x2 := Heap.get?_push_size _ rfl
  have hz4 : (p2.push { cls := .type "tuple", data := .seq #[x1, x2] }).objs.size = p2.objs.size + 1 := Heap.size_push ..
  rw [hsz] at hp' hz4 ⊢
  exact hQ x1 x2 _ tk2 hx1 hx2 (Heap.get?_push_of_some _ hzz) (D1.frame _ _ _ hj1 fun b _ o e => Heap.get?_push_of_some _ e) (D2.frame _ _ _ sn2 fun b _ o e => Heap.get?_push_of_some _ e) hp' hz4 fun c o c1 c2 c3 e => Heap.get?_push_of_some _ (hk c o c1 c2 c3 e)
theorem held_end {T : Addr} {f : Bool} {oT : Obj} {Q : Fin → Shared → Prop} (S : ZipSep2 z TI TO i1 i2 fp1 fp2) (D1 : Draws prog w A i1 fp1 n1 P1 St1) (D2 : Draws prog w A i2 fp2 n2 P2 St2)
    (hz : IsZipHeld s.heap z TI TO T f) (hT : s.heap.get? T = some oT) (hTI : IsTupOf2 s.heap TI (.ref i1) (.ref i2)) (st1 : St1 i s.heap) (st2 : St2 i s.heap) (hle1 : i ≤ n1) (hle2 : i ≤ n2) (hend : i = n1 ∨ i = n2)
    (hE : ∀ h' tk e, (∀ c o, c ≠ z → c ≠ i1 → c ≠ i2 → s.heap.get? c = some o → h'.get? c = some o) → (∃ o, h'.get? e = some o ∧ o.cls = .type "StopIteration") → E (.ref e) { s with heap := h', toks := tk }) :
    wpAny (model prog w) A (Builtin.«zip.__next__» ⟨[.ref z], []⟩) Q E s := by
  obtain ⟨hp, g, d, tk0, os⟩ := s
  show wpAny _ _ (field (.ref z) 2 >>= _) _ _ _
  refine wpAny_bind (wpAny_field hz rfl (x := .bool false) rfl ?_)
  show wpAny _ _ (field (.ref z) 3 >>= _) _ _ _
  refine wpAny_bind (wpAny_field hz rfl (x := .ref TI) rfl ?_)
  refine wpAny_bind (wpAny_seqItems hTI rfl ?_)
  show wpAny _ _ (Builtin.SmallTypes.ownedTupleIsFree (.ref z) >>= _) _ _ _
  refine wpAny_bind (wpAny_tupleHeld_zip hz hT fun g0 hz0 hs0 => ?_)
  replace hs0 : Heap.SameBut z hp g0 := hs0
  simp only [Bool.false_eq_true, if_false]
  refine wpAny_bind ?_
  rw [← Array.forIn_toList]
  simp only [List.forIn_cons, List.forIn_nil]
  refine wpAny_bind (wpAny_bind (wpAny_holding ?_))
  show wpAny _ _ (Builtin.SmallTypes.nextOf (.ref i1) >>= _) _ _ ⟨g0, g, d, tk0, os⟩
  by_cases hlt1 : i < n1
  · refine wpAny_bind (D1.item i _ _ _ hlt1 (D1.over st1 hs0 S.zf1) fun x1 p1 tk1 hx1 sn1 hp1 => wpAny_pure ?_)
    replace hp1 : Heap.SameBut i1 g0 p1 := hp1
    have hi2 : i = n2 := by omega
    refine wpAny_pure ?_
    refine wpAny_bind (wpAny_bind (wpAny_holding ?_))
    show wpAny _ _ (Builtin.SmallTypes.nextOf (.ref i2) >>= _) _ _ ⟨p1, g, d, tk1, os⟩
    refine wpAny_bind (D2.done ⟨p1, g, d, tk1, os⟩ _ _ (by rw [← hi2]; exact D2.over (D2.over st2 hs0 S.zf2) hp1 S.sep1_2) fun q e hq he => ?_)
    exact hE q tk1 e (fun c o c1 c2 c3 x => hq _ _ c3 (hp1.extBut _ _ c2 (hs0.extBut _ _ c1 x))) he
  · have hi1 : i = n1 := by omega
    refine wpAny_bind (D1.done ⟨g0, g, d, tk0, os⟩ _ _ (by rw [← hi1]; exact D1.over st1 hs0 S.zf1) fun q e hq he => ?_)
    exact hE q tk0 e (fun c o c1 c2 c3 x => hq _ _ c2 (hs0.extBut _ _ c1 x)) he
/-- a zip at turn i, the tuple given out before, if there is one, still there -/
structure ZAt (h : Heap) (L z TI TO i1 i2 : Addr) (St1 St2 : Nat → Heap → Prop) (i : Nat) : Prop where
  ti : IsTupOf2 h TI (.ref i1) (.ref i2)
  s1 : St1 i h
  s2 : St2 i h
  zz : (∃ a b, IsZip h z TI TO .none ∧ IsTupOf2 h TO a b) ∨ ∃ T f oT, IsZipHeld h z TI TO T f ∧ h.get? T = some oT ∧ T ≠ z ∧ T ≠ i1 ∧ T ≠ i2 ∧ L < T
theorem next_item {L : Addr} {Q : Option Value → Shared → Prop} (S : ZipSep2 z TI TO i1 i2 fp1 fp2) (D1 : Draws prog w A.in1 i1 fp1 n1 P1 St1) (D2 : Draws prog w A.in1 i2 fp2 n2 P2 St2) (za : ZAt s.heap L z TI TO i1 i2 St1 St2 i) (hlt1 : i < n1) (hlt2 : i < n2) (hL : L < s.heap.objs.size)
    (hQ : ∀ x1 x2 h' tk, P1 i x1 → P2 i x2 → ZAt h' L z TI TO i1 i2 St1 St2 (i + 1) → IsTupOf2 h' s.heap.objs.size x1 x2 → h'.objs.size = s.heap.objs.size + 1 → (∀ c o, c ∉ [z, TO, i1, i2] → s.heap.get? c = some o → h'.get? c = some o) → Q (some (.ref s.heap.objs.size)) { s with heap := h', toks := tk }) :
    wpAny (model prog w) A (pyNext (.ref z)) Q E s := by
  obtain ⟨ti, s1, s2, zz⟩ := za
  have lt : ∀ {c o}, s.heap.get? c = some o → s.heap.objs.size ≠ c := fun e => Nat.ne_of_gt (Heap.lt_size e)
  have l1 : s.heap.objs.size ≠ i1 := by obtain ⟨_, e⟩ := D1.live _ _ s1; exact lt e
  have l2 : s.heap.objs.size ≠ i2 := by obtain ⟨_, e⟩ := D2.live _ _ s2; exact lt e
  rcases zz with ⟨a, b, hz, hTO⟩ | ⟨T, f, oT, hz, hT, n1, n2, n3, n4⟩
  · refine wpAny_pyNext_zipD2_item S D1 D2 hz ti hTO s1 s2 hlt1 hlt2 fun x1 x2 h' tk y1 y2 b1 b2 d1 d2 b5 b6 hk => ?_
    exact hQ x1 x2 h' tk y1 y2 ⟨hk _ _ S.TIz S.TITO S.TIi1 S.TIi2 ti, d1, d2, .inr ⟨_, false, _, b1, b5, lt hz, l1, l2, hL⟩⟩ b5 b6 fun c o hc e => hk c o (fun x => hc (by simp [x])) (fun x => hc (by simp [x])) (fun x => hc (by simp [x])) (fun x => hc (by simp [x])) e
  · have hTy : s.TypeIs (.ref z) "zip" := ⟨_, hz, rfl⟩
    unfold pyNext
    refine wpAny_bind (wpAny_attempt (wpAny_callSpecial?_slot (name := Str.ofString "__next__") hTy PySem.F.slot_zip_next
      (wpAny_call_entry PySem.F.slot_zip_next hTy PySem.F.entry_zip_next
        (held_item S D1 D2 hz hT ti s1 s2 hlt1 hlt2 fun x1 x2 h' tk y1 y2 b1 d1 d2 b5 b6 hk => wpAny_pure ?_) (PySem.F.args_zip_next_1 _))))
    exact hQ x1 x2 h' tk y1 y2 ⟨hk _ _ S.TIz S.TIi1 S.TIi2 ti, d1, d2, .inr ⟨T, true, oT, b1, hk _ _ n1 n2 n3 hT, n1, n2, n3, n4⟩⟩ b5 b6 fun c o hc e => hk c o (fun x => hc (by simp [x])) (fun x => hc (by simp [x])) (fun x => hc (by simp [x])) e
theorem next_done {L : Addr} {Q : Option Value → Shared → Prop} (S : ZipSep2 z TI TO i1 i2 fp1 fp2) (D1 : Draws prog w A.in1 i1 fp1 n1 P1 St1) (D2 : Draws prog w A.in1 i2 fp2 n2 P2 St2) (za : ZAt s.heap L z TI TO i1 i2 St1 St2 i) (hle1 : i ≤ n1) (hle2 : i ≤ n2) (hend : i = n1 ∨ i = n2)
    (hQ : ∀ h' tk, (∀ c o, c ∉ [z, TO, i1, i2] → s.heap.get? c = some o → h'.get? c = some o) → Q none { s with heap := h', toks := tk }) :
    wpAny (model prog w) A (pyNext (.ref z)) Q E s := by
  obtain ⟨ti, s1, s2, zz⟩ := za
  rcases zz with ⟨a, b, hz, hTO⟩ | ⟨T, f, oT, hz, hT, m1, m2, m3, m4⟩
  · exact wpAny_pyNext_zipD2_end S D1 D2 hz ti hTO s1 s2 hle1 hle2 hend fun h' tk hk => hQ h' tk fun c o hc e => hk c o (fun x => hc (by simp [x])) (fun x => hc (by simp [x])) (fun x => hc (by simp [x])) (fun x => hc (by simp [x])) e
  · have hTy : s.TypeIs (.ref z) "zip" := ⟨_, hz, rfl⟩
    unfold pyNext
    refine wpAny_bind (wpAny_attempt (wpAny_callSpecial?_slot (name := Str.ofString "__next__") hTy PySem.F.slot_zip_next
      (wpAny_call_entry PySem.F.slot_zip_next hTy PySem.F.entry_zip_next (held_end S D1 D2 hz hT ti s1 s2 hle1 hle2 hend fun h' tk e hk he => ?_) (PySem.F.args_zip_next_1 _))))
    obtain ⟨o, ho, hc⟩ := he
    refine wpAny_bind (wpAny_isInstance (T := "StopIteration") (b := true) ⟨o, ho, hc⟩ isSubtype_stop ?_)
    exact wpAny_pure (hQ _ _ fun c o hc e => hk c o (fun x => hc (by simp [x])) (fun x => hc (by simp [x])) (fun x => hc (by simp [x])) e)
end
end TmZ

/-! list(zip(a tuple, a list)): the list's loop, the call, the rule. -/
namespace TmZ
open PySem PySem.Spec PyProof.Rows L2
theorem zip_no_len : typeLookup (.type "zip") "__len__" = pure none := by rw [typeLookup_type, builtinLookup_eq_fast]; kernel_rfl
theorem zip_no_hint : typeLookup (.type "zip") "__length_hint__" = pure none := by rw [typeLookup_type, builtinLookup_eq_fast]; kernel_rfl
/-- pairs made so far -/
structure PG (P1 P2 : Nat → Value → Prop) (lo : Addr) (h : Heap) (as : List Addr) : Prop where
  rise : as.Pairwise (· < ·)
  above : ∀ a ∈ as, lo < a
  at_ : ∀ (j : Nat) (a : Addr), as[j]? = some a → ∃ x1 x2, P1 j x1 ∧ P2 j x2 ∧ IsTupOf2 h a x1 x2
theorem PG.keep {P1 P2 : Nat → Value → Prop} {lo : Addr} {h h' : Heap} {as : List Addr} (g : PG P1 P2 lo h as) (k : ∀ b o, lo < b → h.get? b = some o → h'.get? b = some o) : PG P1 P2 lo h' as :=
  ⟨g.rise, g.above, fun j a hj => by
    obtain ⟨x1, x2, p1, p2, e⟩ := g.at_ j a hj
    exact ⟨x1, x2, p1, p2, k _ _ (g.above a (List.mem_of_getElem? hj)) e⟩⟩
theorem PG.there {P1 P2 : Nat → Value → Prop} {lo : Addr} {h : Heap} {as : List Addr} (g : PG P1 P2 lo h as) {a : Addr} (ha : a ∈ as) : a < h.objs.size := by
  obtain ⟨j, hj⟩ := List.mem_iff_getElem?.mp ha
  obtain ⟨_, _, _, _, e⟩ := g.at_ j a hj
  exact Heap.lt_size e
section
variable {prog : Program} {w : World} {A : Around} {z TI TO i1 i2 : Addr} {fp1 fp2 : List Addr} {n1 n2 : Nat} {P1 P2 : Nat → Value → Prop} {St1 St2 : Nat → Heap → Prop}
theorem loop {s : Shared} {L : Addr} {R : Result → Shared → Prop} (S : ZipSep2 z TI TO i1 i2 fp1 fp2) (D1 : Draws prog w A.in1.in1 i1 fp1 n1 P1 St1) (D2 : Draws prog w A.in1.in1 i2 fp2 n2 P2 St2) (hn : min n1 n2 ≤ sizeLine) (res : Value)
    (zl : z < L) (tl : TO < L) (til : TI < L) (l1 : i1 < L) (l2 : i2 < L) (f1 : L ∉ fp1) (f2 : L ∉ fp2) {h₁ : Heap}
    (hR : ∀ h' tk acc c as, (∀ b o, b ≠ L → b ∉ [z, TO, i1, i2] → h₁.get? b = some o → h'.get? b = some o) → h'.get? L = some { cls := .type "list", dict := none, data := .seq acc c, slots := #[] } → as.length = min n1 n2 → PG P1 P2 L h' as →
      acc.toList = as.map Value.ref → R (.ok (.ret res)) { s with heap := h', toks := tk }) :
    ∀ (k i : Nat) (h : Heap) (tk c : Nat) (acc : Array Value) (as : List Addr), min n1 n2 - i = k → i ≤ min n1 n2 → ZAt h L z TI TO i1 i2 St1 St2 i → (∀ b o, b ≠ L → b ∉ [z, TO, i1, i2] → h₁.get? b = some o → h.get? b = some o) →
      h.get? L = some { cls := .type "list", dict := none, data := .seq acc c, slots := #[] } → acc.toList = as.map Value.ref → as.length = i → PG P1 P2 L h as →
      codeAny (model prog w) A (.builtin "list.extend.loop" ⟨[.ref L, .ref z, res], []⟩) R { s with heap := h, toks := tk } := by
  have cl : ∀ c, c ∈ [z, TO, i1, i2] → c < L := fun c hc => by
    have hc' : c = z ∨ c = TO ∨ c = i1 ∨ c = i2 := by simpa using hc
    rcases hc' with e | e | e | e <;> rw [e] <;> assumption
  have nc : ∀ b, L ≤ b → b ∉ [z, TO, i1, i2] := fun b hb hc => absurd (cl b hc) (Nat.not_lt.mpr hb)
  intro k
  induction k with
  | zero =>
    intro i h tk c acc as hk hi za hkeep hS hacc hal hG
    refine codeAny_builtin PySem.F.entry_extend_loop ?_
    rw [Around.under_plainId PySem.F.plain_extend_loop _]
    show wpAny _ A.in1 (pyNext (.ref z) >>= _) _ _ _
    refine wpAny_bind (next_done (s := { s with heap := h, toks := tk }) (A := A.in1) S D1 D2 za (by omega) (by omega) (by omega) fun h' tk' he => ?_)
    exact wpAny_pure (hR h' tk' acc c as (fun b o e1 e2 e => he b o e2 (hkeep b o e1 e2 e)) (he L _ (nc L (Nat.le_refl _)) hS) (by omega) (hG.keep fun b o hb e => he b o (nc b (Nat.le_of_lt hb)) e) hacc)
  | succ k ih =>
    intro i h tk c acc as hk hi za hkeep hS hacc hal hG
    have hsz : acc.size = i := by rw [← Array.length_toList, hacc, List.length_map, hal]
    refine codeAny_builtin PySem.F.entry_extend_loop ?_
    rw [Around.under_plainId PySem.F.plain_extend_loop _]
    show wpAny _ A.in1 (pyNext (.ref z) >>= _) _ _ _
    refine wpAny_bind (next_item (s := { s with heap := h, toks := tk }) (A := A.in1) S D1 D2 za (by omega) (by omega) (Heap.lt_size hS) fun x1 x2 h' tk' y1 y2 za' ht hz hkp => ?_)
    dsimp only at ht hz hkp ⊢
    have hS' := hkp L _ (nc L (Nat.le_refl _)) hS
    have up : ∀ b o, b ≠ L → h'.get? b = some o → (h'.update L (Obj.mapSeq (·.push (Value.ref h.objs.size)))).get? b = some o := fun b o hb e => (Heap.get?_update_other _ _ (Ne.symm hb)).trans e
    have hSl : L < h.objs.size := Heap.lt_size hS
    have za2 : ZAt (h'.update L (Obj.mapSeq (·.push (Value.ref h.objs.size)))) L z TI TO i1 i2 St1 St2 (i + 1) := by
      obtain ⟨ti, s1, s2, zz⟩ := za'
      refine ⟨up _ _ (Nat.ne_of_lt til) ti, D1.frame _ _ _ s1 fun b hb o e => up b o (fun q => f1 (q ▸ hb)) e, D2.frame _ _ _ s2 fun b hb o e => up b o (fun q => f2 (q ▸ hb)) e, ?_⟩
      rcases zz with ⟨a, b, g1, g2⟩ | ⟨T, f, oT, g1, g2, g3, g4, g5, g6⟩
      · exact .inl ⟨a, b, up _ _ (Nat.ne_of_lt zl) g1, up _ _ (Nat.ne_of_lt tl) g2⟩
      · exact .inr ⟨T, f, oT, up _ _ (Nat.ne_of_lt zl) g1, up _ _ (Nat.ne_of_gt g6) g2, g3, g4, g5, g6⟩
    show wpAny _ A.in1 (updateSeq L (·.push (Value.ref h.objs.size)) >>= _) _ _ _
    refine wpAny_bind ?_
    refine wpAny_updateSeq hS' rfl (wpAny_pure ⟨plainId_quiet PySem.F.plain_extend_loop _, ih (i + 1) _ tk' _ (acc.push (Value.ref h.objs.size)) (as ++ [h.objs.size]) (by omega) (by omega) za2
      (fun b o e1 e2 e => up b o e1 (hkp b o e2 (hkeep b o e1 e2 e))) (Heap.get?_update_self _ hS' rfl) (by rw [Array.toList_push, hacc, List.map_append]; rfl) (by rw [List.length_append, hal]; rfl) ⟨?_, ?_, ?_⟩⟩) (by rw [hsz]; omega) (by show (acc.push (Value.ref h.objs.size)).size ≤ sizeLine + 1; rw [Array.size_push, hsz]; omega)
    · refine List.pairwise_append.mpr ⟨hG.rise, List.pairwise_singleton _ _, fun a ha b hb => ?_⟩
      rw [List.mem_singleton.mp hb]
      exact hG.there ha
    · intro a ha
      rcases List.mem_append.mp ha with ha | ha
      · exact hG.above a ha
      · rw [List.mem_singleton.mp ha]; exact hSl
    · intro j a hj
      by_cases hji : j < as.length
      · rw [List.getElem?_append_left hji] at hj
        obtain ⟨y1, y2, q1, q2, e⟩ := hG.at_ j a hj
        have ab := hG.above a (List.mem_of_getElem? hj)
        exact ⟨y1, y2, q1, q2, up _ _ (Nat.ne_of_gt ab) (hkp _ _ (nc a (Nat.le_of_lt ab)) e)⟩
      · have hje : j = as.length := by
          have := (List.getElem?_eq_some_iff.mp hj).1
          rw [List.length_append, List.length_singleton] at this
          omega
        rw [hje, List.getElem?_append_right (Nat.le_refl _), Nat.sub_self] at hj
        have ea : h.objs.size = a := Option.some.inj hj
        rw [hje, hal, ← ea]
        exact ⟨x1, x2, y1, y2, up _ _ (Nat.ne_of_gt hSl) ht⟩
theorem extend {s : Shared} {L : Addr} {R : Result → Shared → Prop} (S : ZipSep2 z TI TO i1 i2 fp1 fp2) (D1 : Draws prog w A.in1.in1 i1 fp1 n1 P1 St1) (D2 : Draws prog w A.in1.in1 i2 fp2 n2 P2 St2) (hn : min n1 n2 ≤ sizeLine) (res : Value)
    (zl : z < L) (tl : TO < L) (til : TI < L) (l1 : i1 < L) (l2 : i2 < L) (f1 : L ∉ fp1) (f2 : L ∉ fp2) (c₀ : Nat) {a b : Value}
    (hz : IsZip s.heap z TI TO .none) (hTI : IsTupOf2 s.heap TI (.ref i1) (.ref i2)) (hTO : IsTupOf2 s.heap TO a b) (st1 : St1 0 s.heap) (st2 : St2 0 s.heap) (hS : s.heap.get? L = some { cls := .type "list", data := .seq #[] c₀ })
    (hR : ∀ h' tk acc c as, (∀ b o, b ≠ L → b ∉ [z, TO, i1, i2] → s.heap.get? b = some o → h'.get? b = some o) → h'.get? L = some { cls := .type "list", dict := none, data := .seq acc c, slots := #[] } → as.length = min n1 n2 → PG P1 P2 L h' as →
      acc.toList = as.map Value.ref → R (.ok (.ret res)) { s with heap := h', toks := tk }) :
    wpAny (model prog w) A.in1 (Builtin.List.listExtendWith (.ref L) (.ref z) res)
      (fun fin s' => match fin with | .done f => R (.ok f) s' | .again c' => c'.quiet = true ∧ codeAny (model prog w) A c' R s') (fun e s' => R (.error e) s') s := by
  have hT : s.TypeIs (.ref z) "zip" := ⟨_, hz, rfl⟩
  unfold Builtin.List.listExtendWith
  refine wpAny_bind (wpAny_typeOf hT ?_)
  have h1 : Builtin.List.listSameRef (.ref L) (.ref z) = false := by simp [Builtin.List.listSameRef, Nat.ne_of_gt zl]
  have h2 : (Value.type "zip" == Value.type "list") = false := by decide
  have h3 : (Value.type "zip" == Value.type "tuple") = false := by decide
  simp only [h1, h2, h3, Bool.or_false, Bool.false_eq_true, if_false]
  refine wpAny_bind (wpAny_pyIter_zip hz ?_)
  refine wpAny_bind (wpAny_holding ?_)
  unfold Builtin.List.listLengthHint
  refine wpAny_bind (wpAny_specialOf hT zip_no_len ?_)
  show wpAny _ A.in1 (specialOf (Value.ref z) (Str.ofString "__length_hint__") >>= _) _ _ _
  refine wpAny_bind (wpAny_specialOf hT zip_no_hint ?_)
  refine wpAny_pure ?_
  show wpAny _ A.in1 (rule "list.extend.makes-room" >>= fun _ => Builtin.List.listTouch (.ref L) >>= fun _ =>
    again (.builtin "list.extend.loop" ⟨[.ref L, .ref z, res], []⟩)) _ _ _
  refine wpAny_bind (wpAny_rule ?_)
  refine wpAny_bind ?_
  show wpAny _ A.in1 (updateSeq L (·.push .none) >>= fun _ => updateSeq L (·.pop)) _ _ _
  refine wpAny_bind (wpAny_updateSeq hS rfl ?_)
  have hS₂ := Heap.get?_update_self (Obj.mapSeq (·.push Value.none)) hS rfl
  refine wpAny_updateSeq (hz := by seq_fits) hS₂ rfl ?_
  have hS₃ := Heap.get?_update_self (Obj.mapSeq (·.pop)) hS₂ rfl
  have oth : ∀ b o, b ≠ L → s.heap.get? b = some o → ((s.heap.update L (Obj.mapSeq (·.push Value.none))).update L (Obj.mapSeq (·.pop))).get? b = some o :=
    fun b o hb e => (Heap.get?_update_other _ _ (Ne.symm hb)).trans ((Heap.get?_update_other _ _ (Ne.symm hb)).trans e)
  refine wpAny_pure ⟨plainId_quiet PySem.F.plain_extend_loop _, ?_⟩
  refine loop (s := s) S D1 D2 hn res zl tl til l1 l2 f1 f2 (h₁ := s.heap) hR (min n1 n2) 0 _ s.toks _ #[] [] (Nat.sub_zero _) (Nat.zero_le _) ⟨oth _ _ (Nat.ne_of_lt til) hTI, D1.frame _ _ _ st1 fun b hb o e => oth b o (fun q => f1 (q ▸ hb)) e, D2.frame _ _ _ st2 fun b hb o e => oth b o (fun q => f2 (q ▸ hb)) e, .inl ⟨a, b, oth _ _ (Nat.ne_of_lt zl) hz, oth _ _ (Nat.ne_of_lt tl) hTO⟩⟩
    (fun b o e1 _ e => oth b o e1 e) hS₃ rfl rfl ⟨List.Pairwise.nil, (fun _ ha => nomatch ha), (fun j a hj => by simp at hj)⟩
theorem init {s : Shared} {L : Addr} {R : Result → Shared → Prop} (S : ZipSep2 z TI TO i1 i2 fp1 fp2) (D1 : Draws prog w A.in1.in1 i1 fp1 n1 P1 St1) (D2 : Draws prog w A.in1.in1 i2 fp2 n2 P2 St2) (hn : min n1 n2 ≤ sizeLine)
    (zl : z < L) (tl : TO < L) (til : TI < L) (l1 : i1 < L) (l2 : i2 < L) (f1 : L ∉ fp1) (f2 : L ∉ fp2) {a b : Value}
    (hz : IsZip s.heap z TI TO .none) (hTI : IsTupOf2 s.heap TI (.ref i1) (.ref i2)) (hTO : IsTupOf2 s.heap TO a b) (st1 : St1 0 s.heap) (st2 : St2 0 s.heap) (hS : s.heap.get? L = some { cls := .type "list", data := .seq #[] })
    (hR : ∀ h' tk acc c as, (∀ b o, b ≠ L → b ∉ [z, TO, i1, i2] → s.heap.get? b = some o → h'.get? b = some o) → h'.get? L = some { cls := .type "list", dict := none, data := .seq acc c, slots := #[] } → as.length = min n1 n2 → PG P1 P2 L h' as →
      acc.toList = as.map Value.ref → R (.ok (.ret .none)) { s with heap := h', toks := tk }) :
    wpAny (model prog w) A.in1 (Builtin.«list.__init__» ⟨[.ref L, .ref z], []⟩)
      (fun fin s' => match fin with | .done f => R (.ok f) s' | .again c' => c'.quiet = true ∧ codeAny (model prog w) A c' R s') (fun e s' => R (.error e) s') s := by
  show wpAny _ _ (do let old ← Builtin.List.listItems (.ref L); Builtin.List.listUpdate (.ref L) (fun _ => #[]); letGo old.toList.reverse; Builtin.List.listExtendWith (.ref L) (.ref z) .none) _ _ s
  refine wpAny_bind ?_
  unfold Builtin.List.listItems
  refine wpAny_bind (wpAny_seqItems hS rfl (wpAny_pure ?_))
  show wpAny _ _ (updateSeq L (fun _ => #[]) >>= fun _ => letGo (#[] : Array Value).toList.reverse >>= fun _ => Builtin.List.listExtendWith (.ref L) (.ref z) .none) _ _ s
  refine wpAny_bind (wpAny_updateSeq hS rfl ?_)
  have hS₂ := Heap.get?_update_self (Obj.mapSeq (fun _ => (#[] : Array Value))) hS rfl
  have oth : ∀ b o, b ≠ L → s.heap.get? b = some o → (s.heap.update L (Obj.mapSeq (fun _ => (#[] : Array Value)))).get? b = some o :=
    fun b o hb e => (Heap.get?_update_other _ _ (Ne.symm hb)).trans e
  refine wpAny_bind (wpAny_letGo ?_)
  refine extend S D1 D2 hn .none zl tl til l1 l2 f1 f2 _ (oth _ _ (Nat.ne_of_lt zl) hz) (oth _ _ (Nat.ne_of_lt til) hTI) (oth _ _ (Nat.ne_of_lt tl) hTO) (D1.frame _ _ _ st1 fun b hb o e => oth b o (fun q => f1 (q ▸ hb)) e) (D2.frame _ _ _ st2 fun b hb o e => oth b o (fun q => f2 (q ▸ hb)) e) hS₂ fun h' tk acc c as hk hS' hl hG hacc => ?_
  exact hR h' tk acc c as (fun b o e1 e2 e => hk b o e1 e2 (oth b o e1 e)) hS' hl hG hacc
end
section
variable {prog : Program} {w : World} {A : Around} {E : Value → Shared → Prop} {s : Shared}
/-- list(a new zip over a tuple and a list) -/
theorem call_list {Q : Value → Shared → Prop} {z TI TO i1 i2 la lb : Addr} {xs ys : Array Value} {a b : Value} (hh : A.handled = none) (za : z < s.heap.objs.size) (dTIz : TI ≠ z) (dTOz : TO ≠ z) (dTITO : TI ≠ TO) (dTI1 : TI ≠ i1) (dTI2 : TI ≠ i2) (d12 : i1 ≠ i2) (dz1 : z ≠ i1) (dz2 : z ≠ i2) (dT1 : TO ≠ i1) (dT2 : TO ≠ i2)
    (ha : la ∉ [z, TI, TO, i1, i2]) (hb : lb ∉ [z, TI, TO, i1, i2]) (hn : min xs.size ys.size ≤ sizeLine)
    (hz : IsZip s.heap z TI TO .none) (hTI : IsTupOf2 s.heap TI (.ref i1) (.ref i2)) (hTO : IsTupOf2 s.heap TO a b) (h1 : s.heap.IsTupleIter i1 la 0) (h2 : s.heap.IsListIter i2 lb 0) (hx : s.heap.IsTuple la xs) (hy : s.heap.IsList lb ys)
    (hQ : ∀ h' tk acc c as, (∀ b o, b ∉ [z, TO, i1, i2] → s.heap.get? b = some o → h'.get? b = some o) → h'.get? s.heap.objs.size = some { cls := .type "list", dict := none, data := .seq acc c, slots := #[] } → as.length = min xs.size ys.size → PG (fun i v => xs[i]? = some v) (fun i v => ys[i]? = some v) s.heap.objs.size h' as →
      acc.toList = as.map Value.ref → Q (.ref s.heap.objs.size) { s with heap := h', toks := tk }) :
    wpAny (model prog w) A (call (.type "list") [.ref z]) Q E s := by
  refine callType_codes (Q₁ := fun obj s₁ => obj = .ref s.heap.objs.size ∧ s₁ = { s with heap := s.heap.push { cls := .type "list", data := .seq #[] } }) PySem.F.called_list (PySem.F.typeCall_list_1 _) PySem.F.entry_list_init
    (code_list_new _ ⟨rfl, rfl⟩) fun obj s₁ h₁ => ?_
  obtain ⟨rfl, rfl⟩ := h₁
  have hS : (s.heap.push { cls := .type "list", data := .seq #[] }).get? s.heap.objs.size = some { cls := .type "list", data := .seq #[] } := Heap.get?_push_size _ rfl
  have up : ∀ b o, s.heap.get? b = some o → (s.heap.push { cls := .type "list", data := .seq #[] }).get? b = some o := fun b o e => Heap.get?_push_of_some _ e
  simp only [List.mem_cons, List.not_mem_nil, or_false, not_or] at ha hb
  obtain ⟨az, aTI, aTO, a1, a2⟩ := ha
  obtain ⟨bz, bTI, bTO, b1, b2⟩ := hb
  have ltT : TO < s.heap.objs.size := Heap.lt_size hTO
  have ltI : TI < s.heap.objs.size := Heap.lt_size hTI
  have lt1 : i1 < s.heap.objs.size := by obtain ⟨_, e, _⟩ := h1; exact Heap.lt_size e
  have lt2 : i2 < s.heap.objs.size := by obtain ⟨_, e, _⟩ := h2; exact Heap.lt_size e
  have lta : la < s.heap.objs.size := by obtain ⟨_, e, _⟩ := hx; exact Heap.lt_size e
  have ltb : lb < s.heap.objs.size := by obtain ⟨_, e, _⟩ := hy; exact Heap.lt_size e
  have ne : ∀ {x y : Addr}, x ≠ y → ∀ {u : Addr}, x ≠ u → x ∉ [y, u] := fun h1 _ h2 h => by
    simp only [List.mem_cons, List.not_mem_nil, or_false] at h
    exact h.elim h1 h2
  refine ⟨⟨_, hS, rfl⟩, PySem.F.args_list_init_2 _ _, init (A := A.in1) (fp1 := [i1, la]) (fp2 := [i2, lb]) ⟨dTIz, dTOz, dTITO, dTI1, by simp, ne dz1 (Ne.symm az), ne dT1 (Ne.symm aTO), dTI2, by simp, ne dz2 (Ne.symm bz), ne dT2 (Ne.symm bTO), ne d12 (Ne.symm b1), ne (Ne.symm d12) (Ne.symm a2)⟩
    (draws_tup (A := A.in1.in1.in1) hh i1 la a1 xs) (Draws.list (A := A.in1.in1.in1) hh i2 lb b2 ys) hn za ltT ltI lt1 lt2 (ne (Nat.ne_of_gt lt1) (Nat.ne_of_gt lta)) (ne (Nat.ne_of_gt lt2) (Nat.ne_of_gt ltb)) (up _ _ hz) (up _ _ hTI) (up _ _ hTO) ⟨h1.at fun o e => up _ o e, hx.push _⟩ ⟨h2.at fun o e => up _ o e, hy.push _⟩ hS fun h' tk acc c as hk hS' hl hG hacc => ?_⟩
  exact ⟨rfl, hQ h' tk acc c as (fun b o e1 e => hk b o (Nat.ne_of_lt (Heap.lt_size e)) e1 (up b o e)) hS' hl hG hacc⟩
end
end TmZ

/-! list(zip(a tuple, a list)): the rule. -/
namespace TmZ
open PySem PySem.Spec PyProof.Rows L2
def mid1 (h : Heap) (l1 : Addr) : Heap := h.push { cls := .type "tuple_iterator", data := .fields #[.ref l1, .int 0 0] }
def mid2 (h : Heap) (l1 l2 : Addr) : Heap := (mid1 h l1).push { cls := .type "list_iterator", data := .fields #[.ref l2, .int 0 0] }
def mid3 (h : Heap) (l1 l2 : Addr) : Heap := (mid2 h l1 l2).push { cls := .type "tuple", data := .seq #[.ref h.objs.size, .ref (mid1 h l1).objs.size] }
def mid4 (h : Heap) (l1 l2 : Addr) : Heap := (mid3 h l1 l2).push { cls := .type "tuple", data := .seq #[.none, .none] }
def mid5 (h : Heap) (l1 l2 : Addr) : Heap := (mid4 h l1 l2).push { cls := .type "zip", data := .fields #[.none, .bool false, .bool false, .ref (mid2 h l1 l2).objs.size, .ref (mid3 h l1 l2).objs.size] }
theorem meets_new (l1 l2 : Addr) (xs ys : Array Value) :
    Meets (Builtin.«zip.__new__» ⟨[.type "zip", .ref l1, .ref l2], []⟩) (fun _ R s => s.heap.IsTuple l1 xs ∧ s.heap.IsList l2 ys ∧
      R (.ok (.ret (.ref (mid4 s.heap l1 l2).objs.size))) { s with heap := mid5 s.heap l1 l2 }) :=
  .of_wp fun prog w A R s h => by
    obtain ⟨hp, g, d, tk, os⟩ := s; obtain ⟨hl1, hl2, h⟩ := h
    have hsub := sub_zip
    have hL1 : Heap.IsTuple (Shared.heap ⟨hp, g, d, tk, os⟩) l1 xs := hl1
    have hL2 : Heap.IsList (Shared.heap ⟨hp.push { cls := .type "tuple_iterator", data := .fields #[.ref l1, .int 0 0] }, g, d, tk, os⟩) l2 ys := Heap.IsList.push hl2 _
    wp_walk using wpAny_pyIter_tuple hL1, wpAny_pyIter_list hL2
    exact ⟨_, rfl, h⟩
section
variable {prog : Program} {w : World} {A : Around} {E : Value → Shared → Prop} {s : Shared}
theorem call_zip {l1 l2 : Addr} {xs ys : Array Value} {Q : Value → Shared → Prop} (hl1 : s.heap.IsTuple l1 xs) (hl2 : s.heap.IsList l2 ys)
    (h : ∀ h', IsZip h' (s.heap.objs.size + 4) (s.heap.objs.size + 2) (s.heap.objs.size + 3) .none → IsTupOf2 h' (s.heap.objs.size + 2) (.ref s.heap.objs.size) (.ref (s.heap.objs.size + 1)) →
      IsTupOf2 h' (s.heap.objs.size + 3) .none .none → h'.IsTupleIter s.heap.objs.size l1 0 → h'.IsListIter (s.heap.objs.size + 1) l2 0 → h'.objs.size = s.heap.objs.size + 5 →
      (∀ c o, s.heap.get? c = some o → h'.get? c = some o) → Q (.ref (s.heap.objs.size + 4)) { s with heap := h' }) :
    wpAny (model prog w) A (call (.type "zip") [.ref l1, .ref l2]) Q E s := by
  refine callType_new PySem.F.called_zip (by decide) (PySem.F.typeCall_zip_2 _ _) (PySem.F.newCall_zip_2 _ _) (fun obj => PySem.F.args_object_init_3 obj _ _) PySem.F.entry_zip_new
    (meets_new l1 l2 xs ys) ⟨hl1, hl2, ?_⟩
  have z1 : (mid1 s.heap l1).objs.size = s.heap.objs.size + 1 := Heap.size_push ..
  have z2 : (mid2 s.heap l1 l2).objs.size = s.heap.objs.size + 2 := by unfold mid2; rw [Heap.size_push, z1]
  have z3 : (mid3 s.heap l1 l2).objs.size = s.heap.objs.size + 3 := by unfold mid3; rw [Heap.size_push, z2]
  have z4 : (mid4 s.heap l1 l2).objs.size = s.heap.objs.size + 4 := by unfold mid4; rw [Heap.size_push, z3]
  have z5 : (mid5 s.heap l1 l2).objs.size = s.heap.objs.size + 5 := by unfold mid5; rw [Heap.size_push, z4]
  have u1 : ∀ c o, s.heap.get? c = some o → (mid1 s.heap l1).get? c = some o := fun c o x => Heap.get?_push_of_some _ x
  have u2 : ∀ c o, (mid1 s.heap l1).get? c = some o → (mid2 s.heap l1 l2).get? c = some o := fun c o x => Heap.get?_push_of_some _ x
  have u3 : ∀ c o, (mid2 s.heap l1 l2).get? c = some o → (mid3 s.heap l1 l2).get? c = some o := fun c o x => Heap.get?_push_of_some _ x
  have u4 : ∀ c o, (mid3 s.heap l1 l2).get? c = some o → (mid4 s.heap l1 l2).get? c = some o := fun c o x => Heap.get?_push_of_some _ x
  have u5 : ∀ c o, (mid4 s.heap l1 l2).get? c = some o → (mid5 s.heap l1 l2).get? c = some o := fun c o x => Heap.get?_push_of_some _ x
  have g5 : (mid5 s.heap l1 l2).get? (mid4 s.heap l1 l2).objs.size = some { cls := .type "zip", data := .fields #[.none, .bool false, .bool false, .ref (mid2 s.heap l1 l2).objs.size, .ref (mid3 s.heap l1 l2).objs.size] } := Heap.get?_push_size _ rfl
  have g4 : (mid4 s.heap l1 l2).get? (mid3 s.heap l1 l2).objs.size = some { cls := .type "tuple", data := .seq #[.none, .none] } := Heap.get?_push_size _ rfl
  have g3 : (mid3 s.heap l1 l2).get? (mid2 s.heap l1 l2).objs.size = some { cls := .type "tuple", data := .seq #[.ref s.heap.objs.size, .ref (mid1 s.heap l1).objs.size] } := Heap.get?_push_size _ rfl
  have g2 : (mid2 s.heap l1 l2).get? (mid1 s.heap l1).objs.size = some { cls := .type "list_iterator", data := .fields #[.ref l2, .int 0 0] } := Heap.get?_push_size _ rfl
  have g1 : (mid1 s.heap l1).get? s.heap.objs.size = some { cls := .type "tuple_iterator", data := .fields #[.ref l1, .int 0 0] } := Heap.get?_push_size _ rfl
  show _ ∧ _
  rw [z2, z3, z4] at g5
  rw [z1, z2] at g3
  rw [z3] at g4
  rw [z1] at g2
  rw [z4]
  exact ⟨⟨_, g5, rfl⟩, h _ g5 (u5 _ _ (u4 _ _ g3)) (u5 _ _ g4) ⟨_, u5 _ _ (u4 _ _ (u3 _ _ (u2 _ _ g1))), rfl, rfl⟩ ⟨_, u5 _ _ (u4 _ _ (u3 _ _ g2)), rfl, rfl⟩ z5 fun c o x => u5 _ _ (u4 _ _ (u3 _ _ (u2 _ _ (u1 _ _ x))))⟩
end
/-- the tuples at their addresses -/
def putP : Hp → List Addr → List (V × V) → Hp
  | H, a :: as, p :: ps => putP (upd H a (.tup [p.1, p.2])) as ps
  | H, _, _ => H
theorem putP_off {b : Addr} : ∀ (as : List Addr) (ps : List (V × V)) (H : Hp), b ∉ as → putP H as ps b = H b
  | [], _, _, _ => rfl
  | _ :: _, [], _, _ => rfl
  | a :: as, p :: ps, H, h => by
    show putP (upd H a (.tup [p.1, p.2])) as ps b = H b
    rw [putP_off as ps _ (fun z => h (List.mem_cons_of_mem _ z)), upd_ne (fun z => h (by rw [z]; exact List.mem_cons_self))]
theorem putP_at : ∀ (as : List Addr) (ps : List (V × V)) (H : Hp), as.length = ps.length → as.Nodup → Paired (fun (t : Addr) (p : V × V) => putP H as ps t = some (.tup [p.1, p.2])) as ps
  | [], [], _, _, _ => .nil
  | [], _ :: _, _, h, _ => by cases h
  | _ :: _, [], _, h, _ => by cases h
  | a :: as, p :: ps, H, h, hn => by
    have hn' := List.nodup_cons.mp hn
    refine .cons ?_ (putP_at as ps (upd H a (.tup [p.1, p.2])) (Nat.succ.inj h) hn'.2)
    show putP (upd H a (.tup [p.1, p.2])) as ps a = some (.tup [p.1, p.2])
    rw [putP_off as ps _ hn'.1, upd_same]
section
variable {X : Cx}
theorem pairs_laid {pins : List (Addr × Obj)} {σ : L2.St} {H : Hp} {s : Shared} {h' : Heap} {L : Addr} {tk c : Nat} {ps : List (V × V)} {acc : Array Value} {as : List Addr} {P1 P2 : Nat → Value → Prop} (I : Inv X pins σ H s) (hL : s.heap.objs.size ≤ L) (hz : ps.length ≤ sizeLine)
    (hk : ∀ b o, s.heap.get? b = some o → h'.get? b = some o) (hS : h'.get? L = some { cls := .type "list", dict := none, data := .seq acc c, slots := #[] }) (hl : as.length = ps.length) (hG : PG P1 P2 L h' as) (hacc : acc.toList = as.map Value.ref)
    (hr : ∀ j p x1 x2, ps[j]? = some p → P1 j x1 → P2 j x2 → RelV p.1 x1 ∧ RelV p.2 x2) :
    ∃ H' : Hp, (∀ b o, H b = some o → H' b = some o) ∧ H L = none ∧ (∀ t ∈ as, H t = none) ∧ H' L = some (.lst (as.map V.ref)) ∧ Paired (fun (t : Addr) (q : V × V) => H' t = some (.tup [q.1, q.2])) as ps ∧ Inv X pins σ H' { s with heap := h', toks := tk } := by
  have hSn : L ∉ as := fun z => Nat.lt_irrefl _ (hG.above _ z)
  have nd : as.Nodup := List.Pairwise.imp (fun {a b} (h : a < b) => Nat.ne_of_lt h) hG.rise
  have hi : ∀ t ∈ as, s.heap.objs.size ≤ t := fun t ht => Nat.le_trans hL (Nat.le_of_lt (hG.above t ht))
  have new : ∀ t ∈ as, H t = none := fun t ht => I.hok.fresh (hi t ht)
  have newS : H L = none := I.hok.fresh hL
  have atP := putP_at as ps (upd H L (.lst (as.map V.ref))) hl nd
  have off : ∀ b, b ∉ as → b ≠ L → putP (upd H L (.lst (as.map V.ref))) as ps b = H b := fun b h1 h2 => by rw [putP_off as ps _ h1, upd_ne h2]
  have low : ∀ b o, s.heap.get? b = some o → b ∉ as ∧ b ≠ L := fun b o e => ⟨fun z => absurd (Heap.lt_size e) (Nat.not_lt.mpr (hi b z)), Nat.ne_of_lt (Nat.lt_of_lt_of_le (Heap.lt_size e) hL)⟩
  have kp : ∀ b u, H b = some u → (putP (upd H L (.lst (as.map V.ref))) as ps) b = some u := fun b u e => by
    rw [off b (fun z => by rw [new b z] at e; cases e) (fun z => by rw [z, newS] at e; cases e)]
    exact e
  have eS : putP (upd H L (.lst (as.map V.ref))) as ps L = some (.lst (as.map V.ref)) := by rw [putP_off as ps _ hSn, upd_same]
  refine ⟨putP (upd H L (.lst (as.map V.ref))) as ps, kp, newS, new, eS, atP, ?_⟩
  refine I.call' (ch := []) rfl ⟨fun b o q _ _ _ => hk b o q, fun b o q _ _ _ => ⟨o.slots, hk b o q⟩, fun b o q n _ => ?_, fun b o q _ => ⟨o, hk b o q⟩, fun b xs q => kp b _ q, fun b o u q => kp b _ q, fun b ps q => ⟨#[], by rw [kp b _ q]; simp⟩⟩ (fun b u q => ?_) I.bare fun b z => by simp at z
  · obtain ⟨z1, z2⟩ := low b o q
    rw [off b z1 z2]
    exact n
  · by_cases hb : b ∈ as
    · obtain ⟨j, pk, e1, e2, e3⟩ := LiI.paired_ix atP hb
      rw [e3] at q
      cases q
      obtain ⟨x1, x2, f1, f2, f3⟩ := hG.at_ j b e1
      obtain ⟨r1, r2⟩ := hr j pk x1 x2 e2 f1 f2
      exact ⟨by show 2 ≤ sizeLine; decide, [x1, x2], .cons r1 (.cons r2 .nil), ⟨_, f3, rfl, _, rfl⟩⟩
    · by_cases hb2 : b = L
      · rw [hb2] at q ⊢
        rw [eS] at q
        cases q
        refine ⟨by rw [List.length_map]; omega, acc.toList, c, by rw [hacc]; exact LiI.vals_refs as, ?_⟩
        rw [Array.toArray_toList]
        exact hS
      · rw [off b hb hb2] at q
        exact (I.hok b u q).stay (fun d v _ y => hk d v y) (fun d y => kp d _ y) fun d xs y => kp d _ y
/-- list(zip(a tuple, a list)) -/
def tListZip (K : PySem.W.Frag) (ta : TA) : TE := fun σ H Q => ta σ H fun vs H1 => ∃ a b xs ys, vs = [.ref a, .ref b] ∧ SqT K H1 a xs ∧ SqL K H1 b ys ∧
  ∀ (H' : Hp) (p : Addr) (ts : List Addr), (∀ b o, H1 b = some o → H' b = some o) → H1 p = none → (∀ t ∈ ts, H1 t = none) → H' p = some (.lst (ts.map V.ref)) → Paired (fun (t : Addr) (q : V × V) => H' t = some (.tup [q.1, q.2])) ts (xs.zip ys) → Q (.ref p) H'
theorem pe_listZip {K : PySem.W.Frag} {e e2 : Expr} {ta : TA} {p p2 q2 pos : Pos} (hg : Gl X "list") (hm : X.mg "list" = none) (hg2 : Gl X "zip") (hm2 : X.mg "zip" = none) (ha : PA X [e, e2] ta) (hK : X.K = K := by rfl) (hc : X.calm = true := by rfl)
    (na : starEach [.Call (.Name "zip" p2) [e, e2] [] q2] X.env = (false, eval (.Call (.Name "zip" p2) [e, e2] [] q2) X.env) :: starEach [] X.env := by rfl)
    (hs : starEach [e, e2] X.env = (false, eval e X.env) :: starEach [e2] X.env := by rfl) (hpl : (backTo q2 (starEach [e2] X.env)).any (·.1) = false := by rfl) :
    PE X (.Call (.Name "list" p) [.Call (.Name "zip" p2) [e, e2] [] q2] [] pos) (tListZip K ta) := by
  subst hK
  refine ⟨fun pins s σ H Q I h => ?_⟩
  refine Call_ (ld_blt I hg hm boot_list (PyProof.Rows.callWith_type1 (PyProof.Rows.args_cons ?_ na) na rfl))
  refine Call_ (ld_blt I hg2 hm2 PyProof.Rows.boot_zip (PyProof.Rows.callWith_type1 (thn (ha.run q2 pins s σ H _ I h) fun us s1 ⟨vs, H1, I1, r1, q1⟩ => ?_) hs hpl))
  obtain ⟨a, b, xs, ys, ex, hx, hy, q⟩ := q1
  subst ex
  cases r1 with
  | cons r rr =>
    cases rr with
    | cons r' rr =>
      cases rr
      cases r
      cases r'
      obtain ⟨its, rv, pt, zt⟩ := I1.tuple hx
      obtain ⟨its2, rv2, pl, zl⟩ := I1.list hy
      have l1 := rv.length
      have l2 := rv2.length
      have hx' : s1.heap.IsTuple a its.toArray := pt
      have la : a < s1.heap.objs.size := by obtain ⟨_, e, _⟩ := hx'; exact Heap.lt_size e
      have hy' : s1.heap.IsList b its2.toArray := pl.isList
      have lb : b < s1.heap.objs.size := by obtain ⟨_, e, _⟩ := hy'; exact Heap.lt_size e
      refine call_zip hx' hy' fun h' hz hTI hTO hi1 hi2 hsz hk => ?_
      refine PyProof.Rows.args_nil ?_
      have ni : ∀ {x : Addr}, x < s1.heap.objs.size → x ∉ [s1.heap.objs.size + 4, s1.heap.objs.size + 2, s1.heap.objs.size + 3, s1.heap.objs.size, s1.heap.objs.size + 1] := fun {x} hx hc => by
        simp only [List.mem_cons, List.not_mem_nil, or_false] at hc
        rcases hc with z | z | z | z | z <;> exact absurd hx (by rw [z]; exact Nat.not_lt.mpr (by omega))
      have hxk : Heap.IsTuple h' a its.toArray := by obtain ⟨o, ho, r⟩ := hx'; exact ⟨o, hk _ _ ho, r⟩
      have hyk : Heap.IsList h' b its2.toArray := by obtain ⟨o, ho, r⟩ := hy'; exact ⟨o, hk _ _ ho, r⟩
      have lz : (xs.zip ys).length = min its.toArray.size its2.toArray.size := by
        rw [List.length_zip, List.size_toArray, List.size_toArray, l1, l2]
      have few : min its.toArray.size its2.toArray.size ≤ sizeLine := by
        rw [List.size_toArray, List.size_toArray]
        have : its2.length ≤ sizeLine := by
          rw [← l2]
          simpa using zl
        omega
      refine call_list (s := { s1 with heap := h' }) (z := s1.heap.objs.size + 4) (TI := s1.heap.objs.size + 2) (TO := s1.heap.objs.size + 3) (i1 := s1.heap.objs.size) (i2 := s1.heap.objs.size + 1) (I1.ok.hd hc) (by show _ < h'.objs.size; omega) (Nat.ne_of_lt (by omega)) (Nat.ne_of_lt (by omega)) (Nat.ne_of_lt (by omega)) (Nat.ne_of_gt (by omega)) (Nat.ne_of_gt (by omega)) (Nat.ne_of_lt (by omega)) (Nat.ne_of_gt (by omega)) (Nat.ne_of_gt (by omega)) (Nat.ne_of_gt (by omega)) (Nat.ne_of_gt (by omega)) (ni la) (ni lb) few hz hTI hTO hi1 hi2 hxk hyk fun h'' tk acc c as hk2 hS hl hG hacc => ?_
      have szL : s1.heap.objs.size ≤ ({ s1 with heap := h' } : Shared).heap.objs.size := by show _ ≤ h'.objs.size; omega
      obtain ⟨H', k1, k2, k3, k4, k5, J⟩ := pairs_laid (tk := tk) I1 szL (by rw [lz]; exact few) (fun b o e => hk2 b o (fun hc => by
        have lb := Heap.lt_size e
        simp only [List.mem_cons, List.not_mem_nil, or_false] at hc
        rcases hc with z | z | z | z <;> exact absurd lb (by rw [z]; exact Nat.not_lt.mpr (by omega))) (hk b o e)) hS (by rw [hl, lz]) hG hacc (fun j p x1 x2 hj p1 p2 => by
        rw [List.getElem?_zip_eq_some] at hj
        obtain ⟨u1, hu1, ru1⟩ := rv.get hj.1
        obtain ⟨u2, hu2, ru2⟩ := rv2.get hj.2
        rw [List.getElem?_toArray, hu1] at p1
        rw [List.getElem?_toArray, hu2] at p2
        cases p1
        cases p2
        exact ⟨ru1, ru2⟩)
      exact ⟨.ref _, H', J, rfl, q H' _ as k1 k2 k3 k4 k5⟩
end
end TmZ

/-! list(zip(a list, a list)). -/
namespace TmZ
open PySem PySem.Spec PyProof.Rows L2
section
variable {prog : Program} {w : World} {A : Around} {E : Value → Shared → Prop} {s : Shared}
/-- list(a new zip over two lists) -/
theorem call_listL {Q : Value → Shared → Prop} {z TI TO i1 i2 la lb : Addr} {xs ys : Array Value} {a b : Value} (hh : A.handled = none) (za : z < s.heap.objs.size) (dTIz : TI ≠ z) (dTOz : TO ≠ z) (dTITO : TI ≠ TO) (dTI1 : TI ≠ i1) (dTI2 : TI ≠ i2) (d12 : i1 ≠ i2) (dz1 : z ≠ i1) (dz2 : z ≠ i2) (dT1 : TO ≠ i1) (dT2 : TO ≠ i2)
    (ha : la ∉ [z, TI, TO, i1, i2]) (hb : lb ∉ [z, TI, TO, i1, i2]) (hn : min xs.size ys.size ≤ sizeLine)
    (hz : IsZip s.heap z TI TO .none) (hTI : IsTupOf2 s.heap TI (.ref i1) (.ref i2)) (hTO : IsTupOf2 s.heap TO a b) (h1 : s.heap.IsListIter i1 la 0) (h2 : s.heap.IsListIter i2 lb 0) (hx : s.heap.IsList la xs) (hy : s.heap.IsList lb ys)
    (hQ : ∀ h' tk acc c as, (∀ b o, b ∉ [z, TO, i1, i2] → s.heap.get? b = some o → h'.get? b = some o) → h'.get? s.heap.objs.size = some { cls := .type "list", dict := none, data := .seq acc c, slots := #[] } → as.length = min xs.size ys.size → PG (fun i v => xs[i]? = some v) (fun i v => ys[i]? = some v) s.heap.objs.size h' as →
      acc.toList = as.map Value.ref → Q (.ref s.heap.objs.size) { s with heap := h', toks := tk }) :
    wpAny (model prog w) A (call (.type "list") [.ref z]) Q E s := by
  refine callType_codes (Q₁ := fun obj s₁ => obj = .ref s.heap.objs.size ∧ s₁ = { s with heap := s.heap.push { cls := .type "list", data := .seq #[] } }) PySem.F.called_list (PySem.F.typeCall_list_1 _) PySem.F.entry_list_init
    (code_list_new _ ⟨rfl, rfl⟩) fun obj s₁ h₁ => ?_
  obtain ⟨rfl, rfl⟩ := h₁
  have hS : (s.heap.push { cls := .type "list", data := .seq #[] }).get? s.heap.objs.size = some { cls := .type "list", data := .seq #[] } := Heap.get?_push_size _ rfl
  have up : ∀ b o, s.heap.get? b = some o → (s.heap.push { cls := .type "list", data := .seq #[] }).get? b = some o := fun b o e => Heap.get?_push_of_some _ e
  simp only [List.mem_cons, List.not_mem_nil, or_false, not_or] at ha hb
  obtain ⟨az, aTI, aTO, a1, a2⟩ := ha
  obtain ⟨bz, bTI, bTO, b1, b2⟩ := hb
  have ltT : TO < s.heap.objs.size := Heap.lt_size hTO
  have ltI : TI < s.heap.objs.size := Heap.lt_size hTI
  have lt1 : i1 < s.heap.objs.size := by obtain ⟨_, e, _⟩ := h1; exact Heap.lt_size e
  have lt2 : i2 < s.heap.objs.size := by obtain ⟨_, e, _⟩ := h2; exact Heap.lt_size e
  have lta : la < s.heap.objs.size := by obtain ⟨_, e, _⟩ := hx; exact Heap.lt_size e
  have ltb : lb < s.heap.objs.size := by obtain ⟨_, e, _⟩ := hy; exact Heap.lt_size e
  have ne : ∀ {x y : Addr}, x ≠ y → ∀ {u : Addr}, x ≠ u → x ∉ [y, u] := fun h1 _ h2 h => by
    simp only [List.mem_cons, List.not_mem_nil, or_false] at h
    exact h.elim h1 h2
  refine ⟨⟨_, hS, rfl⟩, PySem.F.args_list_init_2 _ _, init (A := A.in1) (fp1 := [i1, la]) (fp2 := [i2, lb]) ⟨dTIz, dTOz, dTITO, dTI1, by simp, ne dz1 (Ne.symm az), ne dT1 (Ne.symm aTO), dTI2, by simp, ne dz2 (Ne.symm bz), ne dT2 (Ne.symm bTO), ne d12 (Ne.symm b1), ne (Ne.symm d12) (Ne.symm a2)⟩
    (Draws.list (A := A.in1.in1.in1) hh i1 la a1 xs) (Draws.list (A := A.in1.in1.in1) hh i2 lb b2 ys) hn za ltT ltI lt1 lt2 (ne (Nat.ne_of_gt lt1) (Nat.ne_of_gt lta)) (ne (Nat.ne_of_gt lt2) (Nat.ne_of_gt ltb)) (up _ _ hz) (up _ _ hTI) (up _ _ hTO) ⟨h1.at fun o e => up _ o e, hx.push _⟩ ⟨h2.at fun o e => up _ o e, hy.push _⟩ hS fun h' tk acc c as hk hS' hl hG hacc => ?_⟩
  exact ⟨rfl, hQ h' tk acc c as (fun b o e1 e => hk b o (Nat.ne_of_lt (Heap.lt_size e)) e1 (up b o e)) hS' hl hG hacc⟩
end
section
variable {X : Cx}
/-- list(zip(a list, a list)) -/
def tListZipL (K : PySem.W.Frag) (ta : TA) : TE := fun σ H Q => ta σ H fun vs H1 => ∃ a b xs ys, vs = [.ref a, .ref b] ∧ SqL K H1 a xs ∧ SqL K H1 b ys ∧
  ∀ (H' : Hp) (p : Addr) (ts : List Addr), (∀ b o, H1 b = some o → H' b = some o) → H1 p = none → (∀ t ∈ ts, H1 t = none) → H' p = some (.lst (ts.map V.ref)) → Paired (fun (t : Addr) (q : V × V) => H' t = some (.tup [q.1, q.2])) ts (xs.zip ys) → Q (.ref p) H'
theorem pe_listZipL {K : PySem.W.Frag} {e e2 : Expr} {ta : TA} {p p2 q2 pos : Pos} (hg : Gl X "list") (hm : X.mg "list" = none) (hg2 : Gl X "zip") (hm2 : X.mg "zip" = none) (ha : PA X [e, e2] ta) (hK : X.K = K := by rfl) (hc : X.calm = true := by rfl)
    (na : starEach [.Call (.Name "zip" p2) [e, e2] [] q2] X.env = (false, eval (.Call (.Name "zip" p2) [e, e2] [] q2) X.env) :: starEach [] X.env := by rfl)
    (hs : starEach [e, e2] X.env = (false, eval e X.env) :: starEach [e2] X.env := by rfl) (hpl : (backTo q2 (starEach [e2] X.env)).any (·.1) = false := by rfl) :
    PE X (.Call (.Name "list" p) [.Call (.Name "zip" p2) [e, e2] [] q2] [] pos) (tListZipL K ta) := by
  subst hK
  refine ⟨fun pins s σ H Q I h => ?_⟩
  refine Call_ (ld_blt I hg hm boot_list (PyProof.Rows.callWith_type1 (PyProof.Rows.args_cons ?_ na) na rfl))
  refine Call_ (ld_blt I hg2 hm2 PyProof.Rows.boot_zip (PyProof.Rows.callWith_type1 (thn (ha.run q2 pins s σ H _ I h) fun us s1 ⟨vs, H1, I1, r1, q1⟩ => ?_) hs hpl))
  obtain ⟨a, b, xs, ys, ex, hx, hy, q⟩ := q1
  subst ex
  cases r1 with
  | cons r rr =>
    cases rr with
    | cons r' rr =>
      cases rr
      cases r
      cases r'
      obtain ⟨its, rv, pt, zt⟩ := I1.list hx
      obtain ⟨its2, rv2, pl, zl⟩ := I1.list hy
      have l1 := rv.length
      have l2 := rv2.length
      have hx' : s1.heap.IsList a its.toArray := pt.isList
      have la : a < s1.heap.objs.size := by obtain ⟨_, e, _⟩ := hx'; exact Heap.lt_size e
      have hy' : s1.heap.IsList b its2.toArray := pl.isList
      have lb : b < s1.heap.objs.size := by obtain ⟨_, e, _⟩ := hy'; exact Heap.lt_size e
      refine call_zip_2 hx' hy' fun h' hz hTI hTO hi1 hi2 hsz hk => ?_
      refine PyProof.Rows.args_nil ?_
      have ni : ∀ {x : Addr}, x < s1.heap.objs.size → x ∉ [s1.heap.objs.size + 4, s1.heap.objs.size + 2, s1.heap.objs.size + 3, s1.heap.objs.size, s1.heap.objs.size + 1] := fun {x} hx hc => by
        simp only [List.mem_cons, List.not_mem_nil, or_false] at hc
        rcases hc with z | z | z | z | z <;> exact absurd hx (by rw [z]; exact Nat.not_lt.mpr (by omega))
      have hxk : Heap.IsList h' a its.toArray := by obtain ⟨o, ho, r⟩ := hx'; exact ⟨o, hk _ _ ho, r⟩
      have hyk : Heap.IsList h' b its2.toArray := by obtain ⟨o, ho, r⟩ := hy'; exact ⟨o, hk _ _ ho, r⟩
      have lz : (xs.zip ys).length = min its.toArray.size its2.toArray.size := by
        rw [List.length_zip, List.size_toArray, List.size_toArray, l1, l2]
      have few : min its.toArray.size its2.toArray.size ≤ sizeLine := by
        rw [List.size_toArray, List.size_toArray]
        have : its2.length ≤ sizeLine := by
          rw [← l2]
          simpa using zl
        omega
      refine call_listL (s := { s1 with heap := h' }) (z := s1.heap.objs.size + 4) (TI := s1.heap.objs.size + 2) (TO := s1.heap.objs.size + 3) (i1 := s1.heap.objs.size) (i2 := s1.heap.objs.size + 1) (I1.ok.hd hc) (by show _ < h'.objs.size; omega) (Nat.ne_of_lt (by omega)) (Nat.ne_of_lt (by omega)) (Nat.ne_of_lt (by omega)) (Nat.ne_of_gt (by omega)) (Nat.ne_of_gt (by omega)) (Nat.ne_of_lt (by omega)) (Nat.ne_of_gt (by omega)) (Nat.ne_of_gt (by omega)) (Nat.ne_of_gt (by omega)) (Nat.ne_of_gt (by omega)) (ni la) (ni lb) few hz hTI hTO hi1 hi2 hxk hyk fun h'' tk acc c as hk2 hS hl hG hacc => ?_
      have szL : s1.heap.objs.size ≤ ({ s1 with heap := h' } : Shared).heap.objs.size := by show _ ≤ h'.objs.size; omega
      obtain ⟨H', k1, k2, k3, k4, k5, J⟩ := pairs_laid (tk := tk) I1 szL (by rw [lz]; exact few) (fun b o e => hk2 b o (fun hc => by
        have lb := Heap.lt_size e
        simp only [List.mem_cons, List.not_mem_nil, or_false] at hc
        rcases hc with z | z | z | z <;> exact absurd lb (by rw [z]; exact Nat.not_lt.mpr (by omega))) (hk b o e)) hS (by rw [hl, lz]) hG hacc (fun j p x1 x2 hj p1 p2 => by
        rw [List.getElem?_zip_eq_some] at hj
        obtain ⟨u1, hu1, ru1⟩ := rv.get hj.1
        obtain ⟨u2, hu2, ru2⟩ := rv2.get hj.2
        rw [List.getElem?_toArray, hu1] at p1
        rw [List.getElem?_toArray, hu2] at p2
        cases p1
        cases p2
        exact ⟨ru1, ru2⟩)
      exact ⟨.ref _, H', J, rfl, q H' _ as k1 k2 k3 k4 k5⟩
end
end TmZ

/-! {**d, k: v}: a dict's entries put into a new one, by mergeMapping. -/
namespace TmD
open PySem PySem.Spec
section
variable {prog : Program} {w : World} {K : Type} [DecidableEq K] {knd : KeyKind prog w K} {A : Around} {E : Value → Shared → Prop} {s : Shared}
theorem put_pairs {d : Addr} {kvs : List (K × Value)} {k : K} {key v : Value} {Q : Unit → Shared → Prop} (hkey : knd.is k key = true) (hm : s.heap.DictOf knd d kvs)
    (hQ : ∀ h', h'.DictOf knd d (stored kvs k v) → Heap.SameBut d s.heap h' → Q () { s with heap := h' }) (hsz : kvs.length ≤ sizeLine) :
    wpAny (model prog w) A (dictPut d (knd.hash k) key v) Q E s := by
  obtain ⟨o, es, ep, ho, hc, hd, hk, hp, hn⟩ := hm
  have hes : es.size ≤ sizeLine := by
    have e1 := hp.length
    have e2 : es.toList.length = es.size := by simp
    omega
  unfold dictPut
  refine wpAny_bind (wpAny_dictFind_of hkey ho hd hk ?_)
  have hidx : (es.findIdx? fun e => knd.is k e.key) = kvs.findIdx? fun kv => decide (kv.1 = k) := by
    rw [← hp.findIdx k]; obtain ⟨l⟩ := es; simp
  cases hi : es.findIdx? fun e => knd.is k e.key with
  | some i =>
    refine wpAny_updateDict ho hd (hQ _ ⟨_, _, ep, Heap.get?_update_self _ ho (Obj.isFreed_of_dict (Obj.data_mapDict hd _)),
      hc.mapDict _, Obj.data_mapDict hd _, hk.modify _ _, ?_, ?_⟩ (Heap.SameBut.update ..))
    · rw [stored, if_pos (any_of_findIdx_some (hidx ▸ hi))]
      have hl : (es.toList.findIdx? fun e => knd.is k e.key) = some i := by rw [← hi]; obtain ⟨l⟩ := es; simp
      have := hp.modify hn hl v
      obtain ⟨l⟩ := es
      simpa using this
    · rw [stored, if_pos (any_of_findIdx_some (hidx ▸ hi)), keys_map_store]; exact hn
  | none =>
    have hnot : k ∉ kvs.map (·.1) := not_mem_of_findIdx_none (hidx ▸ hi)
    have hany : ¬ (kvs.any fun kv => decide (kv.1 = k)) = true := by
      rw [List.any_eq_true]; rintro ⟨kv, hkv, he⟩
      exact hnot (List.mem_map.mpr ⟨kv, hkv, of_decide_eq_true he⟩)
    refine wpAny_updateDictKeys (hz := hes) ho hd (hQ _ ⟨_, _, ep + 1, Heap.get?_update_self _ ho (Obj.isFreed_of_dict (Obj.data_mapDictKeys hd _)),
      hc.mapDictKeys _, Obj.data_mapDictKeys hd _, hk.push hkey _, ?_, ?_⟩ (Heap.SameBut.update ..))
    · rw [stored, if_neg hany]
      have := hp.append hkey (knd.hash k) v
      obtain ⟨l⟩ := es
      simpa using this
    · rw [stored, if_neg hany, List.map_append, List.nodup_append]
      refine ⟨hn, by simp, ?_⟩
      intro a ha b hb
      simp only [List.map_cons, List.map_nil, List.mem_singleton] at hb
      subst hb
      exact fun e => hnot (e ▸ ha)
theorem merge_map {d o : Addr} {kvs more : List (K × Value)} {Q : Unit → Shared → Prop} (hdo : d ≠ o) (hoS : (o == sysModules) = false)
    (hd : s.heap.DictOf knd d kvs) (ho : s.heap.DictOf knd o more)
    (hQ : ∀ h', h'.DictOf knd d (merged kvs more) → h'.DictOf knd o more → Heap.SameBut d s.heap h' → Q () { s with heap := h' })
    (hsz : kvs.length + more.length ≤ sizeLine) :
    wpAny (model prog w) A (mergeMapping d (.ref o) false) Q E s := by
  obtain ⟨od, esd, epd, hod, hcd, hdd, hkd, hpd, hnd⟩ := id hd
  obtain ⟨oo, eso, epo, hoo, hco, hdo', hko, hpo, hno⟩ := id ho
  have hlen : more.length = eso.size := by rw [← hpo.length]; simp
  unfold mergeMapping
  refine wpAny_bind (wpAny_isInstance ho.typeIs isSubtype_dict_dict ?_)
  simp only [if_true]
  refine wpAny_bind (wpAny_specialOf ho.typeIs F.slot_dict_iter.lookup ?_)
  simp only [beq_self_eq_true]
  have loop : wpAny (model prog w) A (do
      let l ← dictEntries o
      let epoch ← dictEpoch o
      forIn (List.range l.size) PUnit.unit fun i (_ : PUnit) => (do
          let l' ← dictEntries o
          match l'[i]? with
            | some e => do
              holding [e.key, e.val]
                (if false = true then do
                  let f ← dictFind d e.key e.hash
                  if f.isSome = true then do
                      rule "dict.merge.duplicate-key"
                      let x ← newExc (Value.type "KeyError") [e.key]
                      raiseNew x
                      dictPut d e.hash e.key e.val
                    else dictPut d e.hash e.key e.val
                else dictPut d e.hash e.key e.val)
              let ep' ← dictEpoch o
              if (ep' != epoch) = true then do
                  (unsupported "dict.changed-during-merge" : Sem PUnit)
                  pure (ForInStep.yield PUnit.unit)
                else pure (ForInStep.yield PUnit.unit)
            | _ => do
              (unsupported "dict.changed-during-merge" : Sem PUnit)
              pure (ForInStep.yield PUnit.unit) : Sem (ForInStep PUnit))
      pure ()) Q E s := by
    refine wpAny_bind (wpAny_dictEntries hoo hdo' ?_)
    refine wpAny_bind (wpAny_dictEpoch hoo hdo' ?_)
    refine wpAny_bind ?_
    refine wpAny_forIn_list _
      (fun rest _ s' => ∃ h' i, s' = { s with heap := h' } ∧ rest = (List.range eso.size).drop i ∧ i ≤ eso.size ∧ h'.DictOf knd d (merged kvs (more.take i)) ∧ h'.get? o = some oo ∧ Heap.SameBut d s.heap h')
      _ ?_ ?_ _ _ ⟨s.heap, 0, rfl, rfl, Nat.zero_le _, by simpa [merged] using hd, hoo, Heap.SameBut.refl _ _⟩
    · rintro x rest b s' ⟨h', i, rfl, hr, hi, hd', hoo', hs'⟩
      have hlt : i < eso.size := by
        rcases Nat.lt_or_ge i eso.size with h | h
        · exact h
        · rw [List.drop_eq_nil_of_le (by rw [List.length_range]; exact h)] at hr
          cases hr
      rw [List.drop_eq_getElem_cons (by rw [List.length_range]; exact hlt)] at hr
      obtain ⟨hx, hrest⟩ := List.cons.inj hr
      rw [List.getElem_range] at hx
      subst hx
      refine wpAny_bind (wpAny_dictEntries hoo' hdo' ?_)
      rw [Array.getElem?_eq_getElem hlt]
      obtain ⟨kv, hkv⟩ : ∃ kv, more[x]? = some kv := ⟨more[x]'(by rw [hlen]; exact hlt), List.getElem?_eq_getElem _⟩
      obtain ⟨k, v⟩ := kv
      obtain ⟨hkey, hval⟩ := hpo.get? (e := eso[x]) (by simp [hlt]) hkv
      obtain ⟨k', hkey', hhash⟩ := hko eso[x] (Array.getElem_mem hlt)
      obtain rfl : k' = k := knd.inj _ _ _ hkey' hkey
      show wpAny _ _ (holding [eso[x].key, eso[x].val] (if false = true then _ else dictPut d eso[x].hash eso[x].key eso[x].val) >>= _) _ _ _
      rw [if_neg Bool.false_ne_true, hhash, hval]
      have hmx : (merged kvs (more.take x)).length ≤ sizeLine := by
        have e1 := merged_length_le kvs (more.take x)
        have e2 : (more.take x).length ≤ more.length := by rw [List.length_take]; omega
        omega
      refine wpAny_bind (wpAny_holding (put_pairs hkey hd' (fun h'' hd'' hs'' => ?_) hmx))
      have hoo'' : h''.get? o = some oo := (hs''.2 o (Ne.symm hdo)).trans hoo'
      refine wpAny_bind (wpAny_dictEpoch hoo'' hdo' ?_)
      rw [if_neg (by simp)]
      exact wpAny_pure ⟨h'', x + 1, rfl, hrest, hlt, by rw [merged_take_succ kvs more x (k', v) hkv]; exact hd'', hoo'', hs'.trans hs''⟩
    · rintro b s' ⟨h', i, rfl, hr, hi, hd', hoo', hs'⟩
      have hin : i = eso.size := by
        rcases Nat.lt_or_ge i eso.size with h | h
        · rw [List.drop_eq_getElem_cons (by rw [List.length_range]; exact h)] at hr
          cases hr
        · exact Nat.le_antisymm hi h
      refine wpAny_pure (hQ h' ?_ ⟨oo, eso, epo, hoo', hco, hdo', hko, hpo, hno⟩ hs')
      rw [hin, ← hlen, List.take_length] at hd'
      exact hd'
  refine wpAny_bind (wpAny_pure ?_)
  dsimp only
  rw [if_neg (by rw [hoS]; exact Bool.false_ne_true)]
  refine wpAny_bind (wpAny_dictEntries hod hdd ?_)
  split
  · refine wpAny_bind (wpAny_dictEntries hoo hdo' ?_)
    have hloop : (forIn eso PUnit.unit fun e (_ : PUnit) => (match e.key with
        | Value.ref _ => do
          let q ← specialOf e.key (Str.ofString "__eq__")
          if (q != some (Value.builtin "object.__eq__")) = true then
              if (Array.filter (fun x => x.hash == e.hash) eso).size > 1 then do
                (unsupported "dict.merge-into-an-empty-dict:keys-of-equal-hash" : Sem PUnit)
                pure (ForInStep.yield PUnit.unit)
              else pure (ForInStep.yield PUnit.unit)
            else pure (ForInStep.yield PUnit.unit)
        | _ => pure (ForInStep.yield PUnit.unit) : Sem (ForInStep PUnit))) = pure PUnit.unit := by
      rw [← Array.forIn_toList]
      refine forIn_yield_id _ fun e he c => ?_
      obtain ⟨k, hkey, _⟩ := hko e (Array.mem_toList_iff.mp he)
      have hb := knd.byValue k _ hkey
      cases hk : e.key <;> first | rfl | (rw [hk] at hb; exact absurd hb Bool.false_ne_true)
    exact wpAny_bind (wpAny_of_eq hloop loop)
  · exact loop
end
end TmD

/-! {**d, k: v}: the rule. -/
namespace TmD
open PySem PySem.Spec PyProof.Rows L2
/-- {**d, k: v} with keys ints and texts; the new dicts stand while what they hold is made -/
def tDispS (t1 tk tv : TE) : TE := fun σ H Q => ∀ p, H p = none → t1 σ (upd H p (.dK [])) fun x H1 => H1 p = some (.dK []) ∧ ∃ (o : Addr) (kvs : List (Key × V)), x = .ref o ∧ Rd H1 o (.dK kvs) ∧ o ≠ p ∧ kvs.length ≤ 1000 ∧
  ∀ q, (upd H1 p (.dK kvs)) q = none → tk σ (upd (upd H1 p (.dK kvs)) q (.dK [])) fun y H2 => tv σ H2 fun z H3 => H3 q = some (.dK []) ∧ H3 p = some (.dK kvs) ∧ p ≠ q ∧ ∃ key : Key, y = kV key ∧ Q (.ref p) (upd (upd H3 q (.dK [(key, z)])) p (.dK (mergeK kvs [(key, z)])))
section
variable {X : Cx}
theorem pe_dispS {e1 ek ev : Expr} {t1 tk tv : TE} {pos : Pos} (h1 : PE X e1 t1) (hk : PE X ek tk) (hv : PE X ev tv) : PE X (.Dict [none, some ek] [e1, ev] pos) (tDispS t1 tk tv) := by
  refine ⟨fun pins s σ H Q I q => ?_⟩
  rw [arm_eval_Dict]
  refine wpAny_bind (wpAny_standAt ?_)
  show wpAny _ _ (dictDisplay [(none, do let x ← eval e1 X.env; standAt pos; pure x), (some (eval ek X.env), do let x ← eval ev X.env; standAt pos; pure x)]) _ _ s
  unfold dictDisplay
  simp only [List.forIn_cons, List.forIn_nil]
  have hn := I.hok.fresh (Nat.le_refl s.heap.objs.size)
  have I1 := I.laid (a := s.heap.objs.size) (o := .dK []) (h' := s.heap.push { cls := .type "dict", data := .dict #[] }) (t' := s.toks) (fun _ _ q => Heap.get?_push_of_some _ q) (Nat.le_refl _) (dk_empty s.heap I.big)
  refine wpAny_bind (wpAny_bind (wpAny_bind ?_))
  simp only [List.isEmpty_nil, if_true]
  refine wpAny_pure ?_
  refine wpAny_bind (wpAny_alloc ?_)
  refine wpAny_bind (wpAny_holding (wpAny_bind ?_))
  refine thn (h1.run pins _ σ _ _ I1 (q _ hn)) fun mv s2 ⟨x, H1, I2, rx, e, o, kvs, ex, ho, nop, hlen, q2⟩ => ?_
  refine wpAny_bind (wpAny_standAt (wpAny_pure ?_))
  subst ex
  obtain rfl : mv = Value.ref o := rx
  obtain ⟨zp, hdp, vp, rp, dp⟩ := dk_of I2.hok e
  cases rp
  obtain ⟨zo, hdo, vo, ro, dO⟩ := dk_rd I2.hok ho
  have lo : vo.length = kvs.length := (Paired.length ro).symm
  refine wpAny_bind (wpAny_onRaise (wpAny_tryCatch (wpAny_onRaise (wpAny_holding ?_))))
  refine merge_map (knd := mixKind X.prog X.w) (Ne.symm nop) hdo dp dO (fun h' m1 m2 sb => ?_) (by rw [List.length_nil, lo, sizeLine_eq]; omega)
  have hno : (vo.map (·.1)).Nodup := by
    obtain ⟨_, _, _, _, _, _, _, _, h⟩ := id dO
    exact h
  rw [merged_nil_of_nodup vo hno] at m1
  have hzk : kvs.length ≤ sizeLine := by rw [sizeLine_eq]; omega
  have he1 : ∃ u, h'.get? s.heap.objs.size = some u := let ⟨u, _, _, hu, _⟩ := m1; ⟨u, hu⟩
  have I3 : Inv X pins σ (upd H1 s.heap.objs.size (.dK kvs)) { s2 with heap := h' } := d_write (t' := s2.toks) I2 (by rw [e]; exact True.intro) sb he1 (dk_new hzk hdp ro m1)
  refine wpAny_pure ?_
  dsimp only
  refine wpAny_bind ?_
  rw [if_neg (by simp)]
  refine wpAny_pure ?_
  dsimp only
  refine wpAny_pure ?_
  refine wpAny_bind ?_
  rw [if_neg (by simp)]
  dsimp only [List.nil_append]
  have hq := I3.hok.fresh (Nat.le_refl h'.objs.size)
  have I4 := I3.laid (a := h'.objs.size) (o := .dK []) (h' := h'.push { cls := .type "dict", data := .dict #[] }) (t' := s2.toks) (fun _ _ q => Heap.get?_push_of_some _ q) (Nat.le_refl _) (dk_empty h' I3.big)
  refine wpAny_bind (wpAny_holding (wpAny_subDict (knd := mixKind X.prog X.w) (by simp) ?_))
  refine evalPairs_cons ?_
  refine thn (hk.run pins _ σ _ _ I4 (q2 _ hq)) fun ky s3 ⟨y, H2, I5, ry, q3⟩ => ?_
  refine wpAny_bind (thn (hv.run pins _ σ _ _ I5 q3) fun vz s4 ⟨z, H3, I6, rz, eq, ep, npq, key, ey, q4⟩ => wpAny_bind (wpAny_standAt (wpAny_pure (evalPairs_nil ?_))))
  subst ey
  obtain ⟨zq, hdq, vq, rq, dq⟩ := dk_of I6.hok eq
  cases rq
  refine ⟨[(key, vz)], ⟨kV_is ry, rfl, True.intro⟩, dq, fun h2 dd2 hs2 => ?_⟩
  have em : merged ([] : List (Key × Value)) [(key, vz)] = [(key, vz)] := rfl
  rw [em] at dd2
  have he2 : ∃ u, h2.get? h'.objs.size = some u := let ⟨u, _, _, hu, _⟩ := dd2; ⟨u, hu⟩
  have rel1 : KV [(key, z)] [(key, vz)] := .cons ⟨rfl, rz⟩ .nil
  have I7 : Inv X pins σ (upd H3 h'.objs.size (.dK [(key, z)])) { s4 with heap := h2, toks := s4.toks + 1 } := d_write (t' := s4.toks + 1) I6 (by rw [eq]; exact True.intro) hs2 he2 (dk_new (by rw [sizeLine_eq]; show 1 ≤ _; omega) hdq rel1 dd2)
  have epp : (upd H3 h'.objs.size (.dK [(key, z)])) s.heap.objs.size = some (.dK kvs) := by
    rw [upd_ne npq]
    exact ep
  obtain ⟨zP, hdP, vP, rP, dP⟩ := dk_of I7.hok epp
  have lP : vP.length = kvs.length := (Paired.length rP).symm
  refine wpAny_bind (wpAny_onRaise (wpAny_holding ?_))
  refine merge_map (knd := mixKind X.prog X.w) npq hdq dP dd2 (fun h3 m3 m4 sb3 => ?_) (by rw [lP, sizeLine_eq]; show kvs.length + 1 ≤ _; omega)
  have he3 : ∃ u, h3.get? s.heap.objs.size = some u := let ⟨u, _, _, hu, _⟩ := m3; ⟨u, hu⟩
  have hz3 : (mergeK kvs [(key, z)]).length ≤ sizeLine := by
    have h1 := length_mergeK [(key, z)] kvs
    rw [List.length_singleton] at h1
    rw [sizeLine_eq]
    omega
  have I8 := d_write (t' := s4.toks + 1) I7 (by rw [epp]; exact True.intro) sb3 he3 (dk_new hz3 hdP (KV.merge rel1 rP) m3)
  refine wpAny_pure ?_
  exact wpAny_pure ⟨.ref s.heap.objs.size, _, I8, rfl, q4⟩
end
end TmD

/-! several except clauses, with and without a name. -/
namespace TmT
open PySem PySem.Spec PyProof.Rows L2
/-- a clause: the class it names, the slot of its own name, its suite -/
abbrev Clause := Value × Option Nat × (Addr → Value → Option Addr → TS)
/-- what the clauses wish of an exception of the body -/
def wMix (K : PySem.W.Frag) (Wout : WX) (D : Ends) : List Clause → WX
  | [] => Wout
  | (c, none, ts) :: r => fun cls d σ H => ∃ b, PySem.W.exmOne K cls c = some b ∧ (b = true → ∀ a, H a = none → ts a cls d D σ H) ∧ (b = false → wMix K Wout D r cls d σ H)
  | (c, some i, ts) :: r => fun cls d σ H => ∃ b, PySem.W.exmOne K cls c = some b ∧ (b = true → ∀ a, H a = none → ts a cls d { nx := fun σ' H' => D.nx (σ'.set i none) H', rt := D.rt, bk := fun σ' H' => D.bk (σ'.set i none) H', ct := fun σ' H' => D.ct (σ'.set i none) H' } (σ.set i (some (.ref a))) H) ∧
      (b = false → wMix K Wout D r cls d σ H)
inductive HdsX (X : Cx) : List ExceptHandler → List Clause → Prop
  | nil : HdsX X [] []
  | plain {x : Str} {c : Value} {ts : Addr → Value → Option Addr → TS} {b₀ : Stmt} {suite : List Stmt} {np pos' : Pos} {hds : List ExceptHandler} {l : List Clause} (hc : Names X x c)
      (hsu : ∀ (a : Addr) (oe : Obj) (cls : Value) (d : Option Addr) (pn : List (Addr × Obj)), Zc cls d oe → (∃ vs, oe.data = .fields vs) → PSs (X.suite a ((a, oe) :: pn)) (b₀ :: suite) (ts a cls d)) (r : HdsX X hds l) :
      HdsX X (.ExceptHandler (some (.Name x np)) none (b₀ :: suite) pos' :: hds) ((c, none, ts) :: l)
  | named {x n : Str} {i : Nat} {c : Value} {ts : Addr → Value → Option Addr → TS} {b₀ : Stmt} {suite : List Stmt} {np pos' : Pos} {hds : List ExceptHandler} {l : List Clause} (hi : X.N[i]? = some n) (hln : X.env.kindOf n = some .local) (hc : Names X x c)
      (hsu : ∀ (a : Addr) (oe : Obj) (cls : Value) (d : Option Addr) (pn : List (Addr × Obj)), Zc cls d oe → (∃ vs, oe.data = .fields vs) → PSs (X.suite a ((a, oe) :: pn)) (b₀ :: suite) (ts a cls d)) (r : HdsX X hds l) :
      HdsX X (.ExceptHandler (some (.Name x np)) (some n) (b₀ :: suite) pos' :: hds) ((c, some i, ts) :: l)
section
variable {X : Cx} {body : List Stmt} {h₀ : ExceptHandler} {hds : List ExceptHandler} {l : List Clause} {pos : Pos} {tb : WX → TS} {Wout : WX}
theorem ps_try_mix (hs : X.stack = X.env :: X.outer) (hf : X.env.frame = some X.env.locals) (hN : X.N.Nodup) (tk : Takes X Wout)
    (hb : ∀ (W : WX) (pn : List (Addr × Obj)) (xe : Value → Shared → Prop), Takes (X.tr pn xe) W → PassesOwn (model X.prog X.w) X.A X.env xe → PSs (X.tr pn xe) body (tb W))
    (hh : HdsX X (h₀ :: hds) l) : PS X (.Try body (h₀ :: hds) [] [] pos) (fun D σ H => tb (wMix X.K Wout D l) D σ H) := by
  refine ⟨fun pins s σ H D I h => ?_⟩
  have ok := I.ok
  have hfr : X.A.frames = some (X.env :: X.outer) := by rw [ok.frames, hs]
  refine wpAny_Try_except ?_
  refine wpAny_mono ((hb (wMix X.K Wout D l) (X.pn ++ pins) (fun e s₁ => wpAny (model X.prog X.w) X.A (noteFrame e X.env) (fun _ s₂ => wpAny (model X.prog X.w) X.A (setFlight e none) (fun _ s₃ =>
    wpAny (model X.prog X.w) X.A (handleBy e X.env (h₀ :: hds)) (SP X pins D) X.xe s₃) X.xe s₂) X.xe s₁) (fun u s' xx => ?_) PassesOwn.looking).run [] s σ H D (I.toTry _) h) (fun f s1 hsp => ?_) (fun e s1 he => he)
  · obtain ⟨a, B, sI, pins', σ', H', cls, d, rfl, J', nb, up, sky, na, os, ag, w⟩ := xx
    have J : Inv X pins σ' H' sI := J'.ofTry ok
    have sky' : Sky B (X.env :: X.outer) a (Zc cls d) X.env.locals s'.heap := by rw [← hs]; exact sky
    show wpAny (model X.prog X.w) X.A (noteFrame (.ref a) X.env) _ _ _
    refine Sky.land Zc.steady hfr hf sky' fun h3 fl3 up3 => ?_
    have J3 : Inv X pins σ' H' { s' with heap := h3 } := J.landed nb fl3.1 (up.trans up3) os ag
    obtain ⟨oe3, vs3, he3, hz3, hd3⟩ := fl3.there
    have notFr : ∀ {h : Heap} {o : Obj} {vs : Array Value}, h.FunFrames B (X.env :: X.outer) → h.get? a = some o → o.data = .fields vs → a ∉ frs (X.env :: X.outer) := fun {h o vs} ff e dd hm => by
      obtain ⟨_, o', e', hnf⟩ := ff.mem hm
      rw [e] at e'; cases e'
      exact hnf _ dd
    have nfr := notFr fl3.2.2.1 he3 hd3
    have nL : a ≠ X.env.locals := fun z => nfr (List.mem_filterMap.mpr ⟨X.env, List.mem_cons_self, by rw [hf, z]⟩)
    have nF : a ∉ X.fs := fun hm => by
      obtain ⟨e, he, q⟩ := List.mem_filterMap.mp hm
      exact nfr (List.mem_filterMap.mpr ⟨e, List.mem_cons_of_mem _ he, q⟩)
    have S3 := J3.suite he3 hd3 na nL nF
    have LT : PySem.W.Looks (model X.prog X.w) h3 (typeOf (.ref a)) cls := fun A Q E s k q => wpAny_typeOf_ref (k _ _ he3) (by rw [hz3.1]; exact q)
    have test : ∀ {x : Str} {c : Value} {np : Pos} {Q : Value → Shared → Prop} {E : Value → Shared → Prop}, Names X x c → Q c { s' with heap := h3 } → wpAny (model X.prog X.w) (X.A.mark (some (.ref a))) (eval (.Name x np) X.env) Q E { s' with heap := h3 } := fun {x c np Q E} hc q => by
      obtain ⟨hg, hdbg, hm | ⟨hm, hv, hnn⟩⟩ := hc
      · exact ld_glob (X := X.suite a ((a, oe3) :: (X.pn ++ pins))) S3 hg hm q hdbg
      · exact ld_blt (X := X.suite a ((a, oe3) :: (X.pn ++ pins))) S3 hg hm hv q hnn hdbg
    have go : ∀ {hds' : List ExceptHandler} {l' : List Clause}, HdsX X hds' l' → wMix X.K Wout D l' cls d σ' H' →
        wpAny (model X.prog X.w) X.A (handleBy (.ref a) X.env hds') (SP X pins D) X.xe { s' with heap := h3 } := by
      intro hds' l' hk
      induction hk with
      | nil =>
        intro w
        refine wpAny_handleBy_nil ?_
        obtain ⟨k1, k2, k3, oe, vs, T, oT, ts', he, hz, hd, h1, hr⟩ := id fl3
        unfold PySem.passOn
        refine wpAny_bind (wpAny_field he hd h1 ?_)
        rw [if_neg (show ¬ ((Value.ref T == Value.none) = true) from by simp)]
        have fin : wpAny (model X.prog X.w) X.A (setFlight (.ref a) X.env.frame) (fun _ s4 => wpAny (model X.prog X.w) X.A (throw (.ref a) : Sem Flow) (SP X pins D) X.xe s4) X.xe { s' with heap := h3 } := by
          rw [hf]
          refine HandSPX.setFlight_upZ fl3 fun h4 hh4 up4 => wpAny_throw (tk _ _ ?_)
          exact ⟨a, B, sI, pins, σ', H', cls, d, rfl, J, nb, (up.trans up3).trans up4, .inr (.inr (by rw [hs]; exact hh4)), na, os, ag, w⟩
        first
          | exact wpAny_bind (wpAny_pure (wpAny_bind fin))
          | exact wpAny_bind fin
      | @plain x c ts b₀ suite np pos' hds2 l2 hc hsu r ih =>
        intro w
        obtain ⟨b, hb1, hyes, hno⟩ := w
        refine wpAny_handleBy_cons (codeAny_handlers_test ?_) (by intro q; cases q)
        have LM := PySem.W.exm_one (M := model X.prog X.w) (J3.kIn) LT hb1
        refine test hc (LM.here ?_)
        cases b with
        | true =>
          refine codeAny_handlers_suite ?_
          refine HandSPX.lands_againZ fl3 fun h4 fl4 up4 => ?_
          have J4 : Inv X pins σ' H' { s' with heap := h4 } := J.landed nb fl4.1 ((up.trans up3).trans up4) os ag
          obtain ⟨oe4, vs4, he4, hz4, hd4⟩ := fl4.there
          have S4 := J4.suite he4 hd4 na nL nF
          refine wpAny_mono ((hsu a oe4 cls d (X.pn ++ pins) hz4 ⟨_, hd4⟩).run [] _ _ H' _ S4 (hyes rfl a na)) (fun f s6 hsp => ?_) (fun _ _ z => False.elim z)
          cases f with
          | next =>
            obtain ⟨σ6, H6, S6, q6⟩ := hsp
            exact ⟨_, _, S6.unsuite ok, q6⟩
          | brk =>
            obtain ⟨σ6, H6, S6, q6⟩ := hsp
            exact ⟨_, _, S6.unsuite ok, q6⟩
          | cont =>
            obtain ⟨σ6, H6, S6, q6⟩ := hsp
            exact ⟨_, _, S6.unsuite ok, q6⟩
          | ret u =>
            obtain ⟨v6, σ6, H6, S6, r6, q6⟩ := hsp
            exact ⟨_, _, _, S6.unsuite ok, r6, q6⟩
        | false =>
          show wpAny _ X.A (handleBy (.ref a) X.env hds2) _ _ _
          exact ih (hno rfl)
      | @named x n i c ts b₀ suite np pos' hds2 l2 hi hln hc hsu r ih =>
        intro w
        obtain ⟨b, hb1, hyes, hno⟩ := w
        have hloc : Loc X.env.scope n := .inl hln
        refine wpAny_handleBy_cons (codeAny_handlers_test ?_) (by intro q; cases q)
        have LM := PySem.W.exm_one (M := model X.prog X.w) (J3.kIn) LT hb1
        refine test hc (LM.here ?_)
        cases b with
        | true =>
          refine codeAny_handlers_suite_as ?_
          refine HandSPX.lands_againZ fl3 fun h4 fl4 up4 => ?_
          have J4 : Inv X pins σ' H' { s' with heap := h4 } := J.landed nb fl4.1 ((up.trans up3).trans up4) os ag
          obtain ⟨oe4, vs4, he4, hz4, hd4⟩ := fl4.there
          have S4 := J4.suite he4 hd4 na nL nF
          refine store_ok (X := X.suite a ((a, oe4) :: (X.pn ++ pins))) (v := .ref a) S4 hN hi hloc rfl (fun s5 S5 => ?_) (.inr hln)
          refine wpAny_mono ((hsu a oe4 cls d (X.pn ++ pins) hz4 ⟨_, hd4⟩).run [] s5 _ H' _ S5 (hyes rfl a na)) (fun f s6 hsp => ?_) (fun _ _ z => False.elim z)
          have end_ : ∀ {σ6 : L2.St} {H6 : Hp} {Q : Shared → Prop}, Inv (X.suite a ((a, oe4) :: (X.pn ++ pins))) [] σ6 H6 s6 → (∀ s7, Inv X pins (σ6.set i none) H6 s7 → Q s7) →
              wpAny (model X.prog X.w) X.A (do bindName X.env n .none; unbindBehindTheSuite X.env n pos') (fun _ s7 => Q s7) X.xe s6 := fun {σ6 H6 Q} S6 hq => gone_ok (S6.unsuite ok) hN hi hln hq
          cases f with
          | next =>
            obtain ⟨σ6, H6, S6, q6⟩ := hsp
            exact end_ S6 fun s7 J7 => ⟨_, _, J7, q6⟩
          | brk =>
            obtain ⟨σ6, H6, S6, q6⟩ := hsp
            exact end_ S6 fun s7 J7 => ⟨_, _, J7, q6⟩
          | cont =>
            obtain ⟨σ6, H6, S6, q6⟩ := hsp
            exact end_ S6 fun s7 J7 => ⟨_, _, J7, q6⟩
          | ret u =>
            obtain ⟨v6, σ6, H6, S6, r6, q6⟩ := hsp
            exact end_ S6 fun s7 J7 => ⟨_, _, _, J7, r6, q6⟩
        | false =>
          show wpAny _ X.A (handleBy (.ref a) X.env hds2) _ _ _
          exact ih (hno rfl)
    exact go hh w
  · cases f with
    | next =>
      obtain ⟨σ', H', J', q⟩ := hsp
      exact wpAny_execs_nil ⟨σ', H', J'.ofTry ok, q⟩
    | brk =>
      obtain ⟨σ', H', J', q⟩ := hsp
      exact ⟨σ', H', J'.ofTry ok, q⟩
    | cont =>
      obtain ⟨σ', H', J', q⟩ := hsp
      exact ⟨σ', H', J'.ofTry ok, q⟩
    | ret u =>
      obtain ⟨v, σ', H', J', r, q⟩ := hsp
      exact ⟨v, σ', H', J'.ofTry ok, r, q⟩
end
end TmT

/-! sets of texts whose members can be collected: one more member. -/
namespace TmS
open PySem PySem.Spec PyProof.Rows L2
theorem perm_along {α β : Type} {F : α → β → Prop} : ∀ {xs xs' : List α}, xs'.Perm xs → ∀ {ys : List β}, Paired F xs ys → ∃ ys', ys'.Perm ys ∧ Paired F xs' ys' := by
  intro xs xs' p
  induction p with
  | nil => exact fun h => ⟨_, List.Perm.refl _, h⟩
  | cons x _ ih =>
    intro ys h
    cases h with
    | cons r t =>
      obtain ⟨zs, p2, q⟩ := ih t
      exact ⟨_ :: zs, p2.cons _, .cons r q⟩
  | swap x y l =>
    intro ys h
    cases h with
    | cons r t =>
      cases t with
      | cons r2 t2 => exact ⟨_, List.Perm.swap _ _ _, .cons r2 (.cons r t2)⟩
  | trans _ _ ih1 ih2 =>
    intro ys h
    obtain ⟨zs, p1, q1⟩ := ih2 h
    obtain ⟨us, p2, q2⟩ := ih1 q1
    exact ⟨us, p2.trans p1, q2⟩
def TxtE (P : Program) (w : World) (e : Int × Value) (x : Str) : Prop := ∃ tk, e.2 = Value.str x tk ∧ e.1 = (strKind P w).hash x
/-- the set of the texts ks at a, in the order of its entries -/
def SetS (P : Program) (w : World) (h : Heap) (a : Addr) (ks : List Str) : Prop :=
  ∃ o es ep t, h.get? a = some o ∧ o.ExactSet ∧ o.data = .set es ep t ∧ Paired (TxtE P w) es.toList ks ∧ ks.Nodup ∧ es.size < scanBound ∧ t.fits es.size = true ∧ Ris t.place.toList ∧ (w.params.followText "set-order" = true ∨ t.led = true)
section
variable {P : Program} {w : World} {A : Around} {E : Value → Shared → Prop} {s : Shared} {a : Addr} {ks : List Str}
theorem SetS.at {h h' : Heap} (R : SetS P w h a ks) (k : ∀ o, h.get? a = some o → h'.get? a = some o) : SetS P w h' a ks := by
  obtain ⟨o, es, ep, t, ho, r⟩ := R
  exact ⟨o, es, ep, t, k o ho, r⟩
theorem elems {es : List (Int × Value)} (h : Paired (TxtE P w) es ks) : ElemsOf (strKind P w) es := fun e he => by
  induction h with
  | nil => cases he
  | @cons d x ds xs r _ ih =>
    rcases List.mem_cons.mp he with z | z
    · subst z
      obtain ⟨tk, h1, h2⟩ := r
      exact ⟨⟨x, by rw [h1]; exact strKind_is P w x tk, h2⟩, by rw [h1] <;> rfl⟩
    · exact ih z
theorem is_txt {e : Int × Value} {x y : Str} (h : TxtE P w e y) : (strKind P w).is x e.2 = true ↔ x = y := by
  obtain ⟨tk, h1, _⟩ := h
  have hy := strKind_is P w y tk
  rw [h1]
  constructor
  · intro hx
    exact (strKind P w).inj _ _ _ hx hy
  · rintro rfl
    exact hy
theorem any_txt {es : List (Int × Value)} {x : Str} (h : Paired (TxtE P w) es ks) : x ∈ ks ↔ ∃ e ∈ es, (strKind P w).is x e.2 = true := by
  induction h with
  | nil => simp
  | @cons d y ds ys r _ ih =>
    rw [List.mem_cons, ih]
    constructor
    · rintro (z | ⟨e, he, q⟩)
      · exact ⟨d, List.mem_cons_self, (is_txt r).mpr z⟩
      · exact ⟨e, List.mem_cons_of_mem _ he, q⟩
    · rintro ⟨e, he, q⟩
      rcases List.mem_cons.mp he with z | z
      · subst z
        exact .inl ((is_txt r).mp q)
      · exact .inr ⟨e, z, q⟩
theorem put_tail {g : Bool → Sem Unit} (hg : ∀ (b : Bool) (s₁ : Shared) (Q' : Unit → Shared → Prop), Q' () s₁ → wpAny (model P w) A (g b) Q' E s₁)
    {o : Obj} {es es1 : Array (Int × Value)} {ep : Nat} {t t2 : SetTable} (ho : s.heap.get? a = some o) (hex : o.ExactSet) (hd : o.data = .set es ep t) {k1 : List Str} (pr : Paired (TxtE P w) es1.toList k1) (nd : k1.Nodup)
    (hb1 : es1.size < scanBound) (hf2 : t2.fits es1.size = true) (hr : Ris t2.place.toList) (hl : w.params.followText "set-order" = true ∨ t2.led = true) {wasDummy : Bool} {R : Option Bool → Shared → Prop}
    (hR : ∀ h' k2, Heap.SameBut a s.heap h' → k2.Perm k1 → SetS P w h' a k2 → R (some true) { s with heap := h' }) :
    wpAny (model P w) A (do
        storeSet a es1 t2
        if (!wasDummy && t2.tooFull) = true then do
            g (relayAll t2 es1 (SetTable.grown es1.size)).2.2
            storeSet a (relayAll t2 es1 (SetTable.grown es1.size)).1 (relayAll t2 es1 (SetTable.grown es1.size)).2.1
            pure (some true)
          else pure (some true)) R E s := by
  refine wpAny_bind (wpAny_storeSet_of ho hd ?_ (fits_of_scanBound hb1))
  have ho1 := store_at (es' := es1) (t' := t2) ho hd
  have sb1 := Heap.SameBut.update s.heap a (Obj.putSet es1 t2)
  split
  · have pm := relayAll_perm t2 es1 (SetTable.grown es1.size)
    have hf3 := relayAll_fits t2 es1 (SetTable.grown es1.size)
    have hr3 := relayAll_ris t2 es1 (SetTable.grown es1.size)
    have hl3 := relayAll_led t2 es1 (SetTable.grown es1.size)
    generalize relayAll t2 es1 (SetTable.grown es1.size) = Z at pm hf3 hr3 hl3 ⊢
    obtain ⟨es2, t3, gave⟩ := Z
    dsimp only at pm hf3 hr3 hl3 ⊢
    have hsz : es2.size = es1.size := by rw [← Array.length_toList, pm.length_eq, Array.length_toList]
    have hb2 : es2.size < scanBound := by rw [hsz]; exact hb1
    obtain ⟨k2, p2, q2⟩ := perm_along pm pr
    refine wpAny_bind (hg _ _ _ ?_)
    refine wpAny_bind (wpAny_storeSet_of ho1 rfl ?_ (fits_of_scanBound hb2))
    have ho2 := store_at (es' := es2) (t' := t3) ho1 rfl
    refine wpAny_pure (hR _ k2 (sb1.trans (Heap.SameBut.update _ a _)) p2 ?_)
    exact ⟨_, es2, _, t3, ho2, hex, rfl, q2, p2.nodup_iff.mpr nd, hb2, hf3, hr3, hl.imp id fun z => by rw [hl3]; exact z⟩
  · exact wpAny_pure (hR _ k1 sb1 (List.Perm.refl _) ⟨_, es1, _, t2, ho1, hex, rfl, pr, nd, hb1, hf2, hr, hl⟩)
theorem add_txt {x : Str} {tk : Tok} {Q : Bool → Shared → Prop} (R : SetS P w s.heap a ks) (room : ks.length + 1 < scanBound)
    (hQ : ∀ h' k2, Heap.SameBut a s.heap h' → SetS P w h' a k2 → (x ∈ ks ∧ k2 = ks ∨ x ∉ ks ∧ k2.Perm (x :: ks)) → Q (!decide (x ∈ ks)) { s with heap := h' }) :
    wpAny (model P w) A (setAddHashed a (.str x tk) ((strKind P w).hash x)) Q E s := by
  obtain ⟨o, es, ep, t, ho, hex, hd, pr, nd, hb, hf, hr, hl⟩ := R
  have hkey : (strKind P w).is x (.str x tk) = true := strKind_is P w x tk
  have hsc : (Value.str x tk).scannable = true := rfl
  have hel := elems pr
  unfold setAddHashed setAddHashedIn
  refine wpAny_holding (wpAny_bind (wpAny_setState_of ho hd hf ?_))
  dsimp only
  rw [byScan_of hsc hb hel]
  simp only [↓reduceIte]
  unfold setAddByScan
  refine wpAny_bind ?_
  refine wpAny_bind (wpAny_rule ?_)
  refine wpAny_bind (wpAny_setScan_of hkey ho hd hf hel ?_)
  cases hfi : List.findIdx? (fun e => (strKind P w).is x e.2) es.toList with
  | some j =>
    dsimp only
    obtain ⟨hj, pj, _⟩ := List.findIdx?_eq_some_iff_getElem.mp hfi
    have hx : x ∈ ks := (any_txt pr).mpr ⟨es.toList[j], List.getElem_mem hj, pj⟩
    refine wpAny_pure (wpAny_pure ?_)
    have q := hQ s.heap ks (Heap.SameBut.refl a s.heap) ⟨o, es, ep, t, ho, hex, hd, pr, nd, hb, hf, hr, hl⟩ (.inl ⟨hx, rfl⟩)
    rw [decide_eq_true hx] at q
    exact q
  | none =>
    dsimp only
    have hx : x ∉ ks := fun z => by
      obtain ⟨e, he, q⟩ := (any_txt pr).mp z
      have c := List.findIdx?_eq_none_iff.mp hfi e he
      rw [q] at c
      cases c
    have hgw : ∀ (b : Bool) {s₁ : Shared} {Q' : Unit → Shared → Prop}, Q' () s₁ → wpAny (model P w) A (match b with | true => rule "set.scan.the-table-gave-way" | false => pure ()) Q' E s₁ :=
      fun b s₁ Q' q => by cases b <;> first | exact wpAny_pure q | exact wpAny_rule q
    have pm := layNew_perm t es ((strKind P w).hash x) (.str x tk)
    have hf1 := layNew_fits t es ((strKind P w).hash x) (.str x tk)
    have hr1 := layNew_ris t es ((strKind P w).hash x) (.str x tk) hr
    have hl1 := layNew_led t es ((strKind P w).hash x) (.str x tk)
    generalize layNew t es ((strKind P w).hash x) (.str x tk) = Z at pm hf1 hr1 hl1 ⊢
    obtain ⟨es1, t1, wasDummy, gave⟩ := Z
    dsimp only at pm hf1 hr1 hl1 ⊢
    rw [Array.toList_push] at pm
    have pc : es1.toList.Perm (((strKind P w).hash x, Value.str x tk) :: es.toList) := pm.trans (List.perm_append_singleton _ _)
    obtain ⟨k1, p1, q1⟩ := perm_along pc (.cons (show TxtE P w ((strKind P w).hash x, Value.str x tk) x from ⟨tk, rfl, rfl⟩) pr)
    have nd1 : k1.Nodup := p1.nodup_iff.mpr (List.nodup_cons.mpr ⟨hx, nd⟩)
    have hsz : es1.size = ks.length + 1 := by rw [← Array.length_toList, pc.length_eq, List.length_cons, Paired.length pr]
    have hb1 : es1.size < scanBound := by rw [hsz]; exact room
    have hled : w.params.followText "set-order" = true ∨ t1.led = true := hl.imp id fun z => by rw [hl1]; exact z
    have fin : ∀ h' k2, Heap.SameBut a s.heap h' → k2.Perm k1 → SetS P w h' a k2 → Q true { s with heap := h' } := fun h' k2 sb p r => by
      have q := hQ h' k2 sb r (.inr ⟨hx, p.trans p1⟩)
      rw [decide_eq_false hx] at q
      exact q
    refine wpAny_bind (hgw _ ?_)
    split
    · refine wpAny_bind ?_
      rw [hashByValue_scannable 8 hsc]
      refine wpAny_pure ?_
      refine put_tail ?_ ho hex hd q1 nd1 hb1 ?_ ?_ ?_ ?_
      · intro b s₁ Q' q; cases b <;> first | exact wpAny_pure q | exact wpAny_rule q
      · first | (split <;> first | exact hf1 | exact SetTable.fits_plain_off hf1) | exact hf1
      · first | (split <;> exact hr1) | exact hr1
      · first | (split <;> exact hled) | exact hled
      · intro h' k2 sb p r; dsimp only; exact wpAny_pure (fin h' k2 sb p r)
    · refine wpAny_bind (wpAny_pure ?_)
      simp only [↓reduceIte]
      refine put_tail ?_ ho hex hd q1 nd1 hb1 hf1 hr1 hled ?_
      · intro b s₁ Q' q; cases b <;> first | exact wpAny_pure q | exact wpAny_rule q
      · intro h' k2 sb p r; dsimp only; exact wpAny_pure (fin h' k2 sb p r)
end
end TmS

/-! set(a list of texts), sorted(a set of texts). -/
namespace TmS
open PySem PySem.Spec PyProof.Rows L2
section
variable {P : Program} {w : World} {A : Around} {E : Value → Shared → Prop} {R : Result → Shared → Prop}
/-- what is met so far -/
def MetS (P : Program) (w : World) (h : Heap) (a : Addr) (ts : List Str) (m : Nat) : Prop := ∃ ks, SetS P w h a ks ∧ ks.length ≤ m ∧ ∀ x, x ∈ ks ↔ x ∈ ts
theorem update_txt {I : Addr} {fp wr : List Addr} {G : Array GenState → Array GenState → Prop} {n : Nat} {Pv : Nat → Value → Prop} {St : Nat → Shared → Prop}
    (W : WalksS P w A.in1 I fp wr G n Pv St) (S : Addr) (hSf : S ∉ fp) (ts : List Str) (hn : n = ts.length) (hb : ts.length + 1 < scanBound) (hval : ∀ i v, Pv i v → ∃ x t, ts[i]? = some x ∧ v = .str x t) :
    ∀ (k i : Nat) (s : Shared), n - i = k → i ≤ n → St i s → MetS P w s.heap S (ts.take i) i →
      (∀ s', Moved (S :: wr) G s s' → MetS P w s'.heap S ts n → R (.ok (.ret .none)) s') →
      codeAny (model P w) A (.builtin "set.update.loop" ⟨[.ref S, .ref I], []⟩) R s := by
  have hSw : S ∉ wr := fun h => hSf (W.sub _ h)
  have hsub : ∀ b ∈ wr, b ∈ S :: wr := fun b hb => List.mem_cons_of_mem _ hb
  intro k
  induction k with
  | zero =>
    intro i s hk' hi hst ⟨ks, hS, hc, hm⟩ hR
    have hin : i = n := by omega
    subst hin
    refine codeAny_builtin F.entry_set_update_loop ?_
    rw [Around.under_plainId F.plain_set_update_loop _]
    show wpAny _ A.in1 (pyNext (.ref I) >>= _) _ _ s
    refine wpAny_bind (W.done s _ _ hst fun s' mv => ?_)
    show wpAny _ A.in1 (ret Value.none) _ _ s'
    have e : ts.take i = ts := List.take_of_length_le (by omega)
    rw [e] at hm
    exact wpAny_pure (hR s' (mv.mono hsub) ⟨ks, hS.at fun o e => mv.heap S o hSw e, hc, hm⟩)
  | succ k ih =>
    intro i s hk' hi hst ⟨ks, hS, hc, hm⟩ hR
    have hlt : i < n := by omega
    refine codeAny_builtin F.entry_set_update_loop ?_
    rw [Around.under_plainId F.plain_set_update_loop _]
    show wpAny _ A.in1 (pyNext (.ref I) >>= _) _ _ s
    refine wpAny_bind (W.item i s _ _ hlt hst fun v s' hP hst' mv => ?_)
    obtain ⟨z, t, hz, rfl⟩ := hval i v hP
    have hS' : SetS P w s'.heap S ks := hS.at fun o e => mv.heap S o hSw e
    show wpAny _ A.in1 (holding [Value.str z t] (setAdd S (.str z t)) >>= _) _ _ s'
    refine wpAny_bind (wpAny_holding ?_)
    unfold setAdd
    refine wpAny_holding ?_
    refine wpAny_bind ((strKind P w).pyHash (k := z) (strKind_is _ _ _ _) ?_)
    refine add_txt (s := { s' with toks := s'.toks + 1 }) hS' (by omega) fun h' k2 hsb hS2 hk2 => ?_
    have hc2 : k2.length ≤ i + 1 := by
      rcases hk2 with ⟨_, e⟩ | ⟨_, p⟩
      · rw [e]
        omega
      · rw [p.length_eq, List.length_cons]
        omega
    have hm2 : ∀ x, x ∈ k2 ↔ x ∈ ts.take (i + 1) := fun x => by
      rw [List.take_add_one, hz]
      show _ ↔ x ∈ ts.take i ++ [z]
      rw [List.mem_append, ← hm x, List.mem_singleton]
      rcases hk2 with ⟨hin, e⟩ | ⟨_, p⟩
      · rw [e]
        exact ⟨.inl, fun q => q.elim id fun q => by rw [q]; exact hin⟩
      · rw [p.mem_iff, List.mem_cons]
        exact Or.comm
    refine wpAny_pure ⟨plainId_quiet F.plain_set_update_loop _, ih (i + 1) _ (by omega) hlt (W.frame _ s' _ _ hst' (Nat.le_succ _) fun b hb o e => ?_) ⟨k2, hS2, hc2, hm2⟩ fun s'' mv'' hS'' => ?_⟩
    · rw [hsb.2 b (fun h : b = S => hSf (by rw [← h]; exact hb))]; exact e
    · refine hR s'' (Moved.trans W.gtrans ((mv.mono hsub).then_heap (Nat.le_succ _) fun b o hb e => ?_) mv'') hS''
      exact (hsb.2 b (fun h : b = S => hb (by rw [h]; exact List.mem_cons_self))).trans e
end
/-- the set of texts at a, as tracked -/
def SetSO (P : Program) (w : World) (a : Addr) (ks : List Str) : HO := .ext fun h => SetS P w h a ks
theorem setSO_new {w : World} {P : Program} {H : Hp} {h : Heap} {a : Addr} {ks : List Str} (R : SetS P w h a ks) : ObjOk P w H h a (SetSO P w a ks) := by
  have ⟨o, _, _, _, ho, _⟩ := R
  exact ⟨R, ⟨o, ho⟩, fun h1 h2 p k => SetS.at p k⟩
section
variable {P : Program} {w : World} {A : Around} {E : Value → Shared → Prop} {s : Shared} {a : Addr} {ks : List Str}
theorem vals_txt {es : List (Int × Value)} (h : Paired (TxtE P w) es ks) : Paired (fun (v : Value) (x : Str) => ∃ tk, v = Value.str x tk) (es.map (·.2)) ks := by
  induction h with
  | nil => exact .nil
  | cons r _ ih =>
    obtain ⟨tk, h1, _⟩ := r
    exact .cons ⟨tk, h1⟩ ih
theorem strs_txt {vs : List Value} {ks : List Str} (h : Paired (fun (v : Value) (x : Str) => ∃ tk, v = Value.str x tk) vs ks) : StrsAre vs ks := by
  induction h with
  | nil => exact .nil
  | cons r _ ih =>
    obtain ⟨tk, rfl⟩ := r
    exact .cons _ _ ih
theorem sorted_txt {Q : Value → Shared → Prop} (R : SetS P w s.heap a ks) (hh : A.handled = none) (h64 : ks.length < 64)
    (hQ : ∀ s' p (out : Array Value) (c : Nat) (ys : List Str), (∀ b o, s.heap.get? b = some o → s'.heap.get? b = some o) → s'.gens = s.gens → s'.os = s.os → s.heap.objs.size ≤ p →
      s'.heap.get? p = some (seqObj "list" out c) → StrsAre out.toList ys → ys.Perm ks → sortedS ys = true → Q (.ref p) s') :
    wpAny (model P w) A (call (.builtin "sorted") [.ref a]) Q E s := by
  obtain ⟨o, es, ep, t, ho, hex, hd, pr, nd, hb, hf, hr, hl⟩ := R
  refine Calls.call_function_entry kind_sorted plain_sorted entry_sorted (args_sorted1 _) ?_
  unfold Builtin.«sorted»
  refine wpAny_bind (m := checkCount "sorted" 1 1 _) (wpAny_pure ?_)
  refine wpAny_bind (collect_set (A := A.in1) hh ⟨o, ho, hex.1, hd⟩ hf hb hr hl fun s1 vs k1 hz g1 o1 pm => ?_)
  obtain ⟨k2, p2, q2⟩ := perm_along pm (vals_txt pr)
  have hS := strs_txt q2
  have hvl : vs.length = ks.length := by rw [Paired.length q2, p2.length_eq]
  refine wpAny_bind (wpAny_newList ?_ (by rw [hvl, sizeLine_eq]; omega))
  have hoL : (s1.heap.push (seqObj "list" vs.toArray 0)).get? s1.heap.objs.size = some (seqObj "list" vs.toArray 0) := Heap.get?_push_size _ rfl
  refine wpAny_bind (wpAny_holding (wpAny_call_entry PyProof.Rows.slot_list_sort ⟨_, hoL, rfl⟩ PyProof.Rows.entry_list_sort
    (list_sort_treeK strKind_oneLt hoL hS.keysOf (fun v₁ v₂ rest e => keyKind_strs (by rw [← e]; exact hS)) (by rw [hvl]; exact h64) fun st' hp hs => ⟨_, rfl, ?_⟩)
    (PyProof.Rows.args_list_sort _)))
  obtain ⟨ys, h1, h2, h3⟩ := sorted_out_str hS hp hs
  obtain ⟨c, hc⟩ := PyProof.Rows.sortedHeap_at (vs := vs) (out := (arrOf st').map (·.2)) hoL
  refine wpAny_pure ⟨_, rfl, hQ _ s1.heap.objs.size _ c ys (fun b u e => ?_) g1 o1 hz hc h1 (h2.trans p2) h3⟩
  have q := k1 b u e
  have hlt := Heap.lt_size q
  show (sortedHeap (s1.heap.push (seqObj "list" vs.toArray 0)) s1.heap.objs.size vs _).get? b = some u
  rw [sortedHeap_old (Nat.ne_of_lt hlt) (by rw [size_push']; exact Nat.lt_succ_of_lt hlt)]
  exact Heap.get?_push_of_some _ q
end
section
variable {X : Cx}
/-- sorted(a set of texts), fewer than 64 -/
theorem cr_sortedTx (hc : X.calm = true) : CallR X (.builtin "sorted") (fun vs H Q => ∃ (a : Addr) (ks : List Str), vs = [V.ref a] ∧ H a = some (SetSO X.prog X.w a ks) ∧ ks.length < 64 ∧ ∀ (ys : List Str) (p : Addr), ys.Perm ks → sortedS ys = true → H p = none → Q (.ref p) (upd H p (.lst (ys.map V.str)))) := by
  intro pins s σ H vs us Q I r h
  obtain ⟨a, ks, rfl, ha, h64, q⟩ := h
  have R : SetS X.prog X.w s.heap a ks := (I.hok a _ ha).1
  rw [Vals.ref1 r]
  refine sorted_txt R (I.ok.hd hc) h64 fun s' p out c ys k g o hp hg hi pm hs => ?_
  have hlen : (ys.map V.str).length ≤ sizeLine := by rw [List.length_map, pm.length_eq, sizeLine_eq]; omega
  have hn : H p = none := I.hok.fresh hp
  have J : Inv X pins σ (upd H p (.lst (ys.map V.str))) { s with heap := s'.heap, gens := s'.gens, drawn := s'.drawn, toks := s'.toks } :=
    I.call (ch := []) (Un.laid k hp hn) (I.hok.laid k hp ⟨hlen, out.toList, c, vals_of_strs hi, hg⟩) (by rw [g]; exact I.bare) (fun _ z => nomatch z)
  have e : s' = { s with heap := s'.heap, gens := s'.gens, drawn := s'.drawn, toks := s'.toks } := by
    cases s'
    cases s
    cases o
    rfl
  rw [e]
  exact ⟨.ref p, _, J, rfl, q ys p pm hs hn⟩
end
end TmS

set_option maxHeartbeats 4000000
/-! set(xs), xs a list of texts. -/
namespace TmS
open PySem PySem.Spec PyProof.Rows L2 Tm
section
variable {P : Program} {w : World} {B : Around} {G : Value → Shared → Prop} {z : Shared}
theorem setS_new_at {h : Heap} {a : Addr} (e : h.get? a = some (bareSet w)) : SetS P w h a [] :=
  ⟨_, #[], 0, _, e, ⟨rfl, rfl, rfl⟩, rfl, .nil, .nil, (by decide), (by rfl), List.Pairwise.nil, by
    show _ ∨ (!w.params.followText "set-order") = true
    cases w.params.followText "set-order"
    · exact .inr rfl
    · exact .inl rfl⟩
/-- what set(..) leaves: all members, the old heap kept -/
abbrev FilledS (P : Program) (w : World) (z : Shared) (ts : List Str) (y : Shared) : Prop := ∃ (g : Heap) (n : Nat), y = { z with heap := g, toks := n } ∧ MetS P w g z.heap.objs.size ts ts.length ∧ ∀ b o, z.heap.get? b = some o → g.get? b = some o
theorem str_at {vs : List Value} {xs : List Str} (h : StrsAre vs xs) : ∀ (i : Nat) (v : Value), vs[i]? = some v → ∃ x t, xs[i]? = some x ∧ v = Value.str x t := by
  induction h with
  | nil => intro i v e; simp at e
  | cons x t _ ih =>
    intro i v e
    match i with
    | 0 =>
      rw [List.getElem?_cons_zero] at e
      exact ⟨x, t, List.getElem?_cons_zero, (Option.some.inj e).symm⟩
    | i + 1 =>
      rw [List.getElem?_cons_succ] at e
      obtain ⟨y, u, h1, h2⟩ := ih i v e
      exact ⟨y, u, by rw [List.getElem?_cons_succ]; exact h1, h2⟩
theorem strs_len : ∀ {vs : List Value} {xs : List Str}, StrsAre vs xs → vs.length = xs.length
  | _, _, .nil => rfl
  | _, _, .cons x t r => by rw [List.length_cons, List.length_cons, strs_len r]
/-- the body of set.__init__, one list given -/
theorem init_listS {l : Addr} {us : Array Value} {ns : List Str} (calm : B.handled = none) (lst : z.heap.IsList l us) (num : StrsAre us.toList ns) (few : ns.length + 1 < scanBound) :
    wpAny (model P w) B (Builtin.«set.__init__» ⟨[.ref z.heap.objs.size, .ref l], []⟩) (fun f y => f = .done (.ret .none) ∧ FilledS P w z ns y) G { z with heap := z.heap.push (bareSet w) } := by
  have cnt : us.size = ns.length := (Array.length_toList (xs := us)).symm.trans (strs_len num)
  have new : (z.heap.push (bareSet w)).get? z.heap.objs.size = some (bareSet w) := Heap.get?_push_size _ rfl
  obtain ⟨⟨oc, od, oda, os⟩, old, e1, k, e2⟩ := lst
  dsimp only at e1 e2
  cases e1
  cases e2
  have at1 : (z.heap.push (bareSet w)).get? l = some { cls := .type "list", dict := od, data := .seq us k, slots := os } := Heap.get?_push_of_some _ old
  have is1 : (z.heap.push (bareSet w)).IsList l us := ⟨_, at1, rfl, k, rfl⟩
  have n1 := PySem.F.sub_list_set
  have n2 := PySem.F.sub_list_frozenset
  have n3 : (Value.type "list" == Value.type "dict") = false := by decide
  unfold Builtin.«set.__init__» noKeywords Builtin.Frozenset.updateFrom
  generalize e : pyIter = PI
  wp_walk
  subst e
  refine wpAny_pyIter_list is1 (wpAny_bind (wpAny_runValue ?_))
  have big : (z.heap.push (bareSet w)).objs.size = z.heap.objs.size + 1 := Heap.size_push ..
  have less := Heap.lt_size old
  have ne1 : l ≠ (z.heap.push (bareSet w)).objs.size := Nat.ne_of_lt (big ▸ Nat.lt_succ_of_lt less)
  have ne2 : z.heap.objs.size ≠ (z.heap.push (bareSet w)).objs.size := Nat.ne_of_lt (big ▸ Nat.lt_succ_self _)
  have out : z.heap.objs.size ∉ [(z.heap.push (bareSet w)).objs.size, l] := fun m => by
    rcases List.mem_cons.mp m with x | x
    · exact ne2 x
    · exact Nat.ne_of_gt less (List.mem_singleton.mp x)
  have val : ∀ (i : Nat) (v : Value), us[i]? = some v → ∃ c t, ns[i]? = some c ∧ v = .str c t := fun i v hv => str_at num i v ((Array.getElem?_toList ..).trans hv)
  refine update_txt (Walks.list (by simp [calm]) _ l ne1 us).toS z.heap.objs.size out ns cnt few val us.size 0 _ rfl (Nat.zero_le _) ⟨⟨_, Heap.get?_push_size _ rfl, rfl, rfl⟩, is1.push _⟩ ⟨[], setS_new_at (Heap.get?_push_of_some _ new), Nat.le_refl 0, fun x => by simp⟩ fun y mv hS => ?_
  obtain ⟨g, gs, dr, tk, os2⟩ := y
  have q1 := mv.gens
  have q2 := mv.drawn
  have q3 := mv.os
  dsimp only at q1 q2 q3
  subst q1 q2 q3
  refine wpAny_pure (wpAny_pure ⟨rfl, g, tk, rfl, by rw [← cnt]; exact hS, fun b o e => mv.heap b o (fun m => ?_) (Heap.get?_push_of_some _ (Heap.get?_push_of_some _ e))⟩)
  have lb := Heap.lt_size e
  rcases List.mem_cons.mp m with x | x
  · exact Nat.ne_of_lt lb x
  · exact Nat.ne_of_lt (big ▸ Nat.lt_succ_of_lt lb) (List.mem_singleton.mp x)
/-- the call -/
theorem set_listS {A : Around} {s : Shared} {l : Addr} {us : Array Value} {ns : List Str} {R : Value → Shared → Prop} (calm : A.handled = none) (lst : s.heap.IsList l us) (num : StrsAre us.toList ns) (few : ns.length + 1 < scanBound)
    (end_ : ∀ y, FilledS P w s ns y → R (.ref s.heap.objs.size) y) : wpAny (model P w) A (call (.type "set") [.ref l]) R G s := by
  have C := PySem.F.called_set
  have ⟨m0, m1, mro⟩ := C.mro
  refine wpAny_call (codeAny_of_tree (?_ : wpAny _ _ (callAny (.type "set") _) _ _ _))
  refine wpAny_pure ⟨Code.quiet_builtin _ (by decide +kernel), codeAny_builtin F.entry_type_call ?_⟩
  rw [Around.under_plain (weight_type_call_type "set" [.ref l] []) rfl]
  have c1 := C.made
  have c2 := C.sub
  have c3 := C.notType
  have c4 := C.canCreate
  have c5 := F.typeCall_set_1 (.ref l)
  repeat (any_goals (first | assumption | wp_step))
  refine codeAny_mono (code_set_led1 (.ref l) (E := G) (Q₁ := fun o s1 => o = .ref s.heap.objs.size ∧ s1 = { s with heap := s.heap.push (bareSet w) }) ⟨rfl, rfl⟩) fun r1 s1 h1 => ?_
  match r1, h1 with
  | .ok (.ret _), h1 =>
    obtain ⟨rfl, rfl⟩ := h1
    have new : (s.heap.push (bareSet w)).get? s.heap.objs.size = some (bareSet w) := Heap.get?_push_size _ rfl
    have typ : Shared.TypeIs { s with heap := s.heap.push (bareSet w) } (.ref s.heap.objs.size) "set" := ⟨_, new, rfl⟩
    have i1 := C.init.lookup
    have i2 := C.init.bind (.ref s.heap.objs.size)
    repeat (any_goals (first | assumption | wp_step))
    refine codeAny_mono (codeAny_call_builtin (R := wants (fun r y => r = .none ∧ FilledS P w s ns y) G) C.init.plain F.entry_set_init (check_set_init_1 typ ?_)) fun r2 s2 h2 => ?_
    · exact wpAny_mono (init_listS (by simp [calm]) lst num few) (fun f y q => by obtain ⟨rfl, q⟩ := q; exact ⟨rfl, q⟩) fun _ _ e => e
    · match r2, h2 with
      | .ok (.ret _), h2 =>
        obtain ⟨rfl, q⟩ := h2
        repeat (any_goals (first | assumption | wp_step))
        exact end_ _ q
      | .error _, e => exact e
  | .error _, e => exact e
end
/-- set(a list of texts): its members, in some order -/
def rSetTx (K : PySem.W.Frag) (P : Program) (w : World) : List V → Hp → VK → Prop := fun xs H Q => ∃ (l : Addr) (ns : List Str), xs = [V.ref l] ∧ SqL K H l (ns.map V.str) ∧ ns.length ≤ 1000 ∧
  ∀ p ks, H p = none → ks.Nodup → ks.length ≤ ns.length → (∀ x, x ∈ ks ↔ x ∈ ns) → Q (.ref p) (upd H p (SetSO P w p ks))
theorem cr_setTx {X : Cx} (calm : X.calm = true) : CallR X (.type "set") (rSetTx X.K X.prog X.w) := by
  intro pins s σ H xs us Q I r h
  obtain ⟨l, ns, rfl, hl, few, q⟩ := h
  rw [Vals.ref1 r]
  obtain ⟨its, rv, pl, _⟩ := I.list hl
  refine set_listS (I.ok.hd calm) pl.isList (ns := ns) (strs_of_vals rv) (by show _ < 4096; omega) fun y ⟨g, n, ey, ⟨ks, new, hc, hm⟩, keep⟩ => ?_
  subst ey
  have nd : ks.Nodup := by
    obtain ⟨_, _, _, _, _, _, _, _, nd, _⟩ := id new
    exact nd
  exact ⟨.ref s.heap.objs.size, _, I.laid (t' := n) keep (Nat.le_refl _) (setSO_new new), rfl, q _ ks (I.hok.fresh (Nat.le_refl _)) nd hc hm⟩
end TmS

/-! a table with a row put into it; _law_more. -/
namespace Tm
open PySem PySem.Spec PyProof.Rows L2 TmZ
local macro_rules | `(tactic| walk_at "x") => `(tactic| dsimp only [tNext, tRet, tSeq, tCall, tCB, tC, tCons, tNil, tAsg, tDrop, sFld])
section
variable {K : PySem.W.Frag} {σ : L2.St} {H : Hp} {te : TE} {C : Addr} {E : XK}
theorem KindV.ok {H : Hp} {v : V} {t : Tab} (h : KindV C H v t) : okTab t = true ∧ (namesT t).Nodup ∧ sortedS (namesT t) = true := by
  obtain ⟨_, _, _, _, _, _, _, _, a, b, c⟩ := h
  exact ⟨a, b, c⟩
theorem DictV.ok {H : Hp} {v : V} {t : Tab} (h : DictV H v t) : okTab t = true ∧ (namesT t).Nodup := by
  obtain ⟨_, _, _, _, _, a, b⟩ := h
  exact ⟨b, a⟩
/-- Kind(a dict) -/
theorem ev_mk {t : Tab} (h : Ev te σ H fun v H1 => DictV H1 v t) : Ev (tMake C (sp_init C) [] E (tCons te tNil)) σ H fun v H1 => ∃ t', KindV C H1 v t' ∧ t'.Perm t := fun Q q =>
  h _ fun v H1 e1 hd => by
    obtain ⟨d, kvs, rfl, hd0, ht0, nd, ok⟩ := hd
    exact mk_kind hd0 ht0 ok nd fun v' H' t' e' hk pm => q v' H' (e1.trans e') ⟨t', hk, pm⟩
/-- sorted(a dict): the names of its table, sorted -/
theorem ev_sortD {t t1 : Tab} (h : Ev te σ H fun v H1 => DictV H1 v t) (pm : t1.Perm t) (st : sortedS (namesT t1) = true) : Ev (tCB (fun xs H Q => ∃ (a : Addr) (kvs : List (L2.Key × V)) (ks : List Str), xs = [.ref a] ∧ Rd H a (.dK kvs) ∧ kvs.map (·.1) = ks.map Sum.inr ∧ ks.length < 64 ∧
    ∀ ys p, ys.Perm ks → sortedS ys = true → H p = none → Q (.ref p) (upd H p (.lst (ys.map V.str)))) (tCons te tNil)) σ H fun v H1 => ∃ p, v = .ref p ∧ H p = none ∧ H1 p = some (.lst ((namesT t1).map V.str)) := fun Q q =>
  h _ fun v H1 e1 hd => by
    have f := ok_facts hd.ok.1
    obtain ⟨d, kvs, rfl, hd0, ht0, nd, ok⟩ := hd
    refine ⟨d, kvs, namesT t, rfl, .inl hd0, tabV_keys ht0, by rw [namesT, List.length_map]; omega, fun ys p py sy hp => ?_⟩
    have ey : ys = namesT t1 := sorted_one (py.trans (pm.map (fun e : Str × Row => e.1)).symm) sy st
    subst ey
    exact q _ _ (e1.trans (same_new hp)) ⟨p, rfl, e1.free hp, upd_same⟩
theorem DictV.kl {l : Addr} {H H' : Hp} {d : Addr} {t : Tab} (va : VatV H l) (k : KL l H H') (n : d ≠ l) (h : DictV H (.ref d) t) : DictV H' (.ref d) t := by
  obtain ⟨d2, kvs, e, hd, ht, nd, ok⟩ := h
  cases e
  exact ⟨d, kvs, rfl, k.1 _ _ hd n, ht.mono (KL.tups va k), nd, ok⟩
end
theorem merge_all {κ : Type} [DecidableEq κ] : ∀ (kvs acc : List (κ × V)), ((acc ++ kvs).map (·.1)).Nodup → kvs.foldl (fun acc kv => putK acc kv.1 kv.2) acc = acc ++ kvs
  | [], acc, _ => (List.append_nil acc).symm
  | kv :: r, acc, h => by
    have e : putK acc kv.1 kv.2 = acc ++ [kv] := by
      unfold putK
      have no : (acc.any fun a => decide (a.1 = kv.1)) = false := by
        rw [List.any_eq_false]
        intro a ha
        rw [decide_eq_true_eq]
        rw [List.map_append, List.map_cons, List.nodup_append] at h
        exact h.2.2 _ (List.mem_map.mpr ⟨a, ha, rfl⟩) _ List.mem_cons_self
      rw [no]
      rfl
    rw [List.foldl_cons, e, merge_all r _ (by rw [List.append_assoc]; exact h), List.append_assoc]
    rfl
theorem mergeK_all {kvs : List (L2.Key × V)} (h : (kvs.map (·.1)).Nodup) : mergeK [] kvs = kvs := merge_all kvs [] h
theorem mergeK_snoc {kvs : List (L2.Key × V)} {kv : L2.Key × V} (h : (kvs.map (·.1)).Nodup) : mergeK [] (kvs ++ [kv]) = putK kvs kv.1 kv.2 := by
  unfold mergeK
  rw [List.foldl_append]
  have := mergeK_all h
  unfold mergeK at this
  rw [this]
  rfl
def putT (x : Str) (r : Row) (t : Tab) : Tab := if x ∈ namesT t then t.map (fun e => if e.1 = x then (e.1, r) else e) else t ++ [(x, r)]
theorem tab_any {H : Hp} {kvs : List (L2.Key × V)} {t : Tab} (x : Str) (h : TabV H kvs t) : (kvs.any fun kv => decide (kv.1 = Sum.inr x)) = decide (x ∈ namesT t) := by
  induction h with
  | nil => simp [namesT]
  | @cons kv e kvs t h _ ih =>
    rw [List.any_cons, ih, h.1]
    unfold namesT
    rw [List.map_cons]
    by_cases hx : e.1 = x
    · simp [hx]
    · have h2 : ¬ x = e.1 := fun z => hx z.symm
      simp [hx, h2]
theorem tab_putK {H : Hp} {kvs : List (L2.Key × V)} {t : Tab} {x : Str} {r : Row} {v : V} (h : TabV H kvs t) (hr : RowV H v r) : TabV H (putK kvs (Sum.inr x) v) (putT x r t) := by
  have ea := tab_any x h
  unfold putK putT
  by_cases hx : x ∈ namesT t
  · rw [ea, decide_eq_true hx, if_pos rfl, if_pos hx]
    clear ea hx
    induction h with
    | nil => exact .nil
    | @cons kv e kvs t h _ ih =>
      refine .cons ?_ ih
      dsimp only
      by_cases z : e.1 = x
      · rw [if_pos z, if_pos (by rw [h.1, z])]
        exact ⟨h.1, hr⟩
      · rw [if_neg z, if_neg (fun q => z (Sum.inr.inj (h.1.symm.trans q)))]
        exact h
  · rw [ea, decide_eq_false hx, if_neg (by decide), if_neg hx]
    exact paired_app h ⟨rfl, hr⟩
theorem put_names {x : Str} {r : Row} {t : Tab} : namesT (putT x r t) = if x ∈ namesT t then namesT t else namesT t ++ [x] := by
  unfold putT
  by_cases hx : x ∈ namesT t
  · rw [if_pos hx, if_pos hx]
    unfold namesT
    rw [List.map_map]
    refine List.map_congr_left fun e _ => ?_
    show (if e.1 = x then (e.1, r) else e).1 = e.1
    by_cases z : e.1 = x
    · rw [if_pos z]
    · rw [if_neg z]
  · rw [if_neg hx, if_neg hx]
    unfold namesT
    rw [List.map_append]
    rfl
theorem put_mem {x : Str} {r : Row} {t : Tab} {e : Str × Row} (h : e ∈ putT x r t) : e ∈ t ∨ e = (x, r) := by
  unfold putT at h
  by_cases hx : x ∈ namesT t
  · rw [if_pos hx] at h
    obtain ⟨d, hd, rfl⟩ := List.mem_map.mp h
    by_cases z : d.1 = x
    · rw [if_pos z, z]
      exact .inr rfl
    · rw [if_neg z]
      exact .inl hd
  · rw [if_neg hx] at h
    rcases List.mem_append.mp h with h | h
    · exact .inl h
    · exact .inr (List.mem_singleton.mp h)
/-- what is put stays a table -/
theorem put_ok {x : Str} {r : Row} {t : Tab} (ok : okTab t = true) (nd : (namesT t).Nodup) (hx : okName x = true) (hl : r.length = sizeT t) (hr : ∀ p ∈ r, okPair (sizeT t) p = true) (few : x ∈ namesT t ∨ t.length < 6) : okTab (putT x r t) = true ∧ sizeT (putT x r t) = sizeT t ∧ (namesT (putT x r t)).Nodup := by
  have f := ok_facts ok
  have ln : ∀ u : Tab, u.length = (namesT u).length := fun u => (List.length_map _).symm
  have lp : 1 ≤ (putT x r t).length ∧ (putT x r t).length ≤ 6 := by
    rw [ln, put_names]
    by_cases z : x ∈ namesT t
    · rw [if_pos z, ← ln]
      omega
    · rw [if_neg z, List.length_append, ← ln]
      have := few.resolve_left z
      show 1 ≤ t.length + 1 ∧ t.length + 1 ≤ 6
      omega
  have o := okTab_of (t := putT x r t) lp.1 lp.2 f.2.2.1 f.2.2.2.1 fun e he => by
    rcases put_mem he with he | he
    · exact ⟨f.2.2.2.2 e he, size_of_ok ok e he, fine_ok (fine_of ok he)⟩
    · rw [he]
      exact ⟨hx, hl, hr⟩
  refine ⟨o.1, o.2, ?_⟩
  rw [put_names]
  by_cases z : x ∈ namesT t
  · rw [if_pos z]
    exact nd
  · rw [if_neg z]
    refine List.nodup_append.mpr ⟨nd, List.pairwise_singleton _ _, fun a ha b hb e => z ?_⟩
    rw [List.mem_singleton.mp hb] at e
    rw [← e]
    exact ha
end Tm

/-! _law_more. -/
namespace Tm
open PySem PySem.Spec PyProof.Rows L2 TmZ LiI
local macro_rules | `(tactic| walk_at "x") => `(tactic| dsimp only [tNext, tRet, tSeq, tCall, tCB, tC, tCons, tNil, tAsg, tDrop, sFld])
def moreN : List Str := ["new", "q", "other", "c", "d", "e"]
theorem more_ok : (moreN.all okName) = true ∧ (moreN.all PyData.strOk) = true := by decide +kernel
theorem items_prs {K : PySem.W.Frag} {H H' : Hp} {ts : List Addr} {kvs : List (L2.Key × V)} (e : Same H H') (h : Paired (fun (t : Addr) (q : L2.Key × V) => H t = some (.tup [kV q.1, q.2])) ts kvs) : Paired (fun p kv => SqT K H' p [kV kv.1, kv.2]) ts kvs :=
  Paired.mapP h fun _ _ r => SqT.of (e _ _ r)
section
variable {P : Program} {w : World} {K : PySem.W.Frag} {mg : Str → Option Value} {base : Heap}
end
end Tm

/-! numbers turned; _law_turned. -/
namespace Tm
open PySem PySem.Spec PyProof.Rows L2 TmZ TmE
local macro_rules | `(tactic| walk_at "x") => `(tactic| dsimp only [tNext, tRet, tSeq, tCall, tCB, tC, tCons, tNil, tAsg, tDrop, sFld])
theorem getD_some {ns : List Nat} {i : Nat} (h : i < ns.length) : ns[i]? = some (ns.getD i 0) := by
  rw [List.getD_eq_getElem?_getD, List.getElem?_eq_getElem h]
  rfl
theorem ixN_of {ns : List Nat} (nd : ns.Nodup) {s : Nat} (hs : s < ns.length) : ixN ns (ns.getD s 0) = s := by
  have hm : ns.getD s 0 ∈ ns := by
    rw [List.getD_eq_getElem?_getD, List.getElem?_eq_getElem hs]
    exact List.getElem_mem hs
  obtain ⟨h1, _⟩ := ixN_at hm
  exact nd_ix nd h1 (getD_some hs)
/-- new numbers, all of them -/
structure AllN (n : Nat) (ns : List Nat) : Prop where
  len : ns.length = n
  lt : ∀ k ∈ ns, k < n
  nd : ns.Nodup
  all : ∀ k, k < n → k ∈ ns
theorem AllN.of {n : Nat} {ns : List Nat} (pm : ns.Perm (List.range n)) : AllN n ns :=
  ⟨by rw [pm.length_eq, List.length_range], fun k hk => List.mem_range.mp (pm.mem_iff.mp hk), pm.symm.nodup List.nodup_range, fun k hk => pm.mem_iff.mpr (List.mem_range.mpr hk)⟩
/-- the way back -/
def backN (n : Nat) (ns : List Nat) : List Nat := (List.range n).map (ixN ns)
theorem AllN.ix {n : Nat} {ns : List Nat} (h : AllN n ns) {k : Nat} (hk : k < n) : ns.getD (ixN ns k) 0 = k ∧ ixN ns k < n := by
  obtain ⟨h1, _⟩ := ixN_at (h.all k hk)
  refine ⟨by rw [List.getD_eq_getElem?_getD, h1]; rfl, ?_⟩
  rw [← h.len]
  exact (List.getElem?_eq_some_iff.mp h1).1
theorem AllN.at_ {n : Nat} {ns : List Nat} (h : AllN n ns) {k : Nat} (hk : k < n) : ixN ns (ns.getD k 0) = k ∧ ns.getD k 0 < n := by
  have hl : k < ns.length := by rw [h.len]; exact hk
  refine ⟨ixN_of h.nd hl, ?_⟩
  rw [List.getD_eq_getElem?_getD, List.getElem?_eq_getElem hl]
  exact h.lt _ (List.getElem_mem hl)
theorem back_at {n : Nat} {ns : List Nat} {k : Nat} (hk : k < n) : (backN n ns)[k]? = some (ixN ns k) := by
  unfold backN
  rw [List.getElem?_map, List.getElem?_range hk]
  rfl
theorem back_get {n : Nat} {ns : List Nat} {k : Nat} (hk : k < n) : (backN n ns).getD k 0 = ixN ns k := by
  rw [List.getD_eq_getElem?_getD, back_at hk]
  rfl
theorem AllN.back {n : Nat} {ns : List Nat} (h : AllN n ns) : AllN n (backN n ns) := by
  refine ⟨by unfold backN; rw [List.length_map, List.length_range], fun k hk => ?_, ?_, fun k hk => ?_⟩
  · obtain ⟨j, hj, rfl⟩ := List.mem_map.mp hk
    exact (h.ix (List.mem_range.mp hj)).2
  · unfold backN
    refine List.pairwise_map.mpr (List.Pairwise.imp_of_mem (fun {a b} ha hb ne e => ne ?_) List.nodup_range)
    rw [← (h.ix (List.mem_range.mp ha)).1, ← (h.ix (List.mem_range.mp hb)).1, e]
  · exact List.mem_map.mpr ⟨ns.getD k 0, List.mem_range.mpr (h.at_ hk).2, (h.at_ hk).1⟩
theorem num_gOf {ns : List Nat} {c : Nat} (h : c < ns.length) : numG (gOfN ns) (c : Int) = ((ns.getD c 0 : Nat) : Int) := by
  unfold numG gOfN
  rw [Int.toNat_natCast, List.getElem?_map, getD_some h]
  rfl
theorem AllN.turn {t : Tab} {ns : List Nat} (ok : okTab t = true) (h : AllN (sizeT t) ns) : TurnOk t ns (backN (sizeT t) ns) := by
  refine ⟨h.len, ?_, h.nd, rfl, h.all, fun e he s hs => ?_⟩
  · unfold inAll
    rw [List.all_eq_true]
    exact fun n hn => decide_eq_true (h.lt n hn)
  · obtain ⟨k, hk, rfl⟩ := List.mem_map.mp hs
    have h2 := (h.ix (List.mem_range.mp hk)).2
    obtain ⟨c, c1, c2, c3, c4⟩ := (fine_of ok he).fine _ h2
    refine ⟨h2, ?_, by omega⟩
    rw [c1]
    unfold gOfN
    rw [Int.toNat_natCast, List.getElem?_map, List.getElem?_eq_getElem (by rw [h.len]; exact c2)]
    rfl
theorem AllN.pick {n : Nat} {ns : List Nat} (h : AllN n ns) {r : Row} (f : FineRow n r) {i : Nat} (hi : i < n) : ∃ c : Nat, (pickR r (ixN ns i)).1 = (c : Int) ∧ c < n ∧ pickR (overR (backN n ns) (gOfN ns) r) i = (((ns.getD c 0 : Nat) : Int), (pickR r (ixN ns i)).2) ∧ 0 ≤ (pickR r (ixN ns i)).2 ∧ (pickR r (ixN ns i)).2 ≤ 99 := by
  obtain ⟨c, c1, c2, c3, c4⟩ := f.fine _ (h.ix hi).2
  refine ⟨c, c1, c2, ?_, c3, c4⟩
  rw [pick_over (back_at hi), c1, num_gOf (by rw [h.len]; exact c2)]
theorem AllN.fine {n : Nat} {ns : List Nat} (h : AllN n ns) {r : Row} (f : FineRow n r) : FineRow n (overR (backN n ns) (gOfN ns) r) := by
  refine ⟨by rw [over_len]; exact h.back.len, fun i hi => ?_⟩
  obtain ⟨c, c1, c2, c3, c4, c5⟩ := h.pick f hi
  rw [c3]
  exact ⟨_, rfl, (h.at_ c2).2, c4, c5⟩
theorem AllN.okT {t : Tab} {ns : List Nat} (ok : okTab t = true) (h : AllN (sizeT t) ns) : okTab (overT (backN (sizeT t) ns) (gOfN ns) t) = true ∧ sizeT (overT (backN (sizeT t) ns) (gOfN ns) t) = sizeT t := by
  obtain ⟨t1, t6, ts, ts2, tn⟩ := ok_facts ok
  have e : (overT (backN (sizeT t) ns) (gOfN ns) t).length = t.length := by
    unfold overT
    rw [List.length_map]
  refine okTab_of (by omega) (by omega) ts ts2 fun e he => ?_
  obtain ⟨d, hd, rfl⟩ := List.mem_map.mp he
  have f := h.fine (fine_of ok hd)
  exact ⟨tn d hd, f.len, fine_ok f⟩
/-- there and back -/
theorem AllN.twice {n : Nat} {ns : List Nat} (h : AllN n ns) {r : Row} (f : FineRow n r) : overR (backN n (backN n ns)) (gOfN (backN n ns)) (overR (backN n ns) (gOfN ns) r) = r := by
  refine row_ext (by rw [over_len, h.back.back.len, f.len]) fun i hi => ?_
  rw [over_len, h.back.back.len] at hi
  have ei : ixN (backN n ns) i = ns.getD i 0 := by
    have := (h.back.ix hi)
    rw [back_get this.2] at this
    rw [← this.1, (h.ix this.2).1]
    rw [this.1]
  obtain ⟨c, c1, c2, c3, _⟩ := h.back.pick (h.fine f) hi
  obtain ⟨d, d1, d2, d3, _⟩ := h.pick f (h.at_ hi).2
  rw [ei] at c1 c3
  rw [(h.at_ hi).1] at d1 d3
  rw [d3] at c1 c3
  have ec : c = ns.getD d 0 := (Int.ofNat.inj c1).symm
  rw [c3, ec, back_get (h.at_ d2).2, (h.at_ d2).1, ← d1]
theorem AllN.twiceT {t : Tab} {ns : List Nat} (ok : okTab t = true) (h : AllN (sizeT t) ns) : overT (backN (sizeT t) (backN (sizeT t) ns)) (gOfN (backN (sizeT t) ns)) (overT (backN (sizeT t) ns) (gOfN ns) t) = t := by
  unfold overT
  rw [List.map_map]
  conv => rhs; rw [← List.map_id t]
  refine List.map_congr_left fun e he => ?_
  show (e.1, overR _ _ (overR _ _ e.2)) = e
  rw [h.twice (fine_of ok he)]
theorem paired_set {α β : Type} {F : α → β → Prop} : ∀ {xs : List α} {ys : List β} {x : α} {y : β} (i : Nat), Paired F xs ys → F x y → Paired F (xs.set i x) (ys.set i y)
  | [], [], _, _, _, .nil, _ => by rw [List.set_nil, List.set_nil]; exact .nil
  | _ :: _, _ :: _, _, _, 0, .cons _ t, h => .cons h t
  | _ :: _, _ :: _, _, _, i + 1, .cons r t, h => .cons r (paired_set i t h)
/-- the row behind j turns -/
def rowJ (n : Nat) (ns : List Nat) (r : Row) (j : Nat) : Row := (List.range n).map fun i => if ixN ns i < j then (((ns.getD ((pickR r (ixN ns i)).1.toNat) 0 : Nat) : Int), (pickR r (ixN ns i)).2) else (0, 0)
theorem row_set {n : Nat} {ns : List Nat} {r : Row} {j : Nat} (h : AllN n ns) (hj : j < n) : (rowJ n ns r j).set (ns.getD j 0) (((ns.getD ((pickR r j).1.toNat) 0 : Nat) : Int), (pickR r j).2) = rowJ n ns r (j + 1) := by
  have hlt := (h.at_ hj).2
  refine List.ext_getElem? fun i => ?_
  unfold rowJ
  by_cases hi : i < n
  · by_cases e : ns.getD j 0 = i
    · subst e
      rw [List.getElem?_set_self (by rw [List.length_map, List.length_range]; exact hlt), List.getElem?_map, List.getElem?_range hlt]
      show _ = some _
      dsimp only
      rw [(h.at_ hj).1, if_pos (Nat.lt_succ_self j)]
    · rw [List.getElem?_set_ne e, List.getElem?_map, List.getElem?_map, List.getElem?_range hi]
      have ne : ixN ns i ≠ j := fun z => e (by rw [← z]; exact (h.ix hi).1)
      show some _ = some _
      dsimp only
      by_cases l : ixN ns i < j
      · rw [if_pos l, if_pos (Nat.lt_succ_of_lt l)]
      · rw [if_neg l, if_neg (by omega)]
  · rw [List.getElem?_eq_none (by rw [List.length_set, List.length_map, List.length_range]; omega), List.getElem?_eq_none (by rw [List.length_map, List.length_range]; omega)]
theorem row_none {n : Nat} {ns : List Nat} {r : Row} : rowJ n ns r 0 = List.replicate n ((0 : Int), (0 : Int)) := by
  unfold rowJ
  refine List.ext_getElem (by rw [List.length_map, List.length_range, List.length_replicate]) fun i h1 h2 => ?_
  rw [List.getElem_map, if_neg (Nat.not_lt_zero _), List.getElem_replicate]
theorem row_all {n : Nat} {ns : List Nat} {r : Row} (h : AllN n ns) (f : FineRow n r) : rowJ n ns r n = overR (backN n ns) (gOfN ns) r := by
  refine row_ext (by unfold rowJ; rw [List.length_map, List.length_range, over_len, h.back.len]) fun i hi => ?_
  have hi : i < n := by
    unfold rowJ at hi
    rwa [List.length_map, List.length_range] at hi
  obtain ⟨c, c1, c2, c3, _⟩ := h.pick f hi
  rw [c3]
  show (rowJ n ns r n).getD i (0, 0) = _
  unfold rowJ
  rw [List.getD_eq_getElem?_getD, List.getElem?_map, List.getElem?_range hi]
  show (if ixN ns i < n then _ else _) = _
  rw [if_pos (h.ix hi).2]
  rw [c1, Int.toNat_natCast]
theorem paired_repN {F : V → Int × Int → Prop} {v : V} {p : Int × Int} (h : F v p) : ∀ n : Nat, Paired F (List.replicate n v) (List.replicate n p)
  | 0 => .nil
  | n + 1 => by
    rw [List.replicate_succ, List.replicate_succ]
    exact .cons h (paired_repN h n)
theorem flat_one {v : V} : ∀ n : Nat, (List.replicate n [v]).flatten = List.replicate n v
  | 0 => rfl
  | n + 1 => by rw [List.replicate_succ, List.flatten_cons, flat_one n, List.replicate_succ]; rfl
section
variable {P : Program} {w : World} {K : PySem.W.Frag} {mg : Str → Option Value} {base : Heap}
end
end Tm

/-! sorted(set(a list of texts)). -/
namespace Tm
open PySem PySem.Spec PyProof.Rows L2 TmZ TmS
section
variable {K : PySem.W.Frag} {σ : L2.St} {H : Hp} {te : TE} {P : Program} {w : World}
/-- the same members, no double, sorted: one list -/
theorem tx_one {ys ks zs ts : List Str} (py : ys.Perm ks) (sy : sortedS ys = true) (nk : ks.Nodup) (mk : ∀ x, x ∈ ks ↔ x ∈ ts) (sz : sortedS zs = true) (nz : zs.Nodup) (mz : ∀ x, x ∈ zs ↔ x ∈ ts) : ys = zs :=
  sorted_one (py.trans ((List.perm_ext_iff_of_nodup nk nz).mpr fun x => (mk x).trans (mz x).symm)) sy sz
/-- sorted(set(a list of texts)) -/
theorem ev_sortSet {ts zs : List Str} (h : Ev te σ H fun v H1 => ∃ l, v = .ref l ∧ H1 l = some (.lst (ts.map V.str))) (sz : sortedS zs = true) (nz : zs.Nodup) (mz : ∀ x, x ∈ zs ↔ x ∈ ts) (few : ts.length < 64) :
    Ev (tCB (fun vs H Q => ∃ (a : Addr) (ks : List Str), vs = [V.ref a] ∧ H a = some (SetSO P w a ks) ∧ ks.length < 64 ∧ ∀ (ys : List Str) (p : Addr), ys.Perm ks → sortedS ys = true → H p = none → Q (.ref p) (upd H p (.lst (ys.map V.str))))
      (tCons (tCB (rSetTx K P w) (tCons te tNil)) tNil)) σ H fun v H1 => ∃ p, v = .ref p ∧ H p = none ∧ H1 p = some (.lst (zs.map V.str)) := fun Q q =>
  h _ fun v H1 e1 ⟨l, ev, hl⟩ => by
    subst ev
    refine ⟨l, ts, rfl, .inl (.inl hl), by omega, fun a ks ha nk hk mk => ⟨a, ks, rfl, upd_same, by omega, fun ys p py sy hp => ?_⟩⟩
    have ey : ys = zs := tx_one py sy nk mk sz nz mz
    subst ey
    have e2 : Same H (upd H1 a (SetSO P w a ks)) := e1.trans (same_new ha)
    exact q _ _ (e2.trans (same_new hp)) ⟨p, rfl, e2.free hp, upd_same⟩
end
end Tm

/-! len(set(a list of texts)). -/
namespace Tm
open PySem PySem.Spec PyProof.Rows L2 TmZ TmS
section
variable {X : Cx}
/-- len(a set of texts) -/
theorem call_lenTx : CallR X (.builtin "len") (fun xs H Q => ∃ (a : Addr) (ks : List Str), xs = [V.ref a] ∧ H a = some (SetSO X.prog X.w a ks) ∧ Q (.int (ks.length : Int)) H) := by
  intro pins s σ H xs us Q I r h
  obtain ⟨a, ks, rfl, ha, q⟩ := h
  rw [Vals.ref1 r]
  have R : SetS X.prog X.w s.heap a ks := (I.hok a _ ha).1
  obtain ⟨o, es, ep, t, ho, hex, hd, pr, _, few, hf, _⟩ := R
  have hn : es.size = ks.length := Array.length_toList.symm.trans (Paired.length pr)
  refine call_len_set ho hex hd hf ?_ ⟨.int ks.length, H, I.tok _, ⟨_, by rw [hn]⟩, q⟩
  have : scanBound = 4096 := rfl
  omega
end
section
variable {K : PySem.W.Frag} {σ : L2.St} {H : Hp} {te : TE} {P : Program} {w : World}
theorem full_perm : ∀ (ks ts : List Str), ks.Nodup → (∀ x ∈ ks, x ∈ ts) → ts.length ≤ ks.length → ks.Perm ts
  | [], ts, _, _, h => by
    have e : ts = [] := List.eq_nil_of_length_eq_zero (Nat.le_zero.mp h)
    rw [e]
  | k :: r, ts, nk, hs, h => by
    have hk : k ∈ ts := hs k List.mem_cons_self
    obtain ⟨n1, n2⟩ := List.nodup_cons.mp nk
    have p := List.perm_cons_erase hk
    have l := p.length_eq
    rw [List.length_cons] at l h
    have q := full_perm r (ts.erase k) n2 (fun x hx => by
      have hne : x ≠ k := fun e => n1 (e ▸ hx)
      exact (List.mem_erase_of_ne hne).mpr (hs x (List.mem_cons_of_mem _ hx))) (by omega)
    exact (q.cons k).trans p.symm
theorem len_dup {ks ts : List Str} (nk : ks.Nodup) (mk : ∀ x, x ∈ ks ↔ x ∈ ts) (hl : ks.length ≤ ts.length) : decide ((ks.length : Int) < (ts.length : Int)) = !decide ts.Nodup := by
  by_cases nt : ts.Nodup
  · have p : ks.Perm ts := (List.perm_ext_iff_of_nodup nk nt).mpr mk
    have e := p.length_eq
    rw [decide_eq_true nt, decide_eq_false (by omega)]
    rfl
  · have hlt : ks.length < ts.length := by
      rcases Nat.lt_or_ge ks.length ts.length with z | z
      · exact z
      · exfalso
        apply nt
        exact (full_perm ks ts nk (fun x h => (mk x).mp h) z).nodup_iff.mp nk
    rw [decide_eq_false nt, decide_eq_true (by omega)]
    rfl
/-- len(set(a list of texts)): less than the list's exactly if the list has a double -/
theorem ev_lenSet {ts : List Str} (h : Ev te σ H fun v H1 => ∃ l, v = .ref l ∧ H1 l = some (.lst (ts.map V.str))) (few : ts.length ≤ 1000) :
    Ev (tCB (fun xs H Q => ∃ (a : Addr) (ks : List Str), xs = [V.ref a] ∧ H a = some (SetSO P w a ks) ∧ Q (.int (ks.length : Int)) H) (tCons (tCB (rSetTx K P w) (tCons te tNil)) tNil)) σ H fun v _ => ∃ n : Nat, v = .int (n : Int) ∧ decide ((n : Int) < (ts.length : Int)) = !decide ts.Nodup := fun Q q =>
  h _ fun v H1 e1 ⟨l, ev, hl⟩ => by
    subst ev
    refine ⟨l, ts, rfl, .inl (.inl hl), few, fun a ks ha nk hk mk => ⟨a, ks, rfl, upd_same, ?_⟩⟩
    have e2 : Same H (upd H1 a (SetSO P w a ks)) := e1.trans (same_new ha)
    exact q _ _ e2 ⟨ks.length, rfl, len_dup nk mk hk⟩
end
end Tm

/-! {a text for key in a locked dict}, texts that may meet. -/
namespace Tm
open PySem PySem.Spec PyProof.Rows L2 TmZ
theorem nodup_snoc {α : Type} {l : List α} {x : α} : (l ++ [x]).Nodup ↔ l.Nodup ∧ x ∉ l := by
  rw [List.nodup_append]
  constructor
  · exact fun ⟨a, _, c⟩ => ⟨a, fun h => c x h x (List.mem_singleton.mpr rfl) rfl⟩
  · exact fun ⟨a, c⟩ => ⟨a, by simp, fun y hy z hz e => c (by rw [← List.mem_singleton.mp hz, ← e]; exact hy)⟩
theorem sck_keysN {P : Program} {w : World} {σ : L2.St} {H : Hp} {Q : VK} {j : Nat} {te td : TE} {vs : List Nat} {d : Addr} {o : Obj} {kvs : List (L2.Key × V)} {ns : List Str} {f : Str → Str} (hd : Ev td σ H fun v _ => v = .ref d) (hf : H d = some (.frz o (.dK kvs))) (hk : kvs.map (·.1) = ns.map Sum.inr)
    (few : ns.length ≤ 1000) (hw : ∀ x, wipe ((wipe σ vs).set j (some x)) vs = wipe σ vs) (he : ∀ x H', x ∈ ns → Same H H' → Ev te ((wipe σ vs).set j (some (.str x))) H' fun v _ => v = .str (f x))
    (hq : ∀ p H1 S n, Same H H1 → (n = ns.length ↔ (ns.map f).Nodup) → H1 p = some (SetK P w p S n) → Q (.ref p) H1) : tSck P w (iKeys td) (gName j) tYes te vs σ H Q := by
  refine hd _ fun v H1 e ev => ⟨d, o, ev, .inl ⟨kvs, e _ _ hf, fun D hD => ?_⟩⟩
  have hlen : kvs.length = ns.length := by
    have := congrArg List.length hk
    rwa [List.length_map, List.length_map] at this
  have wk := walk_keys (d := d) (o := o) (kvs := kvs)
  refine ⟨fun i m H' => m = ns.length - i ∧ i ≤ ns.length ∧ Same H1 H' ∧ ∃ S n, H' D = some (SetK P w D S n) ∧ (∀ k, S k = true ↔ k ∈ (ns.take i).map fun x => Sum.inr (f x)) ∧ n ≤ i ∧ (n = i ↔ ((ns.take i).map f).Nodup), ⟨ns.length, by simp, Nat.zero_le _, same_new hD, fun _ => false, 0, upd_same, by simp, Nat.le_refl 0, by simp⟩, ?_⟩
  rintro i m H' ⟨rfl, hi, e2, S, n, hS, hm, hn, hd2⟩
  have hf' := e2 _ _ (e _ _ hf)
  by_cases hlt : i < ns.length
  · refine .inr ⟨wk.goes i H' (by omega) hf', _, fun H2 p => p, fun x H2 y => ?_⟩
    obtain ⟨eH, k, v, hkv, rfl⟩ := wk.yields i H' x H2 (by omega) hf' y
    rw [eH]
    have hz : ns[i]? = some ns[i] := List.getElem?_eq_getElem hlt
    have ek : k = Sum.inr ns[i] := by
      have h1 : (kvs.map (·.1))[i]? = some k := by rw [List.getElem?_map, hkv]; rfl
      rw [hk, List.getElem?_map, hz] at h1
      exact (Option.some.inj h1).symm
    subst ek
    refine ⟨hw _, ?_⟩
    dsimp only [tYes]
    rw [if_pos rfl]
    refine he ns[i] H' (List.getElem_mem hlt) (e.trans e2) _ fun y H3 e3 ey => ?_
    have hin : S (Sum.inr (f ns[i])) = true ↔ f ns[i] ∈ (ns.take i).map f := by
      rw [hm, List.mem_map, List.mem_map]
      exact ⟨fun ⟨z, a, b⟩ => ⟨z, a, Sum.inr.inj b⟩, fun ⟨z, a, b⟩ => ⟨z, a, congrArg Sum.inr b⟩⟩
    refine ⟨Sum.inr (f ns[i]), S, n, ey, e3 _ _ hS, by show n + 1 < 4096; omega, ns.length - (i + 1), by omega, rfl, hlt, same_mut (e2.trans e3) hD, moreK S (Sum.inr (f ns[i])), _, upd_same, fun k => ?_, ?_, ?_⟩
    · rw [take_one hz, List.map_append, List.mem_append, ← hm k]
      unfold moreK
      simp
    · split <;> omega
    · rw [take_one hz, List.map_append]
      show _ ↔ ((ns.take i).map f ++ [f ns[i]]).Nodup
      rw [nodup_snoc, ← hd2, ← hin]
      split
      · rename_i h
        exact ⟨fun z => by omega, fun z => absurd h z.2⟩
      · rename_i h
        exact ⟨fun z => ⟨by omega, h⟩, fun z => by omega⟩
  · have ei : i = ns.length := by omega
    subst ei
    rw [List.take_length] at hd2
    exact .inl ⟨by rw [← hlen]; exact wk.stops H' hf', hq D H' S n (e.trans e2) hd2 hS⟩
end Tm

/-! Kind._is_renaming, whatever the names are. -/
namespace Tm
open PySem PySem.Spec PyProof.Rows L2
local macro_rules | `(tactic| walk_at "x") => `(tactic| dsimp only [tNext, tRet, tSeq, tCall, tCB, tC, tCons, tNil, tAsg, tDrop, sFld])
section
variable {P : Program} {w : World} {K : PySem.W.Frag} {mg : Str → Option Value} {base : Heap} {C : Addr}
def sp_isrenB (C : Addr) : Sp := fun vs H Q _ => ∃ (v : V) (t : Tab) (d : Addr) (ns : Nms), vs = [v, .ref d] ∧ KindV C H v t ∧ NmV H d ns ∧ (∀ e ∈ ns, e.1 ∈ namesT t ∧ okName e.2 = true) ∧ (ns.map (·.1)).Nodup ∧ ns.length ≤ 100 ∧ ∀ H', Same H H' → Q (.bl (decide ((namesT t).map (ren ns)).Nodup)) H'
theorem ok_isrenB (B : Bt mg) (T : Kc K C) (O_is_name : Ok P w K mg base "is_name" 1 ["value"] sp_name) (O_in : OkIn P w K mg base C 1 ["self", "x"] (sp_cont C)) (D : DfM K C "_is_renaming" "Kind._is_renaming" s_isren ["self", "names"]) : OkM P w K mg base C "_is_renaming" 3 ["self", "names"] (sp_isrenB C) := by
  refine D.ok sc_is_renaming (fun vs H Q E h => ?_) (fun f cdv A outer s H vs Q E hr h => ?_)
  · obtain ⟨v, t, d, ns, rfl, _⟩ := h
    rfl
  · obtain ⟨v, t, dn, ns, rfl, hk, hn, good, ndk, fewn, q⟩ := h
    obtain ⟨a, dx, d, kvs, rfl, ha, hd, ht, hok, nd, hst⟩ := id hk
    obtain ⟨kvn, hdn, hpn⟩ := id hn
    have hu := hu_of hr
    refine ⟨_, pss_cons (ps_if (pt_not (pt_val (pe_callB (isiK (K := K)) (by rfl) B.isinstance (by decide +kernel) (pa_cons (pv 1) (pa_cons (pe_ty (n := "dict") (by rfl) B.dict (by decide +kernel)) (pa_nil))))))
        (pss_one (ps_ret (pe_bl)))
        (pss_nil))
      (pss_cons (ps_if (pt_not (pt_val (pe_callB (allK (K := K)) (by rfl) B.all (by decide +kernel) (pa_cons (pe_lock (pe_lc (own := [("name", 2)]) (g := gName 2) (tt := tYes) rfl sc_is_renaming.nd (pi_keys (pv 1)) (blkOk_by (own := [("name", 2)]) (N := ["self", "names", "name"]) (sc := defScope s_isren) (by decide +kernel)) (fun _ _ _ _ _ => pg_name (i := 2) sc_is_renaming.nd rfl (.inl rfl)) (fun _ _ _ _ _ => pts_nil) (fun _ _ _ _ _ => pe_and (pe_cmpR (O_in.isIn hr) (pv 2) (pv 0) rfl) (pe_one (O_is_name.call hr (ha := pa_cons (pe_dget hu (pv 1) (pv 2) (fun _ _ => rfl)) (pa_nil))))))) (pa_nil)))))
        (pss_one (ps_ret (pe_bl)))
        (pss_nil))
      (pss_one (ps_ret (pe_cmpR op_eq (pe_callB call_lenK (by rfl) B.len (by decide +kernel) (pa_cons (pe_lock (pe_sck (own := [("name", 2)]) (g := gName 2) (tt := tYes) rfl sc_is_renaming.nd (pi_keys (pe_fld (pv 0) rfl)) (blkOk_by (own := [("name", 2)]) (N := ["self", "names", "name"]) (sc := defScope s_isren) (by decide +kernel)) (fun _ _ _ _ _ => pg_name (i := 2) sc_is_renaming.nd rfl (.inl rfl)) (fun _ _ _ _ _ => pts_nil) (fun _ _ _ _ _ => pe_dget2 hu (pv 1) (pv 2) (pv 2) ⟨rfl, rfl, rfl, rfl⟩))) (pa_nil))) (pe_callB call_lenD (by rfl) B.len (by decide +kernel) (pa_cons (pe_fld (pv 0) rfl) (pa_nil))) (nomark _))))), ?_⟩
    have hlk : kvs.map (·.1) = (namesT t).map Sum.inr := tabV_keys ht
    have hlen : kvs.length = (namesT t).length := by
      have := congrArg List.length hlk
      rwa [List.length_map, List.length_map] at this
    have few := few_tab hok
    have fewt : (namesT t).length ≤ 6 := by
      unfold namesT
      rw [List.length_map]
      unfold okTab at hok
      simp only [Bool.and_eq_true, decide_eq_true_eq] at hok
      exact hok.1.1.1.2
    have ndd : dn ≠ d := fun z => by
      rw [z, hd] at hdn
      cases hdn
      cases hpn with
      | nil =>
        cases ht
        exact absurd rfl (tab_pos hok)
      | cons h1 _ =>
        cases ht with
        | cons g1 _ =>
          obtain ⟨_, b, rs, eb, _⟩ := g1
          rw [h1.2] at eb
          cases eb
    refine ⟨_, rfl, .ref dn, .ty "dict", _, _, true, rfl, .ty "dict", .base (.dK hdn), kit_ty (by decide +kernel), _, rfl, ?_⟩
    refine ifF rfl ?_
    dsimp only [tNext]
    dsimp only [tSeq, tIfS, tNot, tB, tCB, tCons, tNil]
    refine ⟨dn, .dK kvn, hdn, trivial, fun od => ?_⟩
    have tu : TupS H (upd H dn (.frz od (.dK kvn))) := lock_in hdn (fun xs z => by cases z)
    have hkl : KindV C (upd H dn (.frz od (.dK kvn))) (.ref a) t := ⟨a, dx, d, kvs, rfl, by rw [upd_ne (fun z => by rw [z, hdn] at ha; cases ha)]; exact ha, by rw [upd_ne ndd.symm]; exact hd, ht.mono tu, hok, nd, hst⟩
    refine lc_runK (o := od) (kvs := kvn) (ev_is rfl rfl) upd_same ns (Paired.length hpn).symm (fun _ => true) (fun z v _ => v = V.bl true) (by omega) (by intro _; rfl) (fun _ _ _ _ _ h => h) (fun i z kv H2 hz hkv e => ⟨evt_yes, fun _ H3 e3 Q q => ?_⟩) (fun p2 H2 ys hp2 e2 hl' hP => ?_)
    · obtain ⟨z', hz', hk1, hk2⟩ := paired_ix2 hpn hkv
      obtain rfl : z' = z := by rw [hz] at hz'; exact (Option.some.inj hz').symm
      have hm := List.mem_of_getElem? hz
      have e13 := e.trans e3
      have hk3 := hkl.keep e13
      obtain ⟨a', dx', d', kvs', ea, ha3, _⟩ := id hk3
      cases ea
      have hg : DGet H3 dn (.str z'.1) (some (.str z'.2)) := .inl ⟨kvn, Sum.inr z'.1, .inr ⟨_, e13 _ _ upd_same⟩, rfl, by rw [look_nm _ hpn, look_mem hm ndk]; rfl⟩
      rw [hk1]
      refine ⟨_, rfl, _, rfl, a, dx', _, rfl, ha3, .ref a, t, z'.1, rfl, hk3, _, rfl, true, by rw [decide_eq_true (good z' hm).1]; rfl, ?_⟩
      rw [if_pos rfl]
      exact ⟨_, rfl, _, rfl, dn, _, rfl, hg, z'.2, rfl, (good z' hm).2, fun H4 e4 => q _ _ e4 rfl⟩
    · rw [filter_all] at hP
      have ep : ys = (ns.map fun _ => true).map V.bl := by rw [paired_fun hP, List.map_map]; rfl
      have h1 : H2 dn = some (.frz od (.dK kvn)) := e2 _ _ upd_same
      have e3 := lock_out hdn e2
      have hp3 : (upd H2 dn (.dK kvn)) p2 = some (.lst ys) := by
        rw [upd_ne (fun z => by rw [z, h1] at hl'; cases hl')]
        exact hl'
      refine ⟨h1, p2, ns.map fun _ => true, rfl, SqL.of (by rw [← ep]; exact hp3), _, rfl, ?_⟩
      refine ifF (by simp) ?_
      generalize upd H2 dn (.dK kvn) = H3 at e3
      dsimp only [tNext]
      dsimp only [tRet, tOp, tCB, tCons, tNil]
      refine ⟨d, .dK kvs, e3 _ _ hd, trivial, fun od2 => ?_⟩
      have tu2 : TupS H3 (upd H3 d (.frz od2 (.dK kvs))) := lock_in (e3 _ _ hd) (fun xs z => by cases z)
      refine sck_keysN (o := od2) (kvs := kvs) (ns := namesT t) (f := ren ns) (fun Q q => ⟨_, rfl, a, C, dx, _, _, rfl, lock_ins (e3 _ _ ha) (e3 _ _ hd), T.cl, T.nT, kf_T _ _, q _ _ (Same.refl _) rfl⟩) upd_same hlk (by omega) (by intro _; rfl) (fun x H4 hx e4 Q q => ?_) (fun p4 H4 S n4 e4 hn4 hp4 => ?_)
      · have hdn4 := e4 _ _ (show (upd H3 d (.frz od2 (.dK kvs))) dn = some (.dK kvn) by rw [upd_ne ndd]; exact e3 _ _ hdn)
        refine ⟨_, rfl, dn, rfl, .inl ⟨_, .inl hdn4⟩, _, rfl, _, rfl, _, DGet.k (k := Sum.inr x) hdn4, q _ _ (Same.refl _) ?_⟩
        rw [look_nm _ hpn]
        unfold ren
        cases lookN ns x <;> rfl
      · have h4 : H4 d = some (.frz od2 (.dK kvs)) := e4 _ _ upd_same
        have e5 := lock_out (e3 _ _ hd) e4
        refine ⟨h4, p4, S, _, rfl, by rw [upd_ne (fun z => by rw [z, h4] at hp4; cases hp4)]; exact hp4, ?_⟩
        refine ⟨_, rfl, a, C, dx, _, _, rfl, e5 _ _ (e3 _ _ ha), T.cl, T.nT, kf_T _ _, d, kvs, rfl, e5 _ _ (e3 _ _ hd), rfl, ?_⟩
        have ed : decide (V.int (n4 : Int) = V.int (kvs.length : Int)) = decide ((namesT t).map (ren ns)).Nodup := by
          rw [decide_eq_decide, ← hn4, hlen]
          exact ⟨fun z => by injection z with z; omega, fun z => by rw [z]⟩
        rw [ed]
        exact q _ (e3.trans e5)
end
end Tm

/-! Kind.renamed, whatever the names are, where they keep all names different. -/
namespace Tm
open PySem PySem.Spec PyProof.Rows L2
local macro_rules | `(tactic| walk_at "x") => `(tactic| dsimp only [tNext, tRet, tSeq, tCall, tCB, tC, tCons, tNil, tAsg, tDrop, sFld])
section
variable {P : Program} {w : World} {K : PySem.W.Frag} {mg : Str → Option Value} {base : Heap} {C : Addr}
def sp_renamedB (C : Addr) : Sp := fun vs H Q _ => ∃ (v : V) (t : Tab) (d : Addr) (ns : Nms), vs = [v, .ref d] ∧ KindV C H v t ∧ NmV H d ns ∧ (∀ e ∈ ns, e.1 ∈ namesT t ∧ okName e.2 = true) ∧ (ns.map (·.1)).Nodup ∧ ns.length ≤ 100 ∧ sp_kind C (renT ns t) H Q
theorem ok_renamedB (B : Bt mg) (T : Kc K C) (OC_Kind : OkC P w K mg base "Kind" C 5 ["self", "operations"] (sp_init C)) (OM_is_renaming : OkM P w K mg base C "_is_renaming" 3 ["self", "names"] (sp_isrenB C)) (D : DfM K C "renamed" "Kind.renamed" s_renamed ["self", "names"]) : OkM P w K mg base C "renamed" 7 ["self", "names"] (sp_renamedB C) := by
  refine D.ok sc_renamed (fun vs H Q E h => ?_) (fun f cdv A outer s H vs Q E hr h => ?_)
  · obtain ⟨v, t, d, ns, rfl, _⟩ := h
    rfl
  · obtain ⟨v, t, dn, ns, rfl, hk, hn, good, ndk, fewn, ok2, nd2, q⟩ := h
    have hu := hu_of hr
    have ndr : ((namesT t).map (ren ns)).Nodup := by
      have : namesT (renT ns t) = (namesT t).map (ren ns) := by
        unfold namesT renT
        rw [List.map_map, List.map_map]
        rfl
      rw [← this]
      exact nd2
    refine ⟨_, pss_cons (ps_if (pt_not (pt_val (OM_is_renaming.call hr T.cl (he := pv 0) (ha := pa_cons (pv 1) (pa_nil)))))
        (pss_one (ps_never))
        (pss_nil))
      (pss_one (ps_ret (OC_Kind.make hr (ha := pa_cons (pe_lock (pe_dc (own := [("name", 2), ("row", 3)]) (g := gTup K 2 (gCons (gName 2) (gCons (gName 3) (gNil)))) (tt := tYes) rfl sc_renamed.nd (pi_items (pe_fld (pv 0) rfl)) (blkOk_by (own := [("name", 2), ("row", 3)]) (N := ["self", "names", "name", "row"]) (sc := defScope s_renamed) (by decide +kernel)) (fun _ _ _ _ _ => pg_tup (by rfl) (pgs_cons (pg_name (i := 2) sc_renamed.nd rfl (.inl rfl)) (pgs_cons (pg_name (i := 3) sc_renamed.nd rfl (.inl rfl)) (pgs_nil)))) (fun _ _ _ _ _ => pts_nil) (fun _ _ _ _ _ => pe_dget2 hu (pv 1) (pv 2) (pv 2) ⟨rfl, rfl, rfl, rfl⟩) (fun _ _ _ _ _ => pv 3))) (pa_nil))))), ?_⟩
    obtain ⟨a, dx, d, kvs, rfl, ha, hd, ht, hok, nd, hst⟩ := id hk
    refine ⟨_, rfl, a, dx, _, rfl, ha, kf_no _ _, _, rfl, _, t, dn, ns, rfl, hk, hn, good, ndk, fewn, fun H1 e1 => ⟨_, rfl, ?_⟩⟩
    refine ifF (by rw [decide_eq_true ndr]; rfl) ?_
    obtain ⟨kvn, hdn, hpn⟩ := hn
    have ndd : dn ≠ d := fun z => by
      rw [z, hd] at hdn
      cases hdn
      cases hpn with
      | nil =>
        cases ht
        exact absurd rfl (tab_pos hok)
      | cons h1 _ =>
        cases ht with
        | cons g1 _ =>
          obtain ⟨_, b, rs, eb, _⟩ := g1
          rw [h1.2] at eb
          cases eb
    have ha1 := e1 _ _ ha
    have hd1 := e1 _ _ hd
    have ht1 := ht.mono (tups_of e1)
    dsimp only [tNext]
    dsimp only [tRet, tMake, tCons, tNil]
    refine ⟨d, .dK kvs, hd1, trivial, fun od => ?_⟩
    have tu : TupS H1 (upd H1 d (.frz od (.dK kvs))) := lock_in hd1 (fun xs z => by cases z)
    refine dc_tabI (K := K) (o := od) (kvs := kvs) (fun Q q => ?_) upd_same (ht1.mono tu) (few_tab hok) (fun _ => true) (fun e => ren ns e.1) (fun e => e.2) (by
      have : t.map (fun e => ren ns e.1) = (namesT t).map (ren ns) := by
        unfold namesT
        rw [List.map_map]
        rfl
      rw [this]
      exact ndr) (by intro _ _; rfl) (fun e v H2 he e2 hv => ⟨evt_yes, fun _ Q q => ?_, fun _ => ev_is rfl hv⟩) (fun p H2 kvs' e2 hp ht2 => ?_)
    · exact ⟨_, rfl, a, C, dx, _, _, rfl, lock_ins ha1 hd1, T.cl, T.nT, kf_T _ _, q _ _ (Same.refl _) rfl⟩
    · have hdn2 := e2 _ _ (show (upd H1 d (.frz od (.dK kvs))) dn = some (.dK kvn) by rw [upd_ne ndd]; exact e1 _ _ hdn)
      refine ⟨_, rfl, dn, rfl, .inl ⟨_, .inl hdn2⟩, _, rfl, _, rfl, _, DGet.k (k := Sum.inr e.1) hdn2, q _ _ (Same.refl _) ?_⟩
      rw [look_nm _ hpn]
      unfold ren
      cases lookN ns e.1 <;> rfl
    · obtain ⟨h1, e3, h3, h4⟩ := unlock hd1 e2 hp ht2
      rw [filter_all] at h4
      exact ⟨h1, mk_kind (Q := Q) (t := renT ns t) h3 h4 ok2 nd2 fun v' H' t' e' hk' pm => q v' H' t' (e1.trans (e3.trans e')) hk' pm⟩
end
end Tm

set_option maxHeartbeats 2000000
/-! Methods that may raise (OkMX). -/
namespace Tm
open PySem PySem.Spec PyProof.Rows L2
/-- a method that may raise -/
structure OkMX (P : Program) (w : World) (K : PySem.W.Frag) (mg : Str → Option Value) (base : Heap) (C : Addr) (m : Str) (k : Nat) (ps : List Str) (sp : Sp) : Prop where
  ex : ∃ (f : Addr) (fd : FuncData), Meth K C m f ∧ FnOk P w K mg base (L2.CX P w) k f fd ps sp ∧ Binds K fd ps []
section
variable {P : Program} {w : World} {K : PySem.W.Frag} {mg : Str → Option Value} {base : Heap} {C : Addr}
theorem DfM.okX {m q : Str} {st : Stmt} {ps N : List Str} {k : Nat} {sp : Sp} (D : DfM K C m q st ps) (S : FnScope N ps (defScope st)) (len : ∀ vs H Q E, sp vs H Q E → vs.length = ps.length)
    (hb : ∀ (f : Addr) (cdv : Value) (A : Around) (outer : List Env) (s : Shared) (H : Hp) (vs : List V) (Q : VK) (E : XK), Room k (A.deeper (envOfC q (defScope st) s.heap.objs.size f cdv)) → sp vs H Q E →
      ∃ t, PSs (cxOf (L2.CX P w) P w K mg base N q (defScope st) f cdv A outer s H E) (defBody st) t ∧ t { nx := fun _ H' => Q .non H', rt := Q } (start N vs) H) : OkMX P w K mg base C m (k + 1) ps sp := by
  obtain ⟨f, fd, h1, h2, h3⟩ := D.ex
  exact ⟨f, fd, h1, h2.okX S len (fun cdv A outer s H vs Q E hr h => hb f cdv A outer s H vs Q E hr h), h3⟩
end
section
variable {X : Cx} {m : Str} {k j : Nat} {C : Addr} {ps : List Str} {sp : Sp} {o e : Expr} {es : List Expr} {ta : TE} {t : TA} {apos pos : Pos} {E : XK} {W : WX}
/-- its call where what is raised is taken -/
theorem OkMX.call {pl : Sem Bool} (O : OkMX X.prog X.w X.K X.mg X.base C m k ps sp) (tk : Takes X W) (hW : ∀ cls d σ H, E cls d H → W cls d σ H) (hr : Room j X.A) (c : Cls X.K C) (hk : k ≤ j := by decide) (he : PE X o ta) (ha : PA X (e :: es) t)
    (hst : starEach (e :: es) X.env = (false, eval e X.env) :: starEach es X.env := by rfl) (hpl : (backTo pos (starEach es X.env)).any (·.1) = false := by rfl)
    (ht : eval (.Call (.Attribute o m apos) (e :: es) [] pos) X.env = (do
      let v ← eval o X.env
      standAt apos.atName
      let (g, one) ← holding [v] (getMethod v m pl)
      callWith pos g one (backTo pos (starEach (e :: es) X.env)) (backToKw pos (keywordEach [] X.env))) := by rfl) :
    PE X (.Call (.Attribute o m apos) (e :: es) [] pos) (tMeth C m sp [] E ta t) := by
  obtain ⟨f, fd, h1, h2, h3⟩ := O.ex
  exact pe_meth he c h1 h2 (hr.mono hk) h3 .nil (passes_call tk hW) ha hst hpl ht
end
end Tm

set_option maxHeartbeats 4000000
/-! Kind.renamed, both ends. -/
namespace Tm
open PySem PySem.Spec PyProof.Rows L2
local macro_rules | `(tactic| walk_at "x") => `(tactic| dsimp only [tNext, tRet, tSeq, tCall, tCB, tC, tCons, tNil, tAsg, tDrop, sFld])
section
variable {P : Program} {w : World} {K : PySem.W.Frag} {mg : Str → Option Value} {base : Heap} {C : Addr}
/-- the class of an error that is made of a text, of the name x -/
structure ErrC (K : PySem.W.Frag) (mg : Str → Option Value) (x : Str) (C : Addr) : Prop where
  mg : mg x = some (.ref C)
  keep : PySem.W.keepIn K (.ref C) = true
  made : ∃ (B newId initId : String) (bmB : List Value), ExcBaseFacts B newId initId bmB ∧ PySem.W.excIn K C bmB newId = true
  sub : PySem.W.subIn K (.ref C) (.type "BaseException") = some true
  typ : PySem.W.typeIn K (.ref C) = some (.type "type")
theorem ErrC.mk' {X : Cx} {x m : Str} {C : Addr} {j : Nat} {p p2 pos : Pos} (e : ErrC X.K X.mg x C) (hg : Gl X x := by rfl) (hdb : (x == ("__debug__" : Str)) = false := by decide) : PMk X (.Call (.Name x p) [.Constant (.str m) j p2] [] pos) (fun _ H Q => Q (.ref C) none H) := by
  obtain ⟨B, n, i, b, F, q⟩ := e.made
  exact pmk_own F q e.mg e.keep (raises_own e.sub e.typ) hg hdb
def sp_renamedX (C CE : Addr) : Sp := fun vs H Q E => ∃ (v : V) (t : Tab) (d : Addr) (ns : Nms), vs = [v, .ref d] ∧ KindV C H v t ∧ NmV H d ns ∧ (∀ e ∈ ns, e.1 ∈ namesT t ∧ okName e.2 = true) ∧ (ns.map (·.1)).Nodup ∧ ns.length ≤ 100 ∧
  (((namesT t).map (ren ns)).Nodup → sp_kind C (renT ns t) H Q) ∧ (¬ ((namesT t).map (ren ns)).Nodup → ∀ H', Same H H' → E (.ref CE) none H')
theorem ok_renamedX {CE : Addr} (ER : ErrC K mg "InvalidOperation" CE) (B : Bt mg) (T : Kc K C) (OC_Kind : OkC P w K mg base "Kind" C 5 ["self", "operations"] (sp_init C)) (OM_is_renaming : OkM P w K mg base C "_is_renaming" 3 ["self", "names"] (sp_isrenB C)) (D : DfM K C "renamed" "Kind.renamed" s_renamed ["self", "names"]) : OkMX P w K mg base C "renamed" 7 ["self", "names"] (sp_renamedX C CE) := by
  refine D.okX sc_renamed (fun vs H Q E h => ?_) (fun f cdv A outer s H vs Q E hr h => ?_)
  · obtain ⟨v, t, d, ns, rfl, _⟩ := h
    rfl
  · obtain ⟨v, t, dn, ns, rfl, hk, hn, good, ndk, fewn, qg, qb⟩ := h
    have hu := hu_of hr
    refine ⟨_, pss_cons (ps_if (pt_not (pt_val (OM_is_renaming.call hr T.cl (he := pv 0) (ha := pa_cons (pv 1) (pa_nil)))))
        (pss_one (ps_raise rfl (takes_of rfl rfl rfl rfl) (ER.mk')))
        (pss_nil))
      (pss_one (ps_ret (OC_Kind.make hr (ha := pa_cons (pe_lock (pe_dc (own := [("name", 2), ("row", 3)]) (g := gTup K 2 (gCons (gName 2) (gCons (gName 3) (gNil)))) (tt := tYes) rfl sc_renamed.nd (pi_items (pe_fld (pv 0) rfl)) (blkOk_by (own := [("name", 2), ("row", 3)]) (N := ["self", "names", "name", "row"]) (sc := defScope s_renamed) (by decide +kernel)) (fun _ _ _ _ _ => pg_tup (by rfl) (pgs_cons (pg_name (i := 2) sc_renamed.nd rfl (.inl rfl)) (pgs_cons (pg_name (i := 3) sc_renamed.nd rfl (.inl rfl)) (pgs_nil)))) (fun _ _ _ _ _ => pts_nil) (fun _ _ _ _ _ => pe_dget2 hu (pv 1) (pv 2) (pv 2) ⟨rfl, rfl, rfl, rfl⟩) (fun _ _ _ _ _ => pv 3))) (pa_nil))))), ?_⟩
    obtain ⟨a, dx, d, kvs, rfl, ha, hd, ht, hok, nd, hst⟩ := id hk
    refine ⟨_, rfl, a, dx, _, rfl, ha, kf_no _ _, _, rfl, _, t, dn, ns, rfl, hk, hn, good, ndk, fewn, fun H1 e1 => ⟨_, rfl, ?_⟩⟩
    by_cases ndr : ((namesT t).map (ren ns)).Nodup
    rotate_left
    · refine ifT (by rw [decide_eq_false ndr]; rfl) ?_
      exact qb ndr _ e1
    obtain ⟨ok2, nd2, q⟩ := qg ndr
    refine ifF (by rw [decide_eq_true ndr]; rfl) ?_
    obtain ⟨kvn, hdn, hpn⟩ := hn
    have ndd : dn ≠ d := fun z => by
      rw [z, hd] at hdn
      cases hdn
      cases hpn with
      | nil =>
        cases ht
        exact absurd rfl (tab_pos hok)
      | cons h1 _ =>
        cases ht with
        | cons g1 _ =>
          obtain ⟨_, b, rs, eb, _⟩ := g1
          rw [h1.2] at eb
          cases eb
    have ha1 := e1 _ _ ha
    have hd1 := e1 _ _ hd
    have ht1 := ht.mono (tups_of e1)
    dsimp only [tNext]
    dsimp only [tRet, tMake, tCons, tNil]
    refine ⟨d, .dK kvs, hd1, trivial, fun od => ?_⟩
    have tu : TupS H1 (upd H1 d (.frz od (.dK kvs))) := lock_in hd1 (fun xs z => by cases z)
    refine dc_tabI (K := K) (o := od) (kvs := kvs) (fun Q q => ?_) upd_same (ht1.mono tu) (few_tab hok) (fun _ => true) (fun e => ren ns e.1) (fun e => e.2) (by
      have : t.map (fun e => ren ns e.1) = (namesT t).map (ren ns) := by
        unfold namesT
        rw [List.map_map]
        rfl
      rw [this]
      exact ndr) (by intro _ _; rfl) (fun e v H2 he e2 hv => ⟨evt_yes, fun _ Q q => ?_, fun _ => ev_is rfl hv⟩) (fun p H2 kvs' e2 hp ht2 => ?_)
    · exact ⟨_, rfl, a, C, dx, _, _, rfl, lock_ins ha1 hd1, T.cl, T.nT, kf_T _ _, q _ _ (Same.refl _) rfl⟩
    · have hdn2 := e2 _ _ (show (upd H1 d (.frz od (.dK kvs))) dn = some (.dK kvn) by rw [upd_ne ndd]; exact e1 _ _ hdn)
      refine ⟨_, rfl, dn, rfl, .inl ⟨_, .inl hdn2⟩, _, rfl, _, rfl, _, DGet.k (k := Sum.inr e.1) hdn2, q _ _ (Same.refl _) ?_⟩
      rw [look_nm _ hpn]
      unfold ren
      cases lookN ns e.1 <;> rfl
    · obtain ⟨h1, e3, h3, h4⟩ := unlock hd1 e2 hp ht2
      rw [filter_all] at h4
      exact ⟨h1, mk_kind (Q := Q) (t := renT ns t) h3 h4 ok2 nd2 fun v' H' t' e' hk' pm => q v' H' t' (e1.trans (e3.trans e')) hk' pm⟩
end
end Tm

/-! What stands while lambdas are made (Good); _law_met. -/
namespace Tm
open PySem PySem.Spec PyProof.Rows L2 LamX TmT SkE
local macro_rules | `(tactic| walk_at "x") => `(tactic| dsimp only [tNext, tRet, tSeq, tCall, tCB, tC, tCons, tNil, tAsg, tDrop, sFld])
theorem codeO_nl {c : Addr} {q : Str} (xs : List V) : CodeO c q ≠ .lst xs := fun z => by
  unfold CodeO at z
  cases z
/-! ### what stands while the law runs: the vat at l, the tables T -/
def KX (l : Addr) (H H' : Hp) : Prop := ∀ b o, H b = some o → b ≠ l → (∀ ps, o ≠ .tbl ps) → H' b = some o
structure Good (l : Addr) (T : List (Addr × Str)) (H0 H : Hp) : Prop where
  kx : KX l H0 H
  vat : VatV H l
  tabs : Tabs T H
theorem Good.start {l : Addr} {T : List (Addr × Str)} {H : Hp} (v : VatV H l) (t : Tabs T H) : Good l T H H := ⟨fun _ _ h _ _ => h, v, t⟩
theorem Good.same {l : Addr} {T : List (Addr × Str)} {H0 H H' : Hp} (g : Good l T H0 H) (e : Same H H') : Good l T H0 H' :=
  ⟨fun b o h n1 n2 => e b o (g.kx b o h n1 n2), (KL.of g.vat e).2, g.tabs.ext e⟩
theorem tabs_kl {l : Addr} {T : List (Addr × Str)} {H H' : Hp} (v : VatV H l) (k : KL l H H') (t : Tabs T H) : Tabs T H' := fun p hp => by
  obtain ⟨a, b, c, hv⟩ := v
  obtain ⟨ps, h1, h2, h3⟩ := t p hp
  refine ⟨ps, k.1 _ _ h1 (fun z => ?_), h2, fun pos cv hc => ?_⟩
  · rw [z, hv] at h1
    cases h1
  · obtain ⟨c0, e1, e2⟩ := h3 pos cv hc
    refine ⟨c0, e1, k.1 _ _ e2 (fun z => ?_)⟩
    rw [z, hv] at e2
    exact codeO_nl _ (Option.some.inj e2).symm
theorem Good.draw {l : Addr} {T : List (Addr × Str)} {H0 H H' : Hp} (g : Good l T H0 H) (k : KL l H H') : Good l T H0 H' :=
  ⟨fun b o h n1 n2 => k.1 b o (g.kx b o h n1 n2) n1, k.2, tabs_kl g.vat k g.tabs⟩
theorem Good.lam {l : Addr} {T : List (Addr × Str)} {H0 H H' : Hp} (g : Good l T H0 H) (e : ExtN H H') (t : Tabs T H') : Good l T H0 H' :=
  ⟨fun b o h n1 n2 => e b o (g.kx b o h n1 n2) n2, by obtain ⟨a, b, c, h⟩ := g.vat; exact ⟨a, b, c, e _ _ h (fun ps z => by cases z)⟩, t⟩
theorem Good.trans {l : Addr} {T : List (Addr × Str)} {H0 H1 H2 : Hp} (g : Good l T H0 H1) (h : Good l T H1 H2) : Good l T H0 H2 := ⟨fun b o hb n1 n2 => h.kx b o (g.kx b o hb n1 n2) n1 n2, h.vat, h.tabs⟩
theorem tups_extN {H H' : Hp} (e : ExtN H H') : TupS H H' := fun a xs h => e a _ h (fun ps z => by cases z)
theorem KindV.ext {C : Addr} {H H' : Hp} {v : V} {t : Tab} (e : ExtN H H') (h : KindV C H v t) : KindV C H' v t := by
  obtain ⟨a, dx, d, kvs, e1, e2, e3, e4, e5⟩ := h
  exact ⟨a, dx, d, kvs, e1, e _ _ e2 (fun ps z => by cases z), e _ _ e3 (fun ps z => by cases z), e4.mono (tups_extN e), e5⟩
theorem DictV.ext {H H' : Hp} {v : V} {t : Tab} (e : ExtN H H') (h : DictV H v t) : DictV H' v t := by
  obtain ⟨d, kvs, ev, hd, ht, nd, ok⟩ := h
  exact ⟨d, kvs, ev, e _ _ hd (fun ps z => by cases z), ht.mono (tups_extN e), nd, ok⟩
theorem Good.tups {l : Addr} {T : List (Addr × Str)} {H0 H : Hp} (v0 : VatV H0 l) (g : Good l T H0 H) : TupS H0 H := fun a xs h => by
  obtain ⟨p, q, r, hv⟩ := v0
  exact g.kx a _ h (fun z => by rw [z, hv] at h; cases h) (fun ps z => by cases z)
theorem KindV.good {l : Addr} {T : List (Addr × Str)} {C : Addr} {H H' : Hp} {v : V} {t : Tab} (v0 : VatV H l) (g : Good l T H H') (h : KindV C H v t) : KindV C H' v t := by
  obtain ⟨a, dx, d, kvs, e1, e2, e3, e4, e5⟩ := h
  obtain ⟨p, q, r, hv⟩ := id v0
  exact ⟨a, dx, d, kvs, e1, g.kx _ _ e2 (fun z => by rw [z, hv] at e2; cases e2) (fun ps z => by cases z), g.kx _ _ e3 (fun z => by rw [z, hv] at e3; cases e3) (fun ps z => by cases z), e4.mono (g.tups v0), e5⟩
theorem DictV.good {l : Addr} {T : List (Addr × Str)} {H H' : Hp} {v : V} {t : Tab} (v0 : VatV H l) (g : Good l T H H') (h : DictV H v t) : DictV H' v t := by
  obtain ⟨d, kvs, ev, hd, ht, nd, ok⟩ := h
  obtain ⟨p, q, r, hv⟩ := id v0
  exact ⟨d, kvs, ev, g.kx _ _ hd (fun z => by rw [z, hv] at hd; cases hd) (fun ps z => by cases z), ht.mono (g.tups v0), nd, ok⟩
/-- a def of the top whose code object is told -/
structure DfL (K : PySem.W.Frag) (mg : Str → Option Value) (base : Heap) (x : Str) (st : Stmt) (ps : List Str) (c Pt : Addr) : Prop where
  ex : ∃ (f : Addr) (oc : Value) (od : Option Addr) (kV doc pm : Value) (an : Option Addr) (ct : Value) (osl : Array (Option Value)), mg x = some (.ref f) ∧ PySem.W.keepIn K (.ref f) = true ∧
    K.lookup f = some ⟨oc, od, .func (PySem.W.fnOf x x (defArgs st) (defBody st) (defScope st) .none kV doc pm an (.ref c) ct), osl⟩ ∧ PySem.W.codeIn K (.ref c) x = true ∧ Binds K (PySem.W.fnOf x x (defArgs st) (defBody st) (defScope st) .none kV doc pm an (.ref c) ct) ps []
  tb : TabB base mg c Pt
section
variable {P : Program} {w : World} {K : PySem.W.Frag} {mg : Str → Option Value} {base : Heap}
theorem DfL.ok {x : Str} {st : Stmt} {ps N : List Str} {c Pt : Addr} {k : Nat} {sp : Sp} (D : DfL K mg base x st ps c Pt) (S : FnScope N ps (defScope st)) (len : ∀ vs H Q E, sp vs H Q E → vs.length = ps.length)
    (hb : ∀ (f : Addr) (A : Around) (outer : List Env) (s : Shared) (H : Hp) (vs : List V) (Q : VK) (E : XK), Room k (A.deeper (envOfC x (defScope st) s.heap.objs.size f (.ref c))) → sp vs H Q E →
      ∃ t, PSs (cxOf CX0 P w K mg base N x (defScope st) f (.ref c) A outer s H E).nox (defBody st) t ∧ t { nx := fun _ H' => Q .non H', rt := Q } (start N vs) H) : Ok P w K mg base x (k + 1) ps sp := by
  obtain ⟨f, oc, od, kV, doc, pm, an, ct, osl, h1, h2, h3, h4, h5⟩ := D.ex
  refine ⟨f, _, h1, h2, fn_of h3 h4 S len fun A outer s H vs Q E hr h => ?_, h5⟩
  obtain ⟨t, a, b⟩ := hb f A outer s H vs Q E hr h
  exact ⟨t, a.nox, b⟩
end
/-! ### _law_met -/
theorem takes_len {X : Cx} {W : WX} (t : Takes X W) : Takes X (fun cls d σ H => σ.length = X.N.length → W cls d σ H) := fun u s' ⟨a, B, sI, pins, σ, H, cls, d, e, I, nb, up, sky, na, os, ag, w⟩ =>
  t u s' ⟨a, B, sI, pins, σ, H, cls, d, e, I, nb, up, sky, na, os, ag, w I.len⟩
/-- the facts of the two classes for their clauses -/
structure MetC (K : PySem.W.Frag) (CO CT : Addr) : Prop where
  oo : PySem.W.exmOne K (.ref CO) (.ref CO) = some true
  tO : PySem.W.exmOne K (.ref CT) (.ref CO) = some false
  tt : PySem.W.exmOne K (.ref CT) (.ref CT) = some true
/-- what _law_met makes of a call: what it tells, or the word of its error -/
def TMet (CO CT : Addr) : (XK → Hp → VK → Prop) → Hp → VK → Prop := fun tl H Q =>
  tl (fun cls d H' => (cls = .ref CO ∧ Q (.str "operation") H') ∨ (cls = .ref CT ∧ ∃ dd : Addr, d = some dd ∧ H' dd = some (.xd [(("limit" : Str), .int 6)]) ∧ Q (.str "many 6") H')) H Q
abbrev s_met : Stmt := top 40
abbrev NM : List Str := ["_law_call", "e"]
theorem sc_met : FnScope NM ["_law_call"] (defScope s_met) := ⟨rfl, rfl, rfl, by decide +kernel, rfl, by decide +kernel, by decide +kernel⟩
theorem many_six : (("many " : Str) ++ (toString (6 : Int) : Str)) = ("many 6" : Str) := by decide +kernel
section
variable {X : Cx}
theorem met_gives {q : Str} {g CO CT fI : Addr} {cdg : Value} (Br : X.mg "repr" = none) (M : MetC X.K CO CT) (hO : X.mg "InvalidOperation" = some (.ref CO)) (TX : PySem.TooX.TooTxt X.K X.mg CT fI) :
    GivesTo X NM "_law_tried" (defScope s_met) g cdg (defBody s_met) "_law_call" q (TMet CO CT) := by
  intro f c' s H Q tl act hc h
  refine ⟨_, pss_one (ps_try_mix (X := (cxOf C8.CX0 X.prog X.w X.K X.mg X.base NM "_law_tried" (defScope s_met) g cdg X.A X.stack s H C8.E0).nox) (Wout := fun _ _ _ _ => False)
      (tb := fun W D σ H => ∃ Ech : XK, (∀ cls d σ' H', Ech cls d H' → σ'.length = 2 → W cls d σ' H') ∧ σ[0]? = some (some (.ref f)) ∧ H c' = some (CodeO c' q) ∧ tl Ech H D.rt)
      rfl rfl sc_met.nd L2.takes0 (fun W pn xe tk _ => ?_)
      (.plain (c := .ref CO) ⟨rfl, by decide, .inl hO⟩ (fun a oe cls d pn _ _ => pss_one (ps_ret pe_str))
        (.named (i := 1) (c := .ref CT) rfl rfl ⟨rfl, by decide, .inl TX.gC⟩ (fun a oe cls d pn hz hf => pss_one (ps_ret (pe_op op_add_str (pe_str) (pe_callB call_repr_int (by rfl) Br (by decide +kernel) (pa_cons (pe_limit TX hz hf (pv 1)) pa_nil))))) .nil))), ?_⟩
  · refine ⟨fun pins s' σ H' D I h' => ?_⟩
    obtain ⟨Ech, hW, h1, h2, h3⟩ := h'
    exact (pss_one (ps_ret (act _ pn xe Ech _ _ (takes_len tk) (fun cls d σ' H' e l => hW cls d σ' H' e l)))).run pins s' σ H' D I ⟨h1, h2, h3⟩
  · refine ⟨_, fun cls d σ' H' hE hl => ?_, rfl, hc, h⟩
    rcases hE with ⟨rfl, q1⟩ | ⟨rfl, dd, rfl, hd, q1⟩
    · exact ⟨true, M.oo, fun _ a _ => q1, fun z => Bool.noConfusion z⟩
    · refine ⟨false, M.tO, fun z => Bool.noConfusion z, fun _ => ⟨true, M.tt, fun _ a _ => ?_, fun z => Bool.noConfusion z⟩⟩
      obtain ⟨x0, x1, rfl⟩ : ∃ x0 x1, σ' = [x0, x1] := by
        match σ', hl with
        | [x0, x1], _ => exact ⟨x0, x1, rfl⟩
      refine ⟨_, rfl, rfl, rfl, dd, _, rfl, hd, 6, rfl, by decide, _, _, rfl, rfl, by show ("many " : Str).length + ((toString (6 : Int) : String) : Str).length ≤ sizeLine; decide +kernel, ?_⟩
      rw [many_six]
      exact q1
end
end Tm

/-! names given anew; [.. for name in a dict]; dict([(name, row) ..]); _law_renamed. -/
namespace Tm
open PySem PySem.Spec PyProof.Rows L2 TmZ TmS
local macro_rules | `(tactic| walk_at "x") => `(tactic| dsimp only [tNext, tRet, tSeq, tCall, tCB, tC, tCons, tNil, tAsg, tDrop, sFld])
theorem ren_names (ns : Nms) (t : Tab) : namesT (renT ns t) = (namesT t).map (ren ns) := by
  unfold namesT renT
  rw [List.map_map, List.map_map]
  rfl
theorem ren_cons {a w : Str} {z : Nms} {y : Str} : ren ((a, w) :: z) y = if a = y then w else ren z y := by
  unfold ren lookN
  rw [List.find?_cons]
  by_cases e : a = y
  · rw [if_pos e, decide_eq_true e]
    rfl
  · rw [if_neg e, decide_eq_false e]
theorem ren_zip : ∀ {l ws : List Str}, l.Nodup → l.length ≤ ws.length → l.map (ren (l.zip ws)) = ws.take l.length
  | [], _, _, _ => by simp
  | _ :: _, [], _, h => by simp at h
  | x :: l, w :: ws, nd, h => by
    have nd' := List.nodup_cons.mp nd
    rw [List.zip_cons_cons, List.map_cons, List.length_cons, List.take_succ_cons, ren_cons, if_pos rfl, ← ren_zip nd'.2 (by simpa using h)]
    congr 1
    exact List.map_congr_left fun y hy => by rw [ren_cons, if_neg (fun e => nd'.1 (by rw [e]; exact hy))]
theorem zip_nms {l ws : List Str} : Paired NmP ((l.zip ws).map fun e => ((Sum.inr e.1 : L2.Key), V.str e.2)) (l.zip ws) := by
  generalize l.zip ws = z
  induction z with
  | nil => exact .nil
  | cons e z ih => exact .cons ⟨rfl, rfl⟩ ih
theorem zip_prs {K : PySem.W.Frag} {H : Hp} {ts : List Addr} {l ws : List Str} (h : Paired (fun (t : Addr) (q : V × V) => H t = some (.tup [q.1, q.2])) ts ((l.map V.str).zip (ws.map V.str))) : Paired (fun p kv => SqT K H p [kV kv.1, kv.2]) ts ((l.zip ws).map fun e => ((Sum.inr e.1 : L2.Key), V.str e.2)) := by
  have e : (l.map V.str).zip (ws.map V.str) = (l.zip ws).map fun e => (V.str e.1, V.str e.2) := by
    rw [List.zip_map]
    rfl
  rw [e] at h
  generalize l.zip ws = z at h
  induction z generalizing ts with
  | nil =>
    cases h
    exact .nil
  | cons e z ih =>
    cases h with
    | cons a b => exact .cons (SqT.of a) (ih b)
theorem zip_keys {l ws : List Str} (h : l.length ≤ ws.length) : ((l.zip ws).map (·.1)) = l := by
  rw [List.map_fst_zip h]
theorem ren_okN {ns : Nms} (h : ∀ e ∈ ns, okName e.2 = true) {x : Str} (hx : okName x = true) : okName (ren ns x) = true := by
  unfold ren lookN
  cases e : ns.find? fun e => decide (e.1 = x) with
  | none => exact hx
  | some p => exact h p (List.mem_of_find?_eq_some e)
theorem renG_okT {t : Tab} {ns : Nms} (ok : okTab t = true) (h : ∀ e ∈ ns, okName e.2 = true) (nd : ((namesT t).map (ren ns)).Nodup) : okTab (renT ns t) = true ∧ sizeT (renT ns t) = sizeT t ∧ (namesT (renT ns t)).Nodup := by
  have f := ok_facts ok
  have lr : (renT ns t).length = t.length := by unfold renT; rw [List.length_map]
  have o := okTab_of (t := renT ns t) (n := sizeT t) (by omega) (by omega) f.2.2.1 f.2.2.2.1 fun e he => by
    obtain ⟨d, hd, rfl⟩ := List.mem_map.mp he
    have fr := fine_of ok hd
    exact ⟨ren_okN h (f.2.2.2.2 d hd), size_of_ok ok d hd, fun p hp => fine_ok fr p hp⟩
  exact ⟨o.1, o.2, by rw [ren_names]; exact nd⟩
theorem NmV.keep {H H' : Hp} {d : Addr} {ns : Nms} (h : NmV H d ns) (e : Same H H') : NmV H' d ns := by
  obtain ⟨k, h1, h2⟩ := h
  exact ⟨k, e _ _ h1, h2⟩
theorem NmV.kl {l : Addr} {H H' : Hp} {d : Addr} {ns : Nms} (va : VatV H l) (k : KL l H H') (h : NmV H d ns) : NmV H' d ns := by
  obtain ⟨kv, h1, h2⟩ := h
  obtain ⟨x, y, z, hv⟩ := va
  exact ⟨kv, k.1 _ _ h1 (fun e => by rw [e, hv] at h1; cases h1), h2⟩
/-- dict(list(zip(texts, texts))) -/
theorem zip_dict {l ws : List Str} (nd : l.Nodup) (h : l.length ≤ ws.length) : mergeK [] ((l.zip ws).map fun e => ((Sum.inr e.1 : L2.Key), V.str e.2)) = (l.zip ws).map fun e => ((Sum.inr e.1 : L2.Key), V.str e.2) := by
  refine mergeK_all ?_
  rw [List.map_map]
  have e : (l.zip ws).map ((fun kv : L2.Key × V => kv.1) ∘ fun e => ((Sum.inr e.1 : L2.Key), V.str e.2)) = l.map (Sum.inr : Str → L2.Key) := by
    conv => rhs; rw [← zip_keys h, List.map_map]
    rfl
  rw [e]
  exact List.pairwise_map.mpr (nd.imp fun h e => h (Sum.inr.inj e))
section
variable {K : PySem.W.Frag} {σ : L2.St} {H : Hp} {te : TE} {C : Addr} {E : XK}
/-- [.. for name in a dict if ..], within the lock -/
theorem keys_core {Q : VK} {i j : Nat} {tt : TT} {vs : List Nat} {d : Addr} {od : Obj} {kvs : List (L2.Key × V)} {t : Tab} (hi : σ[i]? = some (some (.ref d))) (hd : H d = some (.dK kvs)) (ht : TabV H kvs t) (few : t.length ≤ 1000) (b : Str × Row → Bool) (R : Str × Row → V → Hp → Prop)
    (hw : ∀ x, wipe ((wipe σ vs).set j (some x)) vs = wipe σ vs) (hR : ∀ z v H H', TupS H H' → R z v H → R z v H')
    (hs : ∀ e H1, e ∈ t → H1 d = some (.frz od (.dK kvs)) → Same (upd H d (.frz od (.dK kvs))) H1 → EvT tt ((wipe σ vs).set j (some (.str e.1))) H1 (b e) ∧ (b e = true → ∀ H3, Same H1 H3 → Ev te ((wipe σ vs).set j (some (.str e.1))) H3 (R e)))
    (hq : ∀ p H1 ys, Same H H1 → H p = none → H1 p = some (.lst ys) → Paired (fun v e => R e v H1) ys (t.filter b) → Q (.ref p) H1) :
    tLc (iKeys (tVar i)) (gName j) tt te vs σ (upd H d (.frz od (.dK kvs))) (fun v H' => H' d = some (.frz od (.dK kvs)) ∧ Q v (upd H' d (.dK kvs))) := by
  have lk : kvs.length = t.length := Paired.length ht
  refine lc_runK (o := od) (kvs := kvs) (ev_is hi rfl) upd_same t lk.symm b R (by omega) hw hR (fun k z kv H1 hz hkv e => ?_) (fun p H1 ys hp e hl hP => ?_)
  · obtain ⟨z', hz', hk1, hk2⟩ := paired_ix2 ht hkv
    obtain rfl : z' = z := by rw [hz] at hz'; exact (Option.some.inj hz').symm
    rw [hk1]
    exact hs z' H1 (List.mem_of_getElem? hz) (e _ _ upd_same) e
  · have h1 := e _ _ (upd_same (H := H) (a := d))
    have npd : p ≠ d := fun z => by rw [z, upd_same] at hp; cases hp
    refine ⟨h1, hq p _ ys (lock_out hd e) (by rw [upd_ne npd] at hp; exact hp) (by rw [upd_ne npd]; exact hl) ?_⟩
    have tu : TupS H1 (upd H1 d (.dK kvs)) := tups_upd h1 fun xs z => by cases z
    exact Paired.mapP hP fun v z r => hR _ _ _ _ tu r
/-- .. the whole -/
theorem ev_keys {i j : Nat} {tt : TT} {vs : List Nat} {d : Addr} {kvs : List (L2.Key × V)} {t : Tab} (hi : σ[i]? = some (some (.ref d))) (hd : H d = some (.dK kvs)) (ht : TabV H kvs t) (few : t.length ≤ 1000) (b : Str × Row → Bool) (R : Str × Row → V → Hp → Prop)
    (hw : ∀ x, wipe ((wipe σ vs).set j (some x)) vs = wipe σ vs) (hR : ∀ z v H H', TupS H H' → R z v H → R z v H')
    (hs : ∀ (od : Obj) e H1, e ∈ t → H1 d = some (.frz od (.dK kvs)) → Same (upd H d (.frz od (.dK kvs))) H1 → EvT tt ((wipe σ vs).set j (some (.str e.1))) H1 (b e) ∧ (b e = true → ∀ H3, Same H1 H3 → Ev te ((wipe σ vs).set j (some (.str e.1))) H3 (R e))) :
    Ev (tLockE (tLc (iKeys (tVar i)) (gName j) tt te vs)) σ H fun v H1 => ∃ p ys, v = .ref p ∧ H p = none ∧ H1 p = some (.lst ys) ∧ Paired (fun v e => R e v H1) ys (t.filter b) := fun Q q =>
  ⟨d, .dK kvs, hd, trivial, fun od => keys_core (Q := Q) hi hd ht few b R hw hR (hs od) fun p H1 ys e hp hl hP => q _ _ e ⟨p, ys, rfl, hp, hl, hP⟩⟩
/-- the pair (a text, a row) -/
def PrV (f : Str × Row → Str) (g : Str × Row → Row) (e : Str × Row) (v : V) (H : Hp) : Prop := ∃ pt rv, v = .ref pt ∧ H pt = some (.tup [.str (f e), rv]) ∧ RowV H rv (g e)
theorem prv_mono {f : Str × Row → Str} {g : Str × Row → Row} : ∀ z v (H H' : Hp), TupS H H' → PrV f g z v H → PrV f g z v H' := fun _ _ _ _ e ⟨pt, rv, h1, h2, h3⟩ => ⟨pt, rv, h1, e _ _ h2, h3.mono e⟩
theorem pairs_of {H : Hp} {f : Str × Row → Str} {g : Str × Row → Row} {ys : List V} {t : Tab} (h : Paired (fun v e => PrV f g e v H) ys t) :
    ∃ (ts : List Addr) (kvs : List (L2.Key × V)), ys = ts.map V.ref ∧ Paired (fun p kv => SqT K H p [kV kv.1, kv.2]) ts kvs ∧ TabV H kvs (t.map fun e => (f e, g e)) := by
  induction h with
  | nil => exact ⟨[], [], rfl, .nil, .nil⟩
  | cons r _ ih =>
    obtain ⟨ts, kvs, rfl, h1, h2⟩ := ih
    obtain ⟨pt, rv, rfl, h3, h4⟩ := r
    exact ⟨pt :: ts, (Sum.inr _, rv) :: kvs, rfl, .cons (SqT.of h3) h1, .cons ⟨rfl, h4⟩ h2⟩
theorem keys_nd {H : Hp} {kvs : List (L2.Key × V)} {t : Tab} (h : TabV H kvs t) (nd : (namesT t).Nodup) : (kvs.map (·.1)).Nodup := by
  rw [tabV_keys h]
  exact List.pairwise_map.mpr (nd.imp fun h e => h (Sum.inr.inj e))
/-- a list's items are among some names, without doubles: they are few -/
theorem sub_len {a b : List Str} (na : a.Nodup) (h : ∀ x ∈ a, x ∈ b) : a.length ≤ b.length := by
  induction a generalizing b with
  | nil => exact Nat.zero_le _
  | cons x r ih =>
    obtain ⟨n1, n2⟩ := List.nodup_cons.mp na
    have hx := h x List.mem_cons_self
    have p := (List.perm_cons_erase hx).length_eq
    rw [List.length_cons] at p
    have := ih (b := b.erase x) n2 fun y hy => (List.mem_erase_of_ne (fun e => n1 (by rw [← e]; exact hy))).mpr (h y (List.mem_cons_of_mem _ hy))
    rw [List.length_cons]
    omega
end
end Tm

/-! Plans: what stands in the heap; _is_team; Plan(kind, start, first, second). -/
namespace Tm
open PySem PySem.Spec PyProof.Rows L2 TmE
local macro_rules | `(tactic| walk_at "x") => `(tactic| dsimp only [tNext, tRet, tSeq, tCall, tCB, tC, tCons, tNil, tAsg, tDrop, sFld])
structure Pl where
  t : Tab
  s : Nat
  f : List Str
  g : List Str
structure Pl.Ok (p : Pl) : Prop where
  s : p.s < sizeT p.t
  f : p.f ≠ []
  g : p.g ≠ []
  few : p.f.length + p.g.length ≤ 6
  all : ∀ x ∈ p.f ++ p.g, x ∈ namesT p.t
abbrev Pl.th (p : Pl) : List Str := p.f ++ p.g
def strV (l : List Str) : List V := l.map V.str
def pflds (k : V) (s : Int) (tm th : Addr) : List (Str × V) := [("_kind", k), ("_start", .int s), ("_teams", .ref tm), ("_threads", .ref th)]
theorem pf_put (k : V) (s : Int) (tm th : Addr) : putF "_threads" (.ref th) (putF "_teams" (.ref tm) (putF "_start" (.int s) (putF "_kind" k []))) = pflds k s tm th := by
  have h1 : ¬ (("_kind" : Str) = "_start") := by decide +kernel
  have h2 : ¬ (("_kind" : Str) = "_teams") := by decide +kernel
  have h3 : ¬ (("_kind" : Str) = "_threads") := by decide +kernel
  have h4 : ¬ (("_start" : Str) = "_teams") := by decide +kernel
  have h5 : ¬ (("_start" : Str) = "_threads") := by decide +kernel
  have h6 : ¬ (("_teams" : Str) = "_threads") := by decide +kernel
  simp [putF, pflds, h1, h2, h3, h4, h5, h6]
theorem pf_K (k : V) (s : Int) (tm th : Addr) : (pflds k s tm th).lookup ("_kind" : Str) = some k := by simp [pflds, List.lookup]
theorem pf_S (k : V) (s : Int) (tm th : Addr) : (pflds k s tm th).lookup ("_start" : Str) = some (.int s) := by
  have h : (("_start" : Str) == ("_kind" : Str)) = false := by decide +kernel
  simp [pflds, List.lookup, h]
theorem pf_M (k : V) (s : Int) (tm th : Addr) : (pflds k s tm th).lookup ("_teams" : Str) = some (.ref tm) := by
  have h : (("_teams" : Str) == ("_kind" : Str)) = false := by decide +kernel
  have h2 : (("_teams" : Str) == ("_start" : Str)) = false := by decide +kernel
  simp [pflds, List.lookup, h, h2]
theorem pf_H (k : V) (s : Int) (tm th : Addr) : (pflds k s tm th).lookup ("_threads" : Str) = some (.ref th) := by
  have h : (("_threads" : Str) == ("_kind" : Str)) = false := by decide +kernel
  have h2 : (("_threads" : Str) == ("_start" : Str)) = false := by decide +kernel
  have h3 : (("_threads" : Str) == ("_teams" : Str)) = false := by decide +kernel
  simp [pflds, List.lookup, h, h2, h3]
theorem pf_no (k : V) (s : Int) (tm th : Addr) {m : Str} (h1 : (m == ("_kind" : Str)) = false := by decide +kernel) (h2 : (m == ("_start" : Str)) = false := by decide +kernel) (h3 : (m == ("_teams" : Str)) = false := by decide +kernel) (h4 : (m == ("_threads" : Str)) = false := by decide +kernel) : (pflds k s tm th).lookup m = none := by
  simp [pflds, List.lookup, h1, h2, h3, h4]
/-- a tuple of texts -/
def TeamV (H : Hp) (v : V) (l : List Str) : Prop := ∃ p, v = .ref p ∧ Rd H p (.tup (strV l))
theorem TeamV.keep {H H' : Hp} {v : V} {l : List Str} (h : TeamV H v l) (e : Same H H') : TeamV H' v l := by
  obtain ⟨p, rfl, h⟩ := h
  exact ⟨p, rfl, rd_keep e h⟩
theorem rd_kl {l a : Addr} {H H' : Hp} {xs : List V} (va : VatV H l) (k : KL l H H') (h : Rd H a (.tup xs)) : Rd H' a (.tup xs) := by
  obtain ⟨_, _, _, e⟩ := va
  have ne : a ≠ l := fun z => by
    rw [z] at h
    rcases h with h | ⟨o, h⟩
    · rw [e] at h
      cases h
    · rw [e] at h
      cases h
  exact h.imp (fun h => k.1 _ _ h ne) fun ⟨o, h⟩ => ⟨o, k.1 _ _ h ne⟩
theorem TeamV.kl {l : Addr} {H H' : Hp} {v : V} {ns : List Str} (va : VatV H l) (k : KL l H H') (h : TeamV H v ns) : TeamV H' v ns := by
  obtain ⟨p, rfl, h⟩ := h
  exact ⟨p, rfl, rd_kl va k h⟩
/-- at v a plan -/
def PlanV (C CP : Addr) (H : Hp) (v : V) (p : Pl) : Prop := ∃ a dx k tm p1 p2 th, v = .ref a ∧ H a = some (.ins CP dx (pflds k p.s tm th)) ∧ KindV C H k p.t ∧ H tm = some (.tup [p1, p2]) ∧ TeamV H p1 p.f ∧ TeamV H p2 p.g ∧ H th = some (.tup (strV p.th)) ∧ p.Ok
theorem PlanV.keep {C CP : Addr} {H H' : Hp} {v : V} {p : Pl} (h : PlanV C CP H v p) (e : Same H H') : PlanV C CP H' v p := by
  obtain ⟨a, dx, k, tm, p1, p2, th, e1, e2, e3, e4, e5, e6, e7, e8⟩ := h
  exact ⟨a, dx, k, tm, p1, p2, th, e1, e _ _ e2, e3.keep e, e _ _ e4, e5.keep e, e6.keep e, e _ _ e7, e8⟩
theorem PlanV.kl {C CP : Addr} {H H' : Hp} {v : V} {p : Pl} {l : Addr} (va : VatV H l) (k : KL l H H') (h : PlanV C CP H v p) : PlanV C CP H' v p := by
  obtain ⟨a, dx, kk, tm, p1, p2, th, e1, e2, e3, e4, e5, e6, e7, e8⟩ := h
  have ne : ∀ {b : Addr} {o : HO}, H b = some o → (∀ xs, o ≠ .lst xs) → b ≠ l := fun e n z => by
    obtain ⟨_, _, _, e'⟩ := va
    rw [z, e'] at e
    cases e
    exact n _ rfl
  exact ⟨a, dx, kk, tm, p1, p2, th, e1, k.1 _ _ e2 (ne e2 fun xs z => by cases z), e3.kl va k, k.1 _ _ e4 (ne e4 fun xs z => by cases z), e5.kl va k, e6.kl va k, k.1 _ _ e7 (ne e7 fun xs z => by cases z), e8⟩
/-- what the class Plan has -/
structure Kp (K : PySem.W.Frag) (C : Addr) : Prop where
  cl : Cls K C
  nK : NoAttr K C "_kind"
  nS : NoAttr K C "_start"
  nM : NoAttr K C "_teams"
  nH : NoAttr K C "_threads"
section
variable {P : Program} {w : World} {K : PySem.W.Frag} {mg : Str → Option Value} {base : Heap} {C CP : Addr}
abbrev s_team : Stmt := top 28
theorem sc_is_team : FnScope ["value", "kind", "name"] ["value", "kind"] (defScope s_team) := ⟨rfl, rfl, rfl, by decide +kernel, rfl, by decide +kernel, by decide +kernel⟩
def sp_team (C : Addr) : Sp := fun vs H Q _ => ∃ (v k : V) (t : Tab) (l : List Str), vs = [v, k] ∧ TeamV H v l ∧ KindV C H k t ∧ l ≠ [] ∧ l.length ≤ 100 ∧ (∀ x ∈ l, x ∈ namesT t) ∧ ∀ H', Same H H' → Q (.bl true) H'
theorem ok_team (B : Bt mg) (O_in : OkIn P w K mg base C 1 ["self", "x"] (sp_cont C)) (D : Df K mg "_is_team" s_team ["value", "kind"]) : Ok P w K mg base "_is_team" 2 ["value", "kind"] (sp_team C) := by
  refine D.ok sc_is_team (fun vs H Q E h => ?_) (fun f cdv A outer s H vs Q E hr h => ?_)
  · obtain ⟨v, k, t, l, rfl, _⟩ := h
    rfl
  · obtain ⟨v, k, t, l, rfl, ⟨p, rfl, hp⟩, hk, nl, few, al, q⟩ := h
    refine ⟨_, pss_cons (ps_if (PW.pt (pw_or (pt_not (pt_val (pe_callB (isiK (K := K)) (by rfl) B.isinstance (by decide +kernel) (pa_cons (pv 0) (pa_cons (pe_ty (n := "tuple") (by rfl) B.tuple (by decide +kernel)) (pa_nil)))))) (pw_or1 (pt_cmpR op_eq (pe_callB (lenK (K := K)) (by rfl) B.len (by decide +kernel) (pa_cons (pv 0) (pa_nil))) (pe_int) (nomark _)))))
        (pss_one (ps_ret (pe_bl)))
        (pss_nil))
      (pss_one (ps_ret (pe_callB (allK (K := K)) (by rfl) B.all (by decide +kernel) (pa_cons (pe_lc (own := [("name", 2)]) (g := gName 2) (tt := tYes) rfl sc_is_team.nd (piT (K := K) (pv 0)) (blkOk_by (own := [("name", 2)]) (N := ["value", "kind", "name"]) (sc := defScope s_team) (by decide +kernel)) (fun _ _ _ _ _ => pg_name (i := 2) sc_is_team.nd rfl (.inl rfl)) (fun _ _ _ _ _ => pts_nil) (fun _ _ _ _ _ => pe_cmpR (O_in.isIn hr) (pv 2) (pv 1) rfl)) (pa_nil))))), ?_⟩
    have lp : 1 ≤ l.length := List.length_pos_iff.mpr nl
    have ty : TyX K H (.ref p) (.type "tuple") := hp.elim (fun h => .base (.tup h)) (fun ⟨_, h⟩ => .fTuple h)
    refine ⟨_, rfl, .ref p, .ty "tuple", _, _, true, rfl, .ty "tuple", ty, kit_ty (by decide +kernel), _, rfl, ?_⟩
    refine ifF rfl ?_
    refine ⟨_, rfl, p, _, rfl, .inr (.inl hp), rfl, _, rfl, ifF (by unfold strV; rw [List.length_map]; exact decide_eq_false fun z => by have := V.int.inj z; omega) ?_⟩
    dsimp only [tNext]
    walk_at "x"
    refine lc_runT (K := K) (xs := strV l) (ev_is rfl ⟨p, rfl, .inl hp⟩) l (by unfold strV; rw [List.length_map]) (fun _ => true) (fun z v _ => v = V.bl true) (by omega) (by intro _; rfl) (fun _ _ _ _ _ h => h)
      (fun i z v H1 hi y e => ⟨evt_yes, fun _ H3 e3 Q q => ?_⟩) (fun p H1 ys hp e hl' hP => ?_)
    · have hv : v = .str z := by
        unfold strV at y
        rw [List.getElem?_map, hi] at y
        exact (Option.some.inj y).symm
      subst hv
      have hk3 := hk.keep (e.trans e3)
      obtain ⟨a, dx, _, _, rfl, ha, _⟩ := id hk3
      exact ⟨_, rfl, _, rfl, a, dx, _, rfl, ha, .ref a, t, z, rfl, hk3, _, rfl, q _ _ (Same.refl _) (by rw [decide_eq_true (al z (List.mem_of_getElem? hi))]; rfl)⟩
    · rw [filter_all] at hP
      have ey : ys = (l.map fun _ => true).map V.bl := by
        rw [paired_fun hP, List.map_map]
        rfl
      rw [ey] at hl'
      refine ⟨p, _, rfl, SqL.of hl', ?_⟩
      rw [show (l.map fun _ => true).all id = true by simp]
      exact q H1 e
/-! ### Plan(..) -/
abbrev s_pinit : Stmt := inClass (top 29) 0
theorem sc_pinit : FnScope ["self", "kind", "start", "first", "second"] ["self", "kind", "start", "first", "second"] (defScope s_pinit) := ⟨rfl, rfl, rfl, by decide +kernel, rfl, by decide +kernel, by decide +kernel⟩
def sp_pinit (C CP : Addr) : Sp := fun vs H Q _ => ∃ (a dx : Addr) (k p1 p2 : V) (p : Pl), vs = [.ref a, k, .int (p.s : Int), p1, p2] ∧ H a = some (.ins CP dx []) ∧ KindV C H k p.t ∧ TeamV H p1 p.f ∧ TeamV H p2 p.g ∧ p.Ok ∧
  ∀ H', PlanV C CP H' (.ref a) p → (∀ b o, b ≠ a → H b = some o → H' b = some o) → Q .non H'
theorem ok_pinit (B : Bt mg) (hM : GV mg "MAX_THREADS" (.int 6)) (T : Kc K C) (TP : Kp K CP) (O_need_kind : Ok P w K mg base "need_kind" 1 ["value"] (sp_needkind C)) (O_is_number_in : Ok P w K mg base "is_number_in" 1 ["value", "least", "most"] sp_num) (OP_size : OkP P w K mg base C "size" 1 (sp_size C)) (O_is_team : Ok P w K mg base "_is_team" 2 ["value", "kind"] (sp_team C))
    (D : DfC K mg "Plan" CP "Plan.__init__" s_pinit ["self", "kind", "start", "first", "second"]) : OkC P w K mg base "Plan" CP 4 ["self", "kind", "start", "first", "second"] (sp_pinit C CP) := by
  refine D.ok sc_pinit (fun vs H Q E h => ?_) (fun f cdv A outer s H vs Q E hr h => ?_)
  · obtain ⟨a, dx, k, p1, p2, p, rfl, _⟩ := h
    rfl
  · obtain ⟨a, dx, k, p1, p2, p, rfl, ha, hk, h1, h2, ok, q⟩ := h
    refine ⟨_, pss_cons (ps_expr (O_need_kind.call hr (ha := pa_cons (pv 1) (pa_nil))))
      (pss_cons (ps_if (pt_not (pt_val (O_is_number_in.call hr (ha := pa_cons (pv 2) (pa_cons (pe_int) (pa_cons (pe_op op_sub (OP_size.get hr T.cl (he := pv 1)) (pe_int)) (pa_nil)))))))
        (pss_one (ps_never))
        (pss_nil))
      (pss_cons (ps_if (PW.pt (pw_or (pt_not (pt_val (O_is_team.call hr (ha := pa_cons (pv 3) (pa_cons (pv 1) (pa_nil)))))) (pw_or (pt_not (pt_val (O_is_team.call hr (ha := pa_cons (pv 4) (pa_cons (pv 1) (pa_nil)))))) (pw_or1 (pt_cmpR op_gt (pe_op op_add (pe_callB (lenK (K := K)) (by rfl) B.len (by decide +kernel) (pa_cons (pv 3) (pa_nil))) (pe_callB (lenK (K := K)) (by rfl) B.len (by decide +kernel) (pa_cons (pv 4) (pa_nil)))) hM.pe (nomark _))))))
        (pss_one (ps_never))
        (pss_nil))
      (pss_cons (ps_fld (pv 0) (pv 1) rfl)
      (pss_cons (ps_fld (pv 0) (pv 2) rfl)
      (pss_cons (ps_fld (pv 0) (pe_tup (pa_cons (pv 3) (pa_cons (pv 4) (pa_nil)))) rfl)
      (pss_one (ps_fld (pv 0) (pe_op op_catT (pv 3) (pv 4)) rfl))))))), ?_⟩
    obtain ⟨ka, kdx, kd, kkv, rfl, hka, _⟩ := id hk
    refine ⟨_, rfl, _, p.t, rfl, hk, ?_⟩
    dsimp only [tSeq]
    refine ⟨_, rfl, _, rfl, ka, kdx, _, rfl, hka, .ref ka, p.t, rfl, hk, _, _, rfl, rfl, _, _, _, rfl, _, rfl, ?_⟩
    refine ifF (by have := ok.s; rw [decide_eq_true (show (0 : Int) ≤ (p.s : Int) by omega), decide_eq_true (show (p.s : Int) ≤ (sizeT p.t : Int) - 1 by omega)]; rfl) ?_
    dsimp only [tNext, tSeq, tIfS, tOr, tNot, tB]
    have few := ok.few
    refine ⟨_, rfl, _, rfl, p1, .ref ka, p.t, p.f, rfl, h1, hk, ok.f, by omega, fun x hx => ok.all x (List.mem_append_left _ hx), fun H1 e1 => ⟨_, rfl, ifF rfl ?_⟩⟩
    refine ⟨_, rfl, _, rfl, p2, .ref ka, p.t, p.g, rfl, h2.keep e1, hk.keep e1, ok.g, by omega, fun x hx => ok.all x (List.mem_append_right _ hx), fun H2 e2 => ⟨_, rfl, ifF rfl ?_⟩⟩
    have e12 := e1.trans e2
    obtain ⟨q1, rfl, hq1⟩ := h1.keep e12
    obtain ⟨q2, rfl, hq2⟩ := h2.keep e12
    refine ⟨_, rfl, q1, _, rfl, .inr (.inl hq1), _, rfl, q2, _, rfl, .inr (.inl hq2), _, _, rfl, rfl, ?_⟩
    refine ⟨_, _, rfl, rfl, _, rfl, ifF ?_ ?_⟩
    · unfold strV
      rw [List.length_map, List.length_map]
      exact decide_eq_false fun z => by omega
    try dsimp only [tNext]
    have sa := e12 _ _ ha
    refine ⟨_, rfl, _, rfl, a, CP, dx, [], rfl, sa, TP.cl, TP.nK, by show 0 < 1000; decide, ?_⟩
    have f3 : ∀ b o, b ≠ a → H2 b = some o → upd H2 a (.ins CP dx (putF "_kind" (.ref ka) [])) b = some o := fun b o n e => (upd_ne n).trans e
    have a3 : upd H2 a (.ins CP dx (putF "_kind" (.ref ka) [])) a = some (.ins CP dx (putF "_kind" (.ref ka) [])) := upd_same
    generalize upd H2 a (.ins CP dx (putF "_kind" (.ref ka) [])) = H3 at f3 a3
    try dsimp only [tSeq]
    refine ⟨_, rfl, _, rfl, a, CP, dx, _, rfl, a3, TP.cl, TP.nS, by show 1 < 1000; decide, ?_⟩
    have f4 : ∀ b o, b ≠ a → H2 b = some o → upd H3 a (.ins CP dx (putF "_start" (.int (p.s : Int)) (putF "_kind" (.ref ka) []))) b = some o := fun b o n e => (upd_ne n).trans (f3 b o n e)
    have a4 : upd H3 a (.ins CP dx (putF "_start" (.int (p.s : Int)) (putF "_kind" (.ref ka) []))) a = some (.ins CP dx (putF "_start" (.int (p.s : Int)) (putF "_kind" (.ref ka) []))) := upd_same
    generalize upd H3 a (.ins CP dx (putF "_start" (.int (p.s : Int)) (putF "_kind" (.ref ka) []))) = H4 at f4 a4
    try dsimp only [tSeq]
    refine ⟨_, rfl, _, rfl, by show 2 ≤ sizeLine; decide, fun tm htm => ?_⟩
    have e5 : Same H4 (upd H4 tm (.tup [.ref q1, .ref q2])) := same_new htm
    have t5 : upd H4 tm (.tup [.ref q1, .ref q2]) tm = some (.tup [.ref q1, .ref q2]) := upd_same
    have tma : tm ≠ a := fun z => by
      rw [z, a4] at htm
      cases htm
    show (fun H5 => _) (upd H4 tm (.tup [.ref q1, .ref q2]))
    generalize upd H4 tm (.tup [.ref q1, .ref q2]) = H5 at e5 t5
    refine ⟨_, rfl, a, CP, dx, _, rfl, e5 _ _ a4, TP.cl, TP.nM, by show 2 < 1000; decide, ?_⟩
    have f6 : ∀ b o, b ≠ a → H2 b = some o → upd H5 a (.ins CP dx (putF "_teams" (.ref tm) (putF "_start" (.int (p.s : Int)) (putF "_kind" (.ref ka) [])))) b = some o := fun b o n e => (upd_ne n).trans (e5 _ _ (f4 b o n e))
    have a6 : upd H5 a (.ins CP dx (putF "_teams" (.ref tm) (putF "_start" (.int (p.s : Int)) (putF "_kind" (.ref ka) [])))) a = some (.ins CP dx (putF "_teams" (.ref tm) (putF "_start" (.int (p.s : Int)) (putF "_kind" (.ref ka) [])))) := upd_same
    have t6 : upd H5 a (.ins CP dx (putF "_teams" (.ref tm) (putF "_start" (.int (p.s : Int)) (putF "_kind" (.ref ka) [])))) tm = some (.tup [.ref q1, .ref q2]) := (upd_ne tma).trans t5
    generalize upd H5 a (.ins CP dx (putF "_teams" (.ref tm) (putF "_start" (.int (p.s : Int)) (putF "_kind" (.ref ka) [])))) = H6 at f6 a6 t6
    try dsimp only [tSeq]
    have na : ∀ {b : Addr} {xs : List V}, Rd H2 b (.tup xs) → b ≠ a := fun {b xs} r z => by
      rw [z] at r
      rcases r with r | ⟨o, r⟩
      · rw [sa] at r
        cases r
      · rw [sa] at r
        cases r
    have r6 : ∀ {b : Addr} {xs : List V}, Rd H2 b (.tup xs) → Rd H6 b (.tup xs) := fun {b xs} r => by
      have n := na r
      exact r.imp (fun r => f6 _ _ n r) fun ⟨o, r⟩ => ⟨o, f6 _ _ n r⟩
    refine ⟨_, rfl, _, rfl, q1, q2, _, _, rfl, rfl, .inl (r6 hq1), .inl (r6 hq2), ?_⟩
    refine ⟨fun z => ok.f (List.map_eq_nil_iff.mp z), ?_, fun z => absurd (List.map_eq_nil_iff.mp z) ok.g, fun _ th hth => ?_⟩
    · unfold strV
      rw [List.length_map, List.length_map]
      exact Nat.le_trans few (by show 6 ≤ sizeLine; decide)
    have e7 : Same H6 (upd H6 th (.tup (strV p.f ++ strV p.g))) := same_new hth
    have t7 : upd H6 th (.tup (strV p.f ++ strV p.g)) th = some (.tup (strV p.f ++ strV p.g)) := upd_same
    have tha : th ≠ a := fun z => by
      rw [z, a6] at hth
      cases hth
    generalize upd H6 th (.tup (strV p.f ++ strV p.g)) = H7 at e7 t7
    refine ⟨_, rfl, a, CP, dx, _, rfl, e7 _ _ a6, TP.cl, TP.nH, by show 3 < 1000; decide, ?_⟩
    have f8 : ∀ b o, b ≠ a → H2 b = some o → upd H7 a (.ins CP dx (putF "_threads" (.ref th) (putF "_teams" (.ref tm) (putF "_start" (.int (p.s : Int)) (putF "_kind" (.ref ka) []))))) b = some o := fun b o n e => (upd_ne n).trans (e7 _ _ (f6 b o n e))
    have a8 : upd H7 a (.ins CP dx (putF "_threads" (.ref th) (putF "_teams" (.ref tm) (putF "_start" (.int (p.s : Int)) (putF "_kind" (.ref ka) []))))) a = some (.ins CP dx (pflds (.ref ka) p.s tm th)) := by rw [upd_same, pf_put]
    have t8 : upd H7 a (.ins CP dx (putF "_threads" (.ref th) (putF "_teams" (.ref tm) (putF "_start" (.int (p.s : Int)) (putF "_kind" (.ref ka) []))))) tm = some (.tup [.ref q1, .ref q2]) := (upd_ne tma).trans (e7 _ _ t6)
    have s8 : upd H7 a (.ins CP dx (putF "_threads" (.ref th) (putF "_teams" (.ref tm) (putF "_start" (.int (p.s : Int)) (putF "_kind" (.ref ka) []))))) th = some (.tup (strV p.f ++ strV p.g)) := (upd_ne tha).trans t7
    generalize upd H7 a (.ins CP dx (putF "_threads" (.ref th) (putF "_teams" (.ref tm) (putF "_start" (.int (p.s : Int)) (putF "_kind" (.ref ka) []))))) = H8 at f8 a8 t8 s8
    have r8 : ∀ {b : Addr} {xs : List V}, Rd H2 b (.tup xs) → Rd H8 b (.tup xs) := fun {b xs} r => by
      have n := na r
      exact r.imp (fun r => f8 _ _ n r) fun ⟨o, r⟩ => ⟨o, f8 _ _ n r⟩
    have hk8 : KindV C H8 (.ref ka) p.t := by
      obtain ⟨b, bdx, bd, bkv, eb, hb, hbd, hbt, okb⟩ := hk.keep e12
      have nb : ∀ {b : Addr} {o : HO}, H2 b = some o → o ≠ .ins CP dx [] → b ≠ a := fun h n z => by
        rw [z, sa] at h
        exact n (Option.some.inj h).symm
      refine ⟨b, bdx, bd, bkv, eb, f8 _ _ (nb hb fun z => ?_) hb, f8 _ _ (nb hbd fun z => by cases z) hbd, hbt.mono fun c xs hc => f8 _ _ (nb hc fun z => by cases z) hc, okb⟩
      have := (HO.ins.inj z).2.2
      cases this
    refine q H8 ⟨a, dx, .ref ka, tm, .ref q1, .ref q2, th, rfl, a8, hk8, t8, ⟨q1, rfl, r8 hq1⟩, ⟨q2, rfl, r8 hq2⟩, ?_, ok⟩ fun b o n e => f8 b o n (e12 _ _ e)
    rw [s8]
    unfold strV
    rw [List.map_append]
end
end Tm

/-! sorted(a tuple of whole numbers); a plan's properties; len; ==. -/
namespace Tm
open PySem PySem.Spec PyProof.Rows L2 TmE
local macro_rules | `(tactic| walk_at "x") => `(tactic| dsimp only [tNext, tRet, tSeq, tCall, tCB, tC, tCons, tNil, tAsg, tDrop, sFld])
def rSortTu (K : PySem.W.Frag) : List V → Hp → VK → Prop := fun vs H Q => ∃ (a : Addr) (ns : List Int), vs = [V.ref a] ∧ SqT K H a (ns.map V.int) ∧ ns.length < 64 ∧ ∀ (ys : List Int) (p : Addr), ys.Perm ns → ys.Pairwise (· ≤ ·) → H p = none → Q (.ref p) (upd H p (.lst (ys.map V.int)))
theorem cr_sortTu {X : Cx} {K : PySem.W.Frag} (hK : X.K = K := by rfl) : CallR X (.builtin "sorted") (rSortTu K) := by
  subst hK
  intro pins s σ H vs us Q I r h
  obtain ⟨a, ns, rfl, hs, h64, q⟩ := h
  obtain ⟨its, rv, pl, _⟩ := I.tuple hs
  rw [Vals.ref1 r]
  have hi := rv.ints
  have hl : its.length = ns.length := hi.length
  obtain ⟨o, ho, hc, n, hd⟩ := id pl
  have z16 : its.length ≤ sizeLine := by rw [hl, sizeLine_eq]; omega
  refine Calls.call_function_entry kind_sorted plain_sorted entry_sorted (args_sorted1 _) ?_
  unfold Builtin.«sorted»
  refine wpAny_bind (m := checkCount "sorted" 1 1 _) (wpAny_pure ?_)
  refine wpAny_bind (wpAny_collect_seq a (.inr rfl) ho hc hd (fun g keep => ?_) (by simpa using z16))
  have e1 : its.toArray.toList = its := by simp
  rw [e1]
  have J : Inv X pins σ H { s with heap := g } := I.kept (t' := s.toks) keep
  refine wpAny_bind (wpAny_newList ?_ z16)
  have at_ : (g.push (seqObj "list" its.toArray 0)).get? g.objs.size = some (seqObj "list" its.toArray 0) := Heap.get?_push_size _ rfl
  show wpAny _ _ _ _ _ { s with heap := g.push (seqObj "list" its.toArray 0) }
  refine wpAny_bind (wpAny_holding (wpAny_call_entry slot_list_sort ⟨_, at_, rfl⟩ entry_list_sort (list_sort_tree (s := { s with heap := g.push (seqObj "list" its.toArray 0) }) at_ hi (by rw [hl]; exact h64) fun out ys g1 g2 g3 => ⟨_, rfl, ?_⟩) (args_list_sort _)))
  obtain ⟨e', he'⟩ := sortedHeap_at (vs := its) (out := out) at_
  have few : (ys.map V.int).length ≤ sizeLine := by
    rw [List.length_map, g2.length_eq, ← hl]
    exact z16
  have new : ObjOk X.prog X.w (upd H g.objs.size (.lst (ys.map V.int))) (sortedHeap (g.push (seqObj "list" its.toArray 0)) g.objs.size its out) g.objs.size (.lst (ys.map V.int)) := ⟨few, out.toList, e', vals_of_ints g1, by rw [Array.toArray_toList]; exact he'⟩
  refine wpAny_pure ⟨_, rfl, .ref g.objs.size, _, J.laid (t' := s.toks) (fun b u e => ?_) (Nat.le_refl _) new, rfl, q ys _ g2 g3 (J.hok.fresh (Nat.le_refl _))⟩
  have hb : b < g.objs.size := Heap.lt_size e
  have hb2 : b < (g.push (seqObj "list" its.toArray 0)).objs.size := by rw [size_push']; exact Nat.lt_succ_of_lt hb
  exact (sortedHeap_old (Nat.ne_of_lt hb) hb2).trans (Heap.get?_push_of_some _ e)
/-! ### Plan(..) as a term -/
theorem mk_plan {C CP : Addr} {H : Hp} {k p1 p2 : V} {p : Pl} {Q : VK} {E : XK} (hk : KindV C H k p.t) (h1 : TeamV H p1 p.f) (h2 : TeamV H p2 p.g) (ok : p.Ok) (q : ∀ v H', Same H H' → PlanV C CP H' v p → Q v H') :
    ∀ x dx, H x = none → H dx = none → dx ≠ x → sp_pinit C CP (V.ref x :: ([k, .int (p.s : Int), p1, p2] ++ [])) (upd (upd H dx (.own x)) x (.ins CP dx [])) (fun v H2 => v = V.non ∧ Q (V.ref x) H2) E := fun x dx nx ndx hne => by
  have e1 : Same H (upd (upd H dx (.own x)) x (.ins CP dx [])) := (same_new ndx).trans (same_new ((upd_ne hne.symm).trans nx))
  refine ⟨x, dx, k, p1, p2, p, rfl, upd_same, hk.keep e1, h1.keep e1, h2.keep e1, ok, fun H' pv fr => ⟨rfl, q _ H' (fun b o e => ?_) pv⟩⟩
  have nb : b ≠ x := fun z => by
    rw [z, nx] at e
    cases e
  exact fr b o nb (e1 _ _ e)
section
variable {K : PySem.W.Frag} {C CP : Addr} {σ : L2.St} {H : Hp} {tk ts t1 t2 : TE} {E : XK} {p : Pl}
theorem ev_plan (hk : Ev tk σ H fun v H1 => KindV C H1 v p.t) (hs : ∀ H1, Same H H1 → Ev ts σ H1 fun v _ => v = .int (p.s : Int)) (h1 : ∀ H1, Same H H1 → Ev t1 σ H1 fun v H2 => TeamV H2 v p.f) (h2 : ∀ H1, Same H H1 → Ev t2 σ H1 fun v H2 => TeamV H2 v p.g) (ok : p.Ok) :
    Ev (tMake CP (sp_pinit C CP) [] E (tCons tk (tCons ts (tCons t1 (tCons t2 tNil))))) σ H fun v H1 => PlanV C CP H1 v p := fun Q q =>
  hk _ fun v H1 e1 k1 => hs H1 e1 _ fun v2 H2 e2 k2 => by
    subst k2
    exact h1 H2 (e1.trans e2) _ fun v3 H3 e3 k3 => h2 H3 (e1.trans (e2.trans e3)) _ fun v4 H4 e4 k4 => mk_plan (Q := Q) (k1.keep (e2.trans (e3.trans e4))) (k3.keep e4) k4 ok fun v H' e' pv => q v H' (e1.trans (e2.trans (e3.trans (e4.trans e')))) pv
end
section
variable {P : Program} {w : World} {K : PySem.W.Frag} {mg : Str → Option Value} {base : Heap} {C CP : Addr}
abbrev s_pkind : Stmt := inClass (top 29) 1
abbrev s_pstart : Stmt := inClass (top 29) 2
abbrev s_pteams : Stmt := inClass (top 29) 3
abbrev s_pthreads : Stmt := inClass (top 29) 4
abbrev s_plen : Stmt := inClass (top 29) 18
abbrev s_peq : Stmt := inClass (top 29) 19
theorem sc_pkind : FnScope ["self"] ["self"] (defScope s_pkind) := ⟨rfl, rfl, rfl, by decide +kernel, rfl, by decide +kernel, by decide +kernel⟩
theorem sc_pstart : FnScope ["self"] ["self"] (defScope s_pstart) := ⟨rfl, rfl, rfl, by decide +kernel, rfl, by decide +kernel, by decide +kernel⟩
theorem sc_pteams : FnScope ["self"] ["self"] (defScope s_pteams) := ⟨rfl, rfl, rfl, by decide +kernel, rfl, by decide +kernel, by decide +kernel⟩
theorem sc_pthreads : FnScope ["self"] ["self"] (defScope s_pthreads) := ⟨rfl, rfl, rfl, by decide +kernel, rfl, by decide +kernel, by decide +kernel⟩
theorem sc_plen : FnScope ["self"] ["self"] (defScope s_plen) := ⟨rfl, rfl, rfl, by decide +kernel, rfl, by decide +kernel, by decide +kernel⟩
theorem sc_peq : FnScope ["self", "other"] ["self", "other"] (defScope s_peq) := ⟨rfl, rfl, rfl, by decide +kernel, rfl, by decide +kernel, by decide +kernel⟩
def sp_pkind (C CP : Addr) : Sp := fun vs H Q _ => ∃ (v : V) (p : Pl), vs = [v] ∧ PlanV C CP H v p ∧ ∀ k, KindV C H k p.t → Q k H
def sp_pstart (C CP : Addr) : Sp := fun vs H Q _ => ∃ (v : V) (p : Pl), vs = [v] ∧ PlanV C CP H v p ∧ Q (.int (p.s : Int)) H
def sp_pteams (C CP : Addr) : Sp := fun vs H Q _ => ∃ (v : V) (p : Pl), vs = [v] ∧ PlanV C CP H v p ∧ ∀ tm p1 p2, H tm = some (.tup [p1, p2]) → TeamV H p1 p.f → TeamV H p2 p.g → Q (.ref tm) H
def sp_pthreads (C CP : Addr) : Sp := fun vs H Q _ => ∃ (v : V) (p : Pl), vs = [v] ∧ PlanV C CP H v p ∧ ∀ th, H th = some (.tup (strV p.th)) → Q (.ref th) H
theorem ok_pkind (TP : Kp K CP) (D : DfP K CP "kind" "Plan.kind" s_pkind) : OkP P w K mg base CP "kind" 1 (sp_pkind C CP) := by
  refine D.ok sc_pkind (fun vs H Q E h => ?_) (fun f cdv A outer s H vs Q E hr h => ?_)
  · obtain ⟨v, p, rfl, _⟩ := h
    rfl
  · obtain ⟨v, p, rfl, ⟨a, dx, k, tm, p1, p2, th, rfl, ha, hk, _⟩, q⟩ := h
    exact ⟨_, pss_one (ps_ret (pe_fld (pv 0) rfl)), _, rfl, a, CP, dx, _, _, rfl, ha, TP.cl, TP.nK, pf_K _ _ _ _, q k hk⟩
theorem ok_pstart (TP : Kp K CP) (D : DfP K CP "start" "Plan.start" s_pstart) : OkP P w K mg base CP "start" 1 (sp_pstart C CP) := by
  refine D.ok sc_pstart (fun vs H Q E h => ?_) (fun f cdv A outer s H vs Q E hr h => ?_)
  · obtain ⟨v, p, rfl, _⟩ := h
    rfl
  · obtain ⟨v, p, rfl, ⟨a, dx, k, tm, p1, p2, th, rfl, ha, _⟩, q⟩ := h
    exact ⟨_, pss_one (ps_ret (pe_fld (pv 0) rfl)), _, rfl, a, CP, dx, _, _, rfl, ha, TP.cl, TP.nS, pf_S _ _ _ _, q⟩
theorem ok_pteams (TP : Kp K CP) (D : DfP K CP "teams" "Plan.teams" s_pteams) : OkP P w K mg base CP "teams" 1 (sp_pteams C CP) := by
  refine D.ok sc_pteams (fun vs H Q E h => ?_) (fun f cdv A outer s H vs Q E hr h => ?_)
  · obtain ⟨v, p, rfl, _⟩ := h
    rfl
  · obtain ⟨v, p, rfl, ⟨a, dx, k, tm, p1, p2, th, rfl, ha, hk, htm, h1, h2, _⟩, q⟩ := h
    exact ⟨_, pss_one (ps_ret (pe_fld (pv 0) rfl)), _, rfl, a, CP, dx, _, _, rfl, ha, TP.cl, TP.nM, pf_M _ _ _ _, q tm p1 p2 htm h1 h2⟩
theorem ok_pthreads (TP : Kp K CP) (D : DfP K CP "threads" "Plan.threads" s_pthreads) : OkP P w K mg base CP "threads" 1 (sp_pthreads C CP) := by
  refine D.ok sc_pthreads (fun vs H Q E h => ?_) (fun f cdv A outer s H vs Q E hr h => ?_)
  · obtain ⟨v, p, rfl, _⟩ := h
    rfl
  · obtain ⟨v, p, rfl, ⟨a, dx, k, tm, p1, p2, th, rfl, ha, hk, htm, h1, h2, hth, _⟩, q⟩ := h
    exact ⟨_, pss_one (ps_ret (pe_fld (pv 0) rfl)), _, rfl, a, CP, dx, _, _, rfl, ha, TP.cl, TP.nH, pf_H _ _ _ _, q th hth⟩
def sp_plen (C CP : Addr) : Sp := fun vs H Q _ => ∃ (v : V) (p : Pl), vs = [v] ∧ PlanV C CP H v p ∧ Q (.int (p.th.length : Int)) H
theorem ok_plen (B : Bt mg) (TP : Kp K CP) (D : DfS K CP "__len__" "Plan.__len__" s_plen ["self"]) : OkS P w K mg base CP "__len__" 1 ["self"] (sp_plen C CP) := by
  refine D.ok sc_plen (fun vs H Q E h => ?_) (fun f cdv A outer s H vs Q E hr h => ?_)
  · obtain ⟨v, p, rfl, _⟩ := h
    rfl
  · obtain ⟨v, p, rfl, ⟨a, dx, k, tm, p1, p2, th, rfl, ha, hk, htm, h1, h2, hth, _⟩, q⟩ := h
    refine ⟨_, pss_one (ps_ret (pe_callB (lenK (K := K)) (by rfl) B.len (by decide +kernel) (pa_cons (pe_fld (pv 0) rfl) (pa_nil)))), ?_⟩
    refine ⟨_, rfl, a, CP, dx, _, _, rfl, ha, TP.cl, TP.nH, pf_H _ _ _ _, th, _, rfl, .inr (SqT.of hth), ?_⟩
    rw [show (strV p.th).length = p.th.length from List.length_map _]
    exact q
end
end Tm

/-! Plan.__eq__ (equal ones), is_order (orders), played. -/
namespace Tm
open PySem PySem.Spec PyProof.Rows L2 TmE
local macro_rules | `(tactic| walk_at "x") => `(tactic| dsimp only [tNext, tRet, tSeq, tCall, tCB, tC, tCons, tNil, tAsg, tDrop, sFld])
def teamD (l : List Str) : PyData := .tuple (l.map .str)
theorem nice_team {l : List Str} (h : l.all PyData.strOk = true) : Nice 1 (teamD l) := nice_strsT h
theorem TeamV.dp {K : PySem.W.Frag} {H : Hp} {v : V} {l : List Str} (h : TeamV H v l) : Dp K H v (teamD l) := by
  obtain ⟨p, rfl, h⟩ := h
  exact .tup (.inl h) (dp_strs l)
def teamsD (p : Pl) : PyData := .tuple [teamD p.f, teamD p.g]
def Pl.So (p : Pl) : Prop := (namesT p.t).all PyData.strOk = true
theorem Pl.soF {p : Pl} (h : p.So) (ok : p.Ok) : p.f.all PyData.strOk = true ∧ p.g.all PyData.strOk = true := by
  unfold Pl.So at h
  rw [List.all_eq_true] at h
  exact ⟨List.all_eq_true.mpr fun x hx => h x (ok.all x (List.mem_append_left _ hx)), List.all_eq_true.mpr fun x hx => h x (ok.all x (List.mem_append_right _ hx))⟩
theorem nice_teams {p : Pl} (h : p.So) (ok : p.Ok) : Nice 2 (teamsD p) := .tuple fun d hd => by
  obtain ⟨h1, h2⟩ := p.soF h ok
  rcases List.mem_cons.mp hd with z | z
  · rw [z]
    exact nice_team h1
  · rw [List.mem_singleton.mp z]
    exact nice_team h2
section
variable {P : Program} {w : World} {K : PySem.W.Frag} {mg : Str → Option Value} {base : Heap} {C CP : Addr}
def sp_peq (C CP : Addr) : Sp := fun vs H Q _ => ∃ (v u : V) (p : Pl), vs = [v, u] ∧ PlanV C CP H v p ∧ PlanV C CP H u p ∧ p.So ∧ Q (.bl true) H
theorem ok_peq (B : Bt mg) (TP : Kp K CP) (TE : KcE K CP) (gP : mg "Plan" = some (.ref CP)) (OS_eq : OkS P w K mg base C "__eq__" 1 ["self", "other"] (sp_keq C)) (D : DfS K CP "__eq__" "Plan.__eq__" s_peq ["self", "other"]) : OkS P w K mg base CP "__eq__" 2 ["self", "other"] (sp_peq C CP) := by
  refine D.ok sc_peq (fun vs H Q E h => ?_) (fun f cdv A outer s H vs Q E hr h => ?_)
  · obtain ⟨v, u, p, rfl, _⟩ := h
    rfl
  · obtain ⟨v, u, p, rfl, ⟨a, dx, k, tm, p1, p2, th, rfl, ha, hk, htm, h1, h2, hth, ok⟩, ⟨b, dy, k', tm', p1', p2', th', rfl, hb, hk', htm', h1', h2', hth', _⟩, so, q⟩ := h
    have hu64 : (A.deeper (envOfC "Plan.__eq__" (defScope s_peq) s.heap.objs.size f cdv)).units + 64 < cLine := by
      have := hr.un
      omega
    refine ⟨_, pss_cons (ps_if (pt_not (pt_val (pe_callB (isiK (K := K)) (by rfl) B.isinstance (by decide +kernel) (pa_cons (pv 1) (pa_cons (pe_glob (v := .ref CP) (by rfl) gP rfl) (pa_nil))))))
        (pss_one (ps_ret (pe_bl)))
        (pss_nil))
      (pss_one (ps_ret (pe_and (pe_cmpR (op_eqO OS_eq (hr.mono (by decide))) (pe_fld (pv 0) rfl) (pe_fld (pv 1) rfl) (nomark _)) (pe_and (pe_cmpR op_eq (pe_fld (pv 0) rfl) (pe_fld (pv 1) rfl) (nomark _)) (pe_one (pe_cmpR (op_eqD hu64) (pe_fld (pv 0) rfl) (pe_fld (pv 1) rfl) (nomark _))))))), ?_⟩
    refine ⟨_, rfl, _, .ref CP, _, _, true, rfl, .own CP, .base (.ins hb TP.cl TE.cla TE.cg TE.ct TE.mr), TE.is_, _, rfl, ?_⟩
    refine ifF rfl ?_
    try dsimp only [tNext]
    obtain ⟨ka, kdx, _, _, rfl, hka, _⟩ := id hk
    obtain ⟨kb, kdy, _, _, rfl, hkb, _⟩ := id hk'
    refine ⟨_, rfl, a, CP, dx, _, _, rfl, ha, TP.cl, TP.nK, pf_K _ _ _ _, _, rfl, b, CP, dy, _, _, rfl, hb, TP.cl, TP.nK, pf_K _ _ _ _, ?_⟩
    refine ⟨ka, kb, kdx, kdy, _, _, rfl, rfl, hka, hkb, _, _, _, _, rfl, hk, hk', _, rfl, _, rfl, ?_⟩
    refine ifT (same_self _) ?_
    refine ⟨_, rfl, a, CP, dx, _, _, rfl, ha, TP.cl, TP.nS, pf_S _ _ _ _, _, rfl, b, CP, dy, _, _, rfl, hb, TP.cl, TP.nS, pf_S _ _ _ _, rfl, _, rfl, ifT (decide_eq_true rfl) ?_⟩
    refine ⟨_, rfl, a, CP, dx, _, _, rfl, ha, TP.cl, TP.nM, pf_M _ _ _ _, _, rfl, b, CP, dy, _, _, rfl, hb, TP.cl, TP.nM, pf_M _ _ _ _, ?_⟩
    have n := nice_teams so ok
    refine ⟨teamsD p, teamsD p, .tup (SqT.of htm) (.cons h1.dp (.cons h2.dp .nil)), .tup (SqT.of htm') (.cons h1'.dp (.cons h2'.dp .nil)), n.shaped (by decide), n.shaped (by decide), ?_⟩
    rw [n.eqv]
    exact q
/-- self.f within a comprehension -/
theorem pe_fldK {X : Cx} {K : PySem.W.Frag} {e : Expr} {f : Str} {pos : Pos} {ta : TE} (he : PE X e ta) (hb : attributeBase e f X.env (eval e X.env) = eval e X.env) (hK : X.K = K := by rfl) : PE X (.Attribute e f pos) (tFld K ta f) := by
  subst hK
  exact pe_fld he hb
/-! ### orders -/
structure OrdOk (p : Pl) (o : List Nat) : Prop where
  ne : o ≠ []
  nd : o.Nodup
  lt : ∀ i ∈ o, i < p.th.length
theorem OrdOk.len {p : Pl} {o : List Nat} (h : OrdOk p o) : o.length ≤ p.th.length := by
  have := List.Nodup.length_le_of_subset h.nd (l₂ := List.range p.th.length) fun x hx => List.mem_range.mpr (h.lt x hx)
  rwa [List.length_range] at this
end
end Tm

/-! Plan.turned, Plan.mapped, Plan.renamed. -/
namespace Tm
open PySem PySem.Spec PyProof.Rows L2 TmE
local macro_rules | `(tactic| walk_at "x") => `(tactic| dsimp only [tNext, tRet, tSeq, tCall, tCB, tC, tCons, tNil, tAsg, tDrop, sFld])
theorem over_nm (S : List Nat) (g : Int → Option Int) (t : Tab) : namesT (overT S g t) = namesT t := over_names S g t
section
variable {P : Program} {w : World} {K : PySem.W.Frag} {mg : Str → Option Value} {base : Heap} {C CP : Addr}
abbrev s_pturn : Stmt := inClass (top 29) 15
theorem sc_pturn : FnScope ["self", "numbers", "kind"] ["self", "numbers"] (defScope s_pturn) := ⟨rfl, rfl, rfl, by decide +kernel, rfl, by decide +kernel, by decide +kernel⟩
def sp_pturn (C CP : Addr) : Sp := fun vs H Q _ => ∃ (v : V) (p : Pl) (a : Addr) (ns states : List Nat), vs = [v, .ref a] ∧ PlanV C CP H v p ∧ TupD H a ns ∧ TurnOk p.t ns states ∧ okTab (overT states (gOfN ns) p.t) = true ∧ sizeT (overT states (gOfN ns) p.t) = sizeT p.t ∧
  ∀ u H' t', Same H H' → t'.Perm (overT states (gOfN ns) p.t) → PlanV C CP H' u ⟨t', ns.getD p.s 0, p.f, p.g⟩ → Q u H'
theorem ok_pturn (TP : Kp K CP) (T : Kc K C) (OM_turned : OkM P w K mg base C "turned" 8 ["self", "numbers"] (sp_turned C)) (OC_Plan : OkC P w K mg base "Plan" CP 4 ["self", "kind", "start", "first", "second"] (sp_pinit C CP)) (D : DfM K CP "turned" "Plan.turned" s_pturn ["self", "numbers"]) : OkM P w K mg base CP "turned" 9 ["self", "numbers"] (sp_pturn C CP) := by
  refine D.ok sc_pturn (fun vs H Q E h => ?_) (fun f cdv A outer s H vs Q E hr h => ?_)
  · obtain ⟨v, p, a, ns, states, rfl, _⟩ := h
    rfl
  · obtain ⟨v, p, na, ns, states, rfl, hp, hn, tk, ok2, sz, q⟩ := h
    refine ⟨_, pss_cons (ps_set (i := 2) sc_pturn.nd rfl (.inl rfl) (OM_turned.call hr T.cl (he := pe_fld (pv 0) rfl) (ha := pa_cons (pv 1) (pa_nil))))
      (pss_one (ps_ret (OC_Plan.make hr (ha := pa_cons (pv 2) (pa_cons (pe_ix (ixTK (K := K)) (pv 1) (pe_fld (pv 0) rfl) (fun _ _ => rfl)) (pa_cons (pe_ix (ixTK (K := K)) (pe_fld (pv 0) rfl) (pe_int) (fun _ _ => rfl)) (pa_cons (pe_ix (ixTK (K := K)) (pe_fld (pv 0) rfl) (pe_int) (fun _ _ => rfl)) (pa_nil)))))))), ?_⟩
    obtain ⟨a, dx, k, tm, p1, p2, th, rfl, ha, hk, htm, h1, h2, hth, ok⟩ := id hp
    obtain ⟨ka, kdx, _, _, rfl, hka, _⟩ := id hk
    have nd := hk.ok.2.1
    have ls : p.s < ns.length := by rw [tk.len]; exact ok.s
    refine ⟨_, rfl, a, CP, dx, _, _, rfl, ha, TP.cl, TP.nK, pf_K _ _ _ _, ka, kdx, _, rfl, hka, kf_no _ _, _, rfl, .ref ka, p.t, na, ns, states, rfl, hk, hn, tk, ok2, by rw [over_nm]; exact nd, fun u H1 t' e1 hk1 pm => ?_⟩
    dsimp only [gName]
    try dsimp only [tRet]
    have lt : ns.getD p.s 0 < sizeT p.t := by
      have := List.all_eq_true.mp tk.lt
      rw [List.getD_eq_getElem?_getD, List.getElem?_eq_getElem ls]
      exact of_decide_eq_true (this _ (List.getElem_mem ls))
    have szt : sizeT t' = sizeT p.t := by rw [size_perm ok2 pm, sz]
    have okn : Pl.Ok ⟨t', ns.getD p.s 0, p.f, p.g⟩ := ⟨by show _ < sizeT t'; rw [szt]; exact lt, ok.f, ok.g, ok.few, fun x hx => by
      have := ok.all x hx
      rw [← over_nm states (gOfN ns) p.t] at this
      exact (pm.map (fun e : Str × Row => e.1)).mem_iff.mpr this⟩
    refine ev_plan (C := C) (p := ⟨t', ns.getD p.s 0, p.f, p.g⟩) (ev_is rfl hk1) (fun H2 e2 Q q => ?_) (fun H2 e2 Q q => ?_) (fun H2 e2 Q q => ?_) okn _ fun v H' e' pv => q v H' t' (e1.trans e') pm pv
    · have e12 := e1.trans e2
      exact ⟨_, rfl, _, rfl, a, CP, dx, _, _, rfl, e12 _ _ ha, TP.cl, TP.nS, pf_S _ _ _ _, na, natV ns, _, _, rfl, rfl, .inl (hn.keep e12).rd, atI_nat (natV_at ls), q _ _ (Same.refl _) rfl⟩
    · have e12 := e1.trans e2
      exact ⟨_, rfl, a, CP, dx, _, _, rfl, e12 _ _ ha, TP.cl, TP.nM, pf_M _ _ _ _, tm, _, _, _, rfl, rfl, SqT.of (e12 _ _ htm), atI_nat (j := 0) rfl, q _ _ (Same.refl _) (h1.keep e12)⟩
    · have e12 := e1.trans e2
      exact ⟨_, rfl, a, CP, dx, _, _, rfl, e12 _ _ ha, TP.cl, TP.nM, pf_M _ _ _ _, tm, _, _, _, rfl, rfl, SqT.of (e12 _ _ htm), atI_nat (j := 1) rfl, q _ _ (Same.refl _) (h2.keep e12)⟩
end
end Tm

/-! Plan.renamed. -/
namespace Tm
open PySem PySem.Spec PyProof.Rows L2 TmE
local macro_rules | `(tactic| walk_at "x") => `(tactic| dsimp only [tNext, tRet, tSeq, tCall, tCB, tC, tCons, tNil, tAsg, tDrop, sFld])
section
variable {P : Program} {w : World} {K : PySem.W.Frag} {mg : Str → Option Value} {base : Heap} {C CP : Addr}
abbrev s_pren : Stmt := inClass (top 29) 14
theorem sc_pren : FnScope ["self", "names", "kind", "first", "second", "team", "name"] ["self", "names"] (defScope s_pren) := ⟨rfl, rfl, rfl, by decide +kernel, rfl, by decide +kernel, by decide +kernel⟩
def sp_pren (C CP : Addr) : Sp := fun vs H Q _ => ∃ (v : V) (p : Pl) (d : Addr) (ns : Nms), vs = [v, .ref d] ∧ PlanV C CP H v p ∧ NmV H d ns ∧ (∀ e ∈ ns, e.1 ∈ namesT p.t ∧ okName e.2 = true) ∧ (ns.map (·.1)).Nodup ∧ ns.length ≤ 100 ∧ okTab (renT ns p.t) = true ∧ (namesT (renT ns p.t)).Nodup ∧ sizeT (renT ns p.t) = sizeT p.t ∧
  ∀ u H' t', Same H H' → t'.Perm (renT ns p.t) → PlanV C CP H' u ⟨t', p.s, p.f.map (ren ns), p.g.map (ren ns)⟩ → Q u H'
theorem ok_pren (B : Bt mg) (TP : Kp K CP) (T : Kc K C) (OM_renamed : OkM P w K mg base C "renamed" 7 ["self", "names"] (sp_renamedB C)) (OC_Plan : OkC P w K mg base "Plan" CP 4 ["self", "kind", "start", "first", "second"] (sp_pinit C CP)) (D : DfM K CP "renamed" "Plan.renamed" s_pren ["self", "names"]) : OkM P w K mg base CP "renamed" 8 ["self", "names"] (sp_pren C CP) := by
  refine D.ok sc_pren (fun vs H Q E h => ?_) (fun f cdv A outer s H vs Q E hr h => ?_)
  · obtain ⟨v, p, d, ns, rfl, _⟩ := h
    rfl
  · obtain ⟨v, p, dn, ns, rfl, hp, hn, good, ndk, fewn, ok2, nd2, sz, q⟩ := h
    have hu := hu_of hr
    refine ⟨_, pss_cons (ps_set (i := 2) sc_pren.nd rfl (.inl rfl) (OM_renamed.call hr T.cl (he := pe_fld (pv 0) rfl) (ha := pa_cons (pv 1) (pa_nil))))
      (pss_cons (ps_asg (pe_lc (own := [("team", 5)]) (g := gName 5) (tt := tYes) rfl sc_pren.nd (piT (K := K) (pe_fld (pv 0) rfl)) (blkOk_by (own := [("team", 5)]) (N := ["self", "names", "kind", "first", "second", "team", "name"]) (sc := defScope s_pren) (by decide +kernel)) (fun _ _ _ _ _ => pg_name (i := 5) sc_pren.nd rfl (.inl rfl)) (fun _ _ _ _ _ => pts_nil) (fun _ _ _ _ _ => pe_callTy (tupleK (K := K)) (by rfl) B.tuple (by decide +kernel) (pa_cons (pe_lc (own := [("name", 6)]) (g := gName 6) (tt := tYes) rfl sc_pren.nd (piT (K := K) (pv 5)) (blkOk_by (own := [("name", 6)]) (N := ["self", "names", "kind", "first", "second", "team", "name"]) (by rfl)) (fun _ _ _ _ _ => pg_name (i := 6) sc_pren.nd rfl (.inl rfl)) (fun _ _ _ _ _ => pts_nil) (fun _ _ _ _ _ => pe_dget2 hu (pv 1) (pv 6) (pv 6) ⟨rfl, rfl, rfl, rfl⟩)) (pa_nil)))) (pg_lst (by rfl) (pgs_cons (pg_name (i := 3) sc_pren.nd rfl (.inl rfl)) (pgs_cons (pg_name (i := 4) sc_pren.nd rfl (.inl rfl)) (pgs_nil)))))
      (pss_one (ps_ret (OC_Plan.make hr (ha := pa_cons (pv 2) (pa_cons (pe_fld (pv 0) rfl) (pa_cons (pv 3) (pa_cons (pv 4) (pa_nil))))))))), ?_⟩
    obtain ⟨a, dx, k, tm, p1, p2, th, rfl, ha, hk, htm, h1, h2, hth, ok⟩ := id hp
    obtain ⟨ka, kdx, _, _, rfl, hka, _⟩ := id hk
    refine ⟨_, rfl, a, CP, dx, _, _, rfl, ha, TP.cl, TP.nK, pf_K _ _ _ _, ka, kdx, _, rfl, hka, kf_no _ _, _, rfl, .ref ka, p.t, dn, ns, rfl, hk, hn, good, ndk, fewn, ok2, nd2, fun u H1 t' e1 hk1 pm => ?_⟩
    dsimp only [gName]
    try dsimp only [tSeq, tAsg]
    have few := ok.few
    obtain ⟨kvn, hdn, hpn⟩ := hn
    have hdn1 := e1 _ _ hdn
    have ht1 := h1.keep e1
    have ht2 := h2.keep e1
    have htm1 := e1 _ _ htm
    refine lc_runT (K := K) (xs := [p1, p2]) (fun Q q => ⟨_, rfl, a, CP, dx, _, _, rfl, e1 _ _ ha, TP.cl, TP.nM, pf_M _ _ _ _, q _ _ (Same.refl _) ⟨tm, rfl, SqT.of htm1⟩⟩) [p.f, p.g] rfl (fun _ => true) (fun l v H => ∃ r, v = .ref r ∧ H r = some (.tup (strV (l.map (ren ns))))) (by show 2 ≤ 100000; decide) (by intro _; rfl) (fun _ _ _ _ e ⟨r, e1, e2⟩ => ⟨r, e1, e _ _ e2⟩)
      (fun i l x H2 hi hx e2 => ⟨evt_yes, fun _ H3 e3 Q q => ?_⟩) (fun fp H2 ys hfp e2 hys hP => ?_)
    · have e13 := e2.trans e3
      obtain ⟨r, rfl, hr0⟩ : TeamV H3 x l := by
        match i, hi, hx with
        | 0, hi, hx =>
          cases hi
          cases hx
          exact ht1.keep e13
        | 1, hi, hx =>
          cases hi
          cases hx
          exact ht2.keep e13
        | i + 2, hi, _ => nomatch hi
      have l6 : l.length ≤ 6 := by
        match i, hi with
        | 0, hi =>
          cases hi
          omega
        | 1, hi =>
          cases hi
          omega
        | i + 2, hi => nomatch hi
      dsimp only [tCB, tCons, tNil]
      refine lc_runT (K := K) (xs := strV l) (ev_is rfl ⟨r, rfl, .inl hr0⟩) l (by unfold strV; rw [List.length_map]) (fun _ => true) (fun z v _ => v = V.str (ren ns z)) (by omega) (by intro _; rfl) (fun _ _ _ _ _ h => h)
        (fun j z y H4 hj hy e4 => ⟨evt_yes, fun _ H5 e5 Q q => ?_⟩) (fun p5 H5 ys hp5 e5 hl' hP => ?_)
      · have hz : y = .str z := by
          unfold strV at hy
          rw [List.getElem?_map, hj] at hy
          exact (Option.some.inj hy).symm
        subst hz
        have hdn5 := (e13.trans (e4.trans e5)) _ _ hdn1
        refine ⟨_, rfl, dn, rfl, .inl ⟨_, .inl hdn5⟩, _, rfl, _, rfl, _, DGet.k (k := Sum.inr z) hdn5, q _ _ (Same.refl _) ?_⟩
        rw [look_nm _ hpn]
        unfold ren
        cases lookN ns z <;> rfl
      · rw [filter_all] at hP
        have ey : ys = strV (l.map (ren ns)) := by
          rw [paired_fun hP]
          unfold strV
          rw [List.map_map]
          rfl
        subst ey
        exact ⟨p5, _, rfl, .inl ⟨SqL.of hl', fun r2 hr2 => q _ _ (e5.trans (same_new hr2)) ⟨r2, rfl, upd_same⟩⟩⟩
    · rw [filter_all] at hP
      obtain ⟨r1, r2, rfl, hr1, hr2⟩ : ∃ r1 r2, ys = [.ref r1, .ref r2] ∧ H2 r1 = some (.tup (strV (p.f.map (ren ns)))) ∧ H2 r2 = some (.tup (strV (p.g.map (ren ns)))) := by
        cases hP with
        | cons h t =>
          obtain ⟨r1, rfl, h1⟩ := h
          cases t with
          | cons h t =>
            obtain ⟨r2, rfl, h2⟩ := h
            cases t
            exact ⟨r1, r2, rfl, h1, h2⟩
      refine ⟨fp, _, rfl, SqL.of hys, rfl, _, _, rfl, ?_⟩
      dsimp only [gName]
      refine ⟨_, _, rfl, ?_⟩
      dsimp only [gName]
      refine ⟨rfl, ?_⟩
      try dsimp only [tRet]
      have szt : sizeT t' = sizeT p.t := by rw [size_perm ok2 pm, sz]
      have okn : Pl.Ok ⟨t', p.s, p.f.map (ren ns), p.g.map (ren ns)⟩ := ⟨by show _ < sizeT t'; rw [szt]; exact ok.s, fun z => ok.f (List.map_eq_nil_iff.mp z), fun z => ok.g (List.map_eq_nil_iff.mp z), by dsimp only; rw [List.length_map, List.length_map]; exact few, fun x hx => by
        dsimp only at hx ⊢
        rw [← List.map_append] at hx
        obtain ⟨y, hy, rfl⟩ := List.mem_map.mp hx
        have := ok.all y hy
        refine (pm.map (fun e : Str × Row => e.1)).mem_iff.mpr ?_
        show _ ∈ namesT (renT ns p.t)
        rw [ren_names]
        exact List.mem_map.mpr ⟨y, this, rfl⟩⟩
      have e12 := e1.trans e2
      refine ev_plan (C := C) (p := ⟨t', p.s, p.f.map (ren ns), p.g.map (ren ns)⟩) (ev_is rfl (hk1.keep e2)) (fun H3 e3 Q q => ?_) (fun H3 e3 => ev_is rfl ⟨r1, rfl, .inl (e3 _ _ hr1)⟩) (fun H3 e3 => ev_is rfl ⟨r2, rfl, .inl (e3 _ _ hr2)⟩) okn _ fun v H' e' pv => q v H' t' (e12.trans e') pm pv
      have e13 := e12.trans e3
      exact ⟨_, rfl, a, CP, dx, _, _, rfl, e13 _ _ ha, TP.cl, TP.nS, pf_S _ _ _ _, q _ _ (Same.refl _) rfl⟩
end
end Tm

/-! The purse of drawn numbers. -/
namespace Tm
open PySem PySem.Spec PyProof.Rows L2 TmE
local macro_rules | `(tactic| walk_at "x") => `(tactic| dsimp only [tNext, tRet, tSeq, tCall, tCB, tC, tCons, tNil, tAsg, tDrop, sFld])
section
variable {P : Program} {w : World} {K : PySem.W.Frag} {mg : Str → Option Value} {base : Heap}
abbrev s_purse : Stmt := top 31
theorem sc_law_purse_of : FnScope ["_law_script", "_law_at", "_law_cell", "_law_great"] ["_law_script", "_law_at"] (defScope s_purse) := ⟨rfl, rfl, rfl, by decide +kernel, rfl, by decide +kernel, by decide +kernel⟩
def sp_vat (K : PySem.W.Frag) : Sp := fun vs H Q _ => ∃ (a : Addr) (xs : List Int) (i : Nat), vs = [.ref a, .int (i : Int)] ∧ SqL K H a (xs.map V.int) ∧ i ≤ 1000 ∧ ∀ l p q r, H l = none → Q (.ref l) (upd H l (.lst [.int p, .int q, .int r]))
theorem ok_purse (B : Bt mg) (D : Df K mg "_law_purse_of" s_purse ["_law_script", "_law_at"]) : Ok P w K mg base "_law_purse_of" 1 ["_law_script", "_law_at"] (sp_vat K) := by
  refine D.ok sc_law_purse_of (fun vs H Q E h => ?_) (fun f cdv A outer s H vs Q E hr h => ?_)
  · obtain ⟨a, xs, i, rfl, _⟩ := h
    rfl
  · obtain ⟨a, xs, i, rfl, hs, hi, q⟩ := h
    refine ⟨_, pss_cons (ps_set (i := 2) sc_law_purse_of.nd rfl (.inl rfl) (pe_ifExp (pt_cmpR op_lt (pv 1) (pe_callB (lenK (K := K)) (by rfl) B.len (by decide +kernel) (pa_cons (pv 0) (pa_nil))) (nomark _)) (pe_ix (ixLK (K := K)) (pv 0) (pv 1) (fun _ _ => rfl)) (pe_op op_add (pe_op op_mul (pe_int) (pv 1)) (pe_int))))
      (pss_cons (ps_set (i := 3) sc_law_purse_of.nd rfl (.inl rfl) (pe_op op_mod (pe_callTy call_int1 (by rfl) B.int (by decide +kernel) (pa_cons (pe_callB call_abs (by rfl) B.abs (by decide +kernel) (pa_cons (pv 2) (pa_nil))) (pa_nil))) (pe_op opP (pe_op opP (pe_int) (pe_int)) (pe_int))))
      (pss_one (ps_ret (pe_lst (pa_cons (pe_callB (call_max2 rfl) (by rfl) B.max (by decide +kernel) (pa_cons (pe_int) (pa_cons (pe_op op_sub (pv 3) (pe_op opP (pe_int) (pe_int))) (pa_nil)))) (pa_cons (pe_op op_add (pe_op op_add (pe_op op_mul (pe_callTy call_int1 (by rfl) B.int (by decide +kernel) (pa_cons (pe_op op_add (pe_op op_mul (pv 3) (pe_int)) (pe_callTy call_int1 (by rfl) B.int (by decide +kernel) (pa_cons (pe_cmpR op_lt (pv 2) (pe_int) (nomark _)) (pa_nil)))) (pa_nil))) (pe_int)) (pe_op op_mul (pe_int) (pv 1))) (pe_int)) (pa_cons (pe_int) (pa_nil)))))))), ?_⟩
    refine Ev.go (te := tIf _ _ _) (P := fun v H1 => ∃ c : Int, v = .int c ∧ H1 = H) (fun Q q => ?_) fun v H1 _ hv => ?_
    · refine ⟨_, rfl, _, rfl, a, _, rfl, .inl hs, _, _, rfl, rfl, _, rfl, ite2 (fun h1 => ?_) (fun h1 => ?_)⟩
      · have h2 : (i : Int) < ((xs.map V.int).length : Int) := of_decide_eq_true h1
        rw [List.length_map] at h2
        have hlt : i < xs.length := by omega
        refine ⟨_, rfl, _, rfl, a, _, _, .int xs[i], rfl, rfl, hs, atI_nat (by rw [List.getElem?_map, List.getElem?_eq_getElem hlt]; rfl), q _ H (Same.refl H) ⟨_, rfl, rfl⟩⟩
      · exact ⟨_, rfl, _, _, rfl, rfl, .inl ⟨by decide, by decide⟩, _, _, rfl, rfl, q _ H (Same.refl H) ⟨_, rfl, rfl⟩⟩
    · obtain ⟨c, rfl, rfl⟩ := hv
      have big : (0 : Int) < (10 ^ (61 : Int).toNat) ^ (10 : Int).toNat := Int.pow_pos (Int.pow_pos (by decide))
      refine ⟨_, rfl, c, rfl, .inl ⟨_, rfl, ?_⟩⟩
      refine ⟨_, _, rfl, rfl, by decide +kernel, _, _, rfl, rfl, by decide +kernel, _, _, rfl, rfl, big, ?_⟩
      generalize (if c < 0 then -c else c) % ((10 : Int) ^ (61 : Int).toNat) ^ (10 : Int).toNat = g
      refine ⟨_, rfl, _, _, rfl, rfl, by decide +kernel, _, _, rfl, rfl, _, _, rfl, ?_⟩
      refine ⟨_, rfl, _, _, rfl, rfl, .inr ⟨by decide, by decide⟩, _, rfl, _, _, rfl, rfl, .inr ⟨_, rfl, _, _, rfl, rfl, .inl ⟨_, rfl, _, _, rfl, rfl, .inr ⟨by decide, by decide⟩, ?_⟩⟩⟩
      exact ⟨_, rfl, _, _, rfl, rfl, .inl ⟨by decide, by decide⟩, _, _, rfl, rfl, _, _, rfl, rfl, by show 3 ≤ sizeLine; decide, fun l hl => q l _ _ _ hl⟩
abbrev s_coin : Stmt := top 32
theorem sc_law_coin : FnScope ["_law_purse", "_law_total", "_law_one", "_law_two", "_law_three", "_law_found"] ["_law_purse", "_law_total"] (defScope s_coin) := ⟨rfl, rfl, rfl, by decide +kernel, rfl, by decide +kernel, by decide +kernel⟩
def sp_draw : Sp := fun vs H Q _ => ∃ (l : Addr) (t : Int), vs = [.ref l, .int t] ∧ VatV H l ∧ 0 < t ∧ t < 1073741824 ∧ ∀ (d : Int) H', 0 ≤ d → d < t → KL l H H' → Q (.int d) H'
theorem ok_coin (B : Bt mg) (D : Df K mg "_law_coin" s_coin ["_law_purse", "_law_total"]) : Ok P w K mg base "_law_coin" 1 ["_law_purse", "_law_total"] sp_draw := by
  refine D.ok sc_law_coin (fun vs H Q E h => ?_) (fun f cdv A outer s H vs Q E hr h => ?_)
  · obtain ⟨l, t, rfl, _⟩ := h
    rfl
  · obtain ⟨l, t, rfl, ⟨a, b, c, hl⟩, t0, t1, q⟩ := h
    refine ⟨_, pss_cons (ps_if (pt_cmpR op_gt (pe_ix (ixLK (K := K)) (pv 0) (pe_int) (fun _ _ => rfl)) (pe_int) (nomark _))
        (pss_cons (ps_set (i := 5) sc_law_coin.nd rfl (.inl rfl) (pe_op op_mod (pe_callTy call_int1 (by rfl) B.int (by decide +kernel) (pa_cons (pe_ix (ixLK (K := K)) (pv 0) (pe_int) (fun _ _ => rfl)) (pa_nil))) (pv 1)))
      (pss_cons (ps_asg (pe_op op_fdiv (pe_ix (ixLK (K := K)) (pv 0) (pe_int) (fun _ _ => rfl)) (pv 1)) (pg_sub (pv 0) (pe_int) L2.set_list))
      (pss_one (ps_ret (pv 5)))))
        (pss_nil))
      (pss_cons (ps_asg (pe_op op_add (pe_ix (ixLK (K := K)) (pv 0) (pe_int) (fun _ _ => rfl)) (pe_int)) (pg_sub (pv 0) (pe_int) L2.set_list))
      (pss_cons (ps_set (i := 2) sc_law_coin.nd rfl (.inl rfl) (pe_op op_mod (pe_callTy call_int1 (by rfl) B.int (by decide +kernel) (pa_cons (pe_op op_add (pe_ix (ixLK (K := K)) (pv 0) (pe_int) (fun _ _ => rfl)) (pe_op op_mul (pe_ix (ixLK (K := K)) (pv 0) (pe_int) (fun _ _ => rfl)) (pe_int))) (pa_nil))) (pe_int)))
      (pss_cons (ps_set (i := 3) sc_law_coin.nd rfl (.inl rfl) (pe_op op_mod (pe_callTy call_int1 (by rfl) B.int (by decide +kernel) (pa_cons (pe_op op_add (pe_op op_mul (pv 2) (pv 2)) (pe_op op_mul (pe_ix (ixLK (K := K)) (pv 0) (pe_int) (fun _ _ => rfl)) (pe_int))) (pa_nil))) (pe_int)))
      (pss_cons (ps_set (i := 4) sc_law_coin.nd rfl (.inl rfl) (pe_op op_mod (pe_callTy call_int1 (by rfl) B.int (by decide +kernel) (pa_cons (pe_op op_add (pe_op op_mul (pv 3) (pv 3)) (pv 2)) (pa_nil))) (pe_int)))
      (pss_one (ps_ret (pe_op op_mod (pe_callTy call_int1 (by rfl) B.int (by decide +kernel) (pa_cons (pe_op op_fdiv (pv 4) (pe_int)) (pa_nil))) (pv 1)))))))), ?_⟩
    have sq : ∀ {x y z : Int} {H' : Hp}, H' l = some (.lst [.int x, .int y, .int z]) → SqL K H' l [.int x, .int y, .int z] := fun h => SqL.of h
    have md : ∀ (u m : Int), 0 < m → m < 4611686018427387904 → CMul (u % m) (u % m) := fun u m h0 h1 => by
      have e1 := Int.emod_nonneg u (show m ≠ 0 by omega)
      have e2 := Int.emod_lt_of_pos u h0
      have e3 : (2 : Int) ^ 64 = 18446744073709551616 := by decide
      refine .inl ?_
      rw [e3]
      exact ⟨by omega, by omega⟩
    refine ⟨_, rfl, l, _, _, _, rfl, rfl, sq hl, rfl, _, _, rfl, rfl, _, rfl, ite2 (fun _ => ?_) (fun _ => ?_)⟩
    · refine ⟨_, rfl, l, _, _, _, rfl, rfl, sq hl, rfl, .inl ⟨_, rfl, _, rfl, _, _, rfl, rfl, t0, ?_⟩⟩
      refine ⟨_, rfl, l, _, _, _, rfl, rfl, sq hl, rfl, _, rfl, _, _, rfl, rfl, ⟨t0, t1⟩, ?_⟩
      refine ⟨_, rfl, l, _, _, _, rfl, rfl, hl, rfl, ?_⟩
      exact ⟨_, rfl, q _ _ (Int.emod_nonneg _ (by omega)) (Int.emod_lt_of_pos _ t0) (KL.set _ _ _)⟩
    · refine ⟨_, rfl, l, _, _, _, rfl, rfl, sq hl, rfl, _, _, rfl, rfl, ?_⟩
      refine ⟨_, rfl, l, _, _, _, rfl, rfl, hl, rfl, ?_⟩
      have hl2 : upd H l (.lst [.int a, .int b, .int (c + 1)]) l = some (.lst [.int a, .int b, .int (c + 1)]) := upd_same
      have k2 : KL l H (upd H l (.lst [.int a, .int b, .int (c + 1)])) := KL.set _ _ _
      refine ⟨_, rfl, l, _, _, _, rfl, rfl, sq hl2, rfl, _, rfl, l, _, _, _, rfl, rfl, sq hl2, rfl, _, _, rfl, rfl, .inr ⟨by decide, by decide⟩, _, _, rfl, rfl, .inl ⟨_, rfl, _, _, rfl, rfl, by show (0 : Int) < _; decide, ?_⟩⟩
      refine ⟨_, rfl, _, rfl, _, _, rfl, rfl, md _ _ (by decide) (by decide), ?_⟩
      refine ⟨_, rfl, l, _, _, _, rfl, rfl, sq hl2, rfl, _, _, rfl, rfl, .inr ⟨by decide, by decide⟩, _, _, rfl, rfl, .inl ⟨_, rfl, _, _, rfl, rfl, by show (0 : Int) < _; decide, ?_⟩⟩
      refine ⟨_, rfl, _, rfl, _, _, rfl, rfl, md _ _ (by decide) (by decide), _, rfl, _, _, rfl, rfl, .inl ⟨_, rfl, _, _, rfl, rfl, by show (0 : Int) < _; decide, ?_⟩⟩
      exact ⟨_, rfl, _, _, rfl, rfl, ⟨by decide, by decide⟩, .inl ⟨_, rfl, _, rfl, _, _, rfl, rfl, t0, q _ _ (Int.emod_nonneg _ (by omega)) (Int.emod_lt_of_pos _ t0) k2⟩⟩
abbrev s_lpick : Stmt := top 33
theorem sc_law_pick : FnScope ["_law_purse", "_law_items"] ["_law_purse", "_law_items"] (defScope s_lpick) := ⟨rfl, rfl, rfl, by decide +kernel, rfl, by decide +kernel, by decide +kernel⟩
def sp_pick : Sp := fun vs H Q _ => ∃ (l a : Addr) (xs : List V), vs = [.ref l, .ref a] ∧ VatV H l ∧ H a = some (.lst xs) ∧ a ≠ l ∧ 0 < xs.length ∧ xs.length ≤ 1000 ∧ ∀ v H', v ∈ xs → KL l H H' → Q v H'
theorem ok_pick (B : Bt mg) (O_law_coin : Ok P w K mg base "_law_coin" 1 ["_law_purse", "_law_total"] sp_draw) (D : Df K mg "_law_pick" s_lpick ["_law_purse", "_law_items"]) : Ok P w K mg base "_law_pick" 2 ["_law_purse", "_law_items"] sp_pick := by
  refine D.ok sc_law_pick (fun vs H Q E h => ?_) (fun f cdv A outer s H vs Q E hr h => ?_)
  · obtain ⟨l, a, xs, rfl, _⟩ := h
    rfl
  · obtain ⟨l, a, xs, rfl, hv, ha, nal, h0, h1, q⟩ := h
    refine ⟨_, pss_one (ps_ret (pe_ix (ixLK (K := K)) (pv 1) (O_law_coin.call hr (ha := pa_cons (pv 0) (pa_cons (pe_callB (lenK (K := K)) (by rfl) B.len (by decide +kernel) (pa_cons (pv 1) (pa_nil))) (pa_nil)))) (fun _ _ => rfl))), ?_⟩
    refine ⟨_, rfl, _, rfl, _, rfl, a, xs, rfl, .inl (SqL.of ha), l, _, rfl, hv, by omega, by omega, fun d H' d0 d1 k => ?_⟩
    obtain ⟨j, rfl⟩ := Int.eq_ofNat_of_zero_le d0
    have hj : j < xs.length := by omega
    exact ⟨a, xs, _, xs[j], rfl, rfl, SqL.of (k.1 _ _ ha nal), atI_nat (List.getElem?_eq_getElem hj), q _ H' (List.getElem_mem hj) k⟩
abbrev s_someof : Stmt := top 34
theorem sc_law_some_of : FnScope ["_law_purse", "_law_items", "_law_size", "_law_turn", "_law_left", "_law_found"] ["_law_purse", "_law_items", "_law_size"] (defScope s_someof) := ⟨rfl, rfl, rfl, by decide +kernel, rfl, by decide +kernel, by decide +kernel⟩
def sp_someof : Sp := fun vs H Q _ => ∃ (l a : Addr) (c : Nat) (xs : List V), vs = [.ref l, .ref a, .int (c : Int)] ∧ VatV H l ∧ H a = some (.lst xs) ∧ a ≠ l ∧ c ≤ 1000 ∧ xs.length ≤ 1000 ∧
  ∀ p H' (ys zs : List V), H p = none → p ≠ l → KL l H H' → H' p = some (.lst ys) → xs.Perm (ys ++ zs) → ys.length = min c xs.length → Q (.ref p) H'
theorem ok_someof (B : Bt mg) (O_law_coin : Ok P w K mg base "_law_coin" 1 ["_law_purse", "_law_total"] sp_draw) (D : Df K mg "_law_some_of" s_someof ["_law_purse", "_law_items", "_law_size"]) : Ok P w K mg base "_law_some_of" 2 ["_law_purse", "_law_items", "_law_size"] sp_someof := by
  refine D.ok sc_law_some_of (fun vs H Q E h => ?_) (fun f cdv A outer s H vs Q E hr h => ?_)
  · obtain ⟨l, a, c, xs, rfl, _⟩ := h
    rfl
  · obtain ⟨l, a, c, xs, rfl, hv, ha, nal, hc, hx, q⟩ := h
    refine ⟨_, pss_cons (ps_par (i := 4) (j := 5) (by rfl) sc_law_some_of.nd rfl rfl (by decide) rfl rfl (pa_cons (pe_callTy call_list_of (by rfl) B.list (by decide +kernel) (pa_cons (pv 1) (pa_nil))) (pa_cons (pe_lst (pa_nil)) (pa_nil))) (by rfl))
      (pss_cons (ps_for PassesOwn.never rfl (pi_range1 (by rfl) B.range (pa_cons (pe_callB (call_min2 rfl) (by rfl) B.min (by decide +kernel) (pa_cons (pv 2) (pa_cons (pe_callB (lenK (K := K)) (by rfl) B.len (by decide +kernel) (pa_cons (pv 1) (pa_nil))) (pa_nil)))) (pa_nil))) (pg_name (i := 3) sc_law_some_of.nd rfl (.inl rfl))
        (pss_one (ps_expr (pe_bm PySem.F.plainAttrs_list PySem.F.slot_list_append PySem.F.type_list_append mt_append (pv 5) (pa_cons (pe_bm PySem.F.plainAttrs_list PySem.F.slot_list_pop PySem.F.type_list_pop mt_popAt (pv 4) (pa_cons (O_law_coin.call hr (ha := pa_cons (pv 0) (pa_cons (pe_callB (lenK (K := K)) (by rfl) B.len (by decide +kernel) (pa_cons (pv 4) (pa_nil))) (pa_nil)))) (pa_nil))) (pa_nil))))))
      (pss_one (ps_ret (pv 5)))), ?_⟩
    refine ⟨_, rfl, a, xs, rfl, .inl (SqL.of ha), fun pl hpl => ⟨by show 0 ≤ sizeLine; decide, fun pf hpf => ?_⟩⟩
    have e1 : Same H (upd H pl (.lst xs)) := same_new hpl
    have a1 : upd H pl (.lst xs) pl = some (.lst xs) := upd_same
    generalize upd H pl (.lst xs) = H1 at e1 a1 hpf
    have e2 : Same H1 (upd H1 pf (.lst [])) := same_new hpf
    have a2 : upd H1 pf (.lst []) pf = some (.lst []) := upd_same
    have npf : pl ≠ pf := fun z => by rw [z, hpf] at a1; cases a1
    generalize upd H1 pf (.lst []) = H2 at e2 a2
    have nll : ∀ {p : Addr} {H3 : Hp}, H3 p = none → VatV H3 l → p ≠ l := fun hp ⟨x, y, z, e⟩ zz => by
      rw [zz, e] at hp
      cases hp
    have n1 : pl ≠ l := nll hpl hv
    have hpf0 : H pf = none := e1.free hpf
    have n2 : pf ≠ l := nll hpf0 hv
    have e12 := e1.trans e2
    refine ⟨_, _, rfl, ?_⟩
    dsimp only [tSeq]
    refine ⟨_, rfl, _, rfl, a, xs, rfl, .inl (SqL.of (e12 _ _ ha)), _, _, rfl, ?_⟩
    obtain ⟨m, hm, hm2⟩ : ∃ m : Nat, (if (xs.length : Int) < (c : Int) then (xs.length : Int) else (c : Int)) = (m : Int) ∧ m = min c xs.length := by
      refine ⟨min c xs.length, ?_, rfl⟩
      split <;> omega
    refine ⟨_, rfl, ?_⟩
    rw [hm]
    refine ⟨by omega, by omega, ?_⟩
    refine for_range (lo := 0) (fun i σ' H' => ∃ (o3 : Option V) (left found : List V), σ' = [some (.ref l), some (.ref a), some (.int (c : Int)), o3, some (.ref pl), some (.ref pf)] ∧ H' pl = some (.lst left) ∧ H' pf = some (.lst found) ∧ KL l H H' ∧ xs.Perm (found ++ left) ∧ found.length = i)
      ⟨none, xs, [], rfl, e2 _ _ a1, a2, KL.of hv e12, by simp, rfl⟩ (fun i σ' H' hi pv => ?_) (fun σ' H' pv => ?_)
    · obtain ⟨o3, left, found, rfl, hl, hf, kk, pm, len⟩ := pv
      have ll : found.length + left.length = xs.length := by
        rw [pm.length_eq, List.length_append]
      dsimp only [gName]
      refine ⟨_, rfl, .inl ⟨rfl, _, SqL.of hf⟩, _, rfl, .inl ⟨rfl, _, SqL.of hl⟩, _, rfl, _, rfl, pl, left, rfl, .inl (SqL.of hl), l, _, rfl, kk.2, by omega, by omega, fun d H3 d0 d1 k3 => ?_⟩
      obtain ⟨j, rfl⟩ := Int.eq_ofNat_of_zero_le d0
      have hj : j < left.length := by omega
      have h3l := k3.1 _ _ hl n1
      have h3f := k3.1 _ _ hf n2
      refine ⟨pl, left, (j : Int), j, left[j], rfl, rfl, h3l, by omega, by omega, ?_, List.getElem?_eq_getElem hj, ?_⟩
      · unfold seqIndex?
        simp
        omega
      refine ⟨pf, found, left[j], rfl, rfl, by rw [upd_ne npf.symm]; exact h3f, sz_lt (by omega), ?_⟩
      refine ⟨_, left.eraseIdx j, found ++ [left[j]], rfl, by rw [upd_ne npf, upd_same], upd_same, ?_, ?_, by rw [List.length_append, len]; rfl⟩
      · have k4 := kk.trans k3
        refine ⟨fun b o hb hbl => ?_, ?_⟩
        · have nbl : b ≠ pl := fun z => by rw [z, hpl] at hb; cases hb
          have nbf : b ≠ pf := fun z => by rw [z, hpf0] at hb; cases hb
          rw [upd_ne nbf, upd_ne nbl]
          exact k4.1 b o hb hbl
        · obtain ⟨x, y, z, e⟩ := k4.2
          exact ⟨x, y, z, by rw [upd_ne n2.symm, upd_ne n1.symm]; exact e⟩
      · refine pm.trans ?_
        have p1 := erase_perm hj
        rw [List.append_assoc]
        exact List.Perm.append_left _ p1.symm
    · obtain ⟨o3, left, found, rfl, hl, hf, kk, pm, len⟩ := pv
      refine ⟨_, rfl, ?_⟩
      exact q pf H' found left hpf0 n2 kk hf pm (by omega)
end
end Tm

/-! _law_table_drawn. -/
namespace Tm
open PySem PySem.Spec PyProof.Rows L2 TmE
local macro_rules | `(tactic| walk_at "x") => `(tactic| dsimp only [tNext, tRet, tSeq, tCall, tCB, tC, tCons, tNil, tAsg, tDrop, sFld])
theorem TupD.kl {l : Addr} {H H' : Hp} {p : Addr} {ns : List Nat} (va : VatV H l) (k : KL l H H') (h : TupD H p ns) : TupD H' p ns := by
  obtain ⟨o, h1, h2⟩ := h
  refine ⟨o, h1, k.1 _ _ h2 fun z => ?_⟩
  obtain ⟨_, _, _, e⟩ := va
  rw [z, e] at h2
  cases h2
def eightN : List Str := ["add", "set", "swapa", "a", "zz", "operates", "join", "of"]
theorem eight_ok : eightN.Nodup ∧ (eightN.all okName) = true ∧ (eightN.all PyData.strOk) = true := by decide +kernel
theorem later_go {σ : L2.St} {H : Hp} {l : Addr} {n : Nat} {wy j : Int} {Q : VK} {E : XK} (h0 : σ[0]? = some (some (.ref l))) (h1 : σ[1]? = some (some (.int (n : Int)))) (h6 : σ[6]? = some (some (.int wy))) (h8 : σ[8]? = some (some (.int j))) (hv : VatV H l) (n1 : 1 ≤ n ∧ n ≤ 12) (hj : 0 ≤ j ∧ j < n) (q : ∀ y H', 0 ≤ y → y < (n : Int) → KL l H H' → Q (.int y) H') :
    tIf (tOr (tTest (tOp (rI0 fun i j => V.bl (decide (j < i))) (tVar 6) (tC (V.int 0)))) (tTest (tOp rEq (tVar 8) (tC (V.int 0))))) (tCall sp_draw [] E (tCons (tVar 0) (tCons (tVar 1) tNil))) (tVar 8) σ H Q := by
  have draw : tCall sp_draw [] E (tCons (tVar 0) (tCons (tVar 1) tNil)) σ H Q := ⟨_, h0, _, h1, l, (n : Int), rfl, hv, by omega, by omega, fun d H' d0 d1 k => q d H' d0 d1 k⟩
  refine ⟨_, h6, _, _, rfl, rfl, _, rfl, ite2 (fun _ => draw) (fun _ => ?_)⟩
  refine ⟨_, h8, rfl, _, rfl, ite2 (fun _ => draw) (fun _ => ?_)⟩
  exact ⟨_, h8, q j H hj.1 hj.2 (KL.of hv (Same.refl _))⟩
section
variable {P : Program} {w : World} {K : PySem.W.Frag} {mg : Str → Option Value} {base : Heap}
abbrev s_tdrawn : Stmt := top 35
theorem sc_law_table_drawn : FnScope ["_law_purse", "_law_size", "_law_few", "_law_words", "_law_word", "_law_found", "_law_way", "_law_row", "_law_state", "_law_answer", "_law_later"] ["_law_purse", "_law_size", "_law_few"] (defScope s_tdrawn) := ⟨rfl, rfl, rfl, by decide +kernel, rfl, by decide +kernel, by decide +kernel⟩
def sp_tdrawn : Sp := fun vs H Q _ => ∃ (l : Addr) (n c : Nat), vs = [.ref l, .int (n : Int), .int (c : Int)] ∧ VatV H l ∧ 1 ≤ n ∧ n ≤ 12 ∧ 1 ≤ c ∧ c ≤ 6 ∧
  ∀ v H' t, KL l H H' → DictV H' v t → (∀ d, v = .ref d → H d = none) → sizeT t = n → t.length ≤ c → (∀ x ∈ namesT t, x ∈ eightN) → Q v H'
theorem ok_tdrawn (B : Bt mg) (O_law_coin : Ok P w K mg base "_law_coin" 1 ["_law_purse", "_law_total"] sp_draw) (O_law_some_of : Ok P w K mg base "_law_some_of" 2 ["_law_purse", "_law_items", "_law_size"] sp_someof) (O_law_pick : Ok P w K mg base "_law_pick" 2 ["_law_purse", "_law_items"] sp_pick)
    (D : Df K mg "_law_table_drawn" s_tdrawn ["_law_purse", "_law_size", "_law_few"]) : Ok P w K mg base "_law_table_drawn" 3 ["_law_purse", "_law_size", "_law_few"] sp_tdrawn := by
  refine D.ok sc_law_table_drawn (fun vs H Q E h => ?_) (fun f cdv A outer s H vs Q E hr h => ?_)
  · obtain ⟨l, n, c, rfl, _⟩ := h
    rfl
  · obtain ⟨l, n, c, rfl, hv, n1, n12, c1, c6, q⟩ := h
    have hu := hu_of hr
    refine ⟨_, pss_cons (ps_set (i := 3) sc_law_table_drawn.nd rfl (.inl rfl) (O_law_some_of.call hr (ha := pa_cons (pv 0) (pa_cons (pe_lst (pa_cons (pe_str) (pa_cons (pe_str) (pa_cons (pe_str) (pa_cons (pe_str) (pa_cons (pe_str) (pa_cons (pe_str) (pa_cons (pe_str) (pa_cons (pe_str) (pa_nil)))))))))) (pa_cons (pe_op op_add (pe_int) (O_law_coin.call hr (ha := pa_cons (pv 0) (pa_cons (pv 2) (pa_nil))))) (pa_nil))))))
      (pss_cons (ps_par (i := 5) (j := 6) (by rfl) sc_law_table_drawn.nd rfl rfl (by decide) rfl rfl (pa_cons (pe_dnewK) (pa_cons (O_law_coin.call hr (ha := pa_cons (pv 0) (pa_cons (pe_int) (pa_nil)))) (pa_nil))) (by rfl))
      (pss_cons (ps_for PassesOwn.never rfl (pi_list (pv 3)) (pg_name (i := 4) sc_law_table_drawn.nd rfl (.inl rfl))
        (pss_cons (ps_set (i := 7) sc_law_table_drawn.nd rfl (.inl rfl) (pe_lst (pa_nil)))
      (pss_cons (ps_for PassesOwn.never rfl (pi_range1 (by rfl) B.range (pa_cons (pv 1) (pa_nil))) (pg_name (i := 8) sc_law_table_drawn.nd rfl (.inl rfl))
        (pss_cons (ps_set (i := 9) sc_law_table_drawn.nd rfl (.inl rfl) (O_law_pick.call hr (ha := pa_cons (pv 0) (pa_cons (pe_lst (pa_cons (pe_int) (pa_cons (pv 8) (pa_cons (O_law_coin.call hr (ha := pa_cons (pv 0) (pa_cons (pe_int) (pa_nil)))) (pa_cons (pe_int) (pa_nil)))))) (pa_nil)))))
      (pss_cons (ps_set (i := 10) sc_law_table_drawn.nd rfl (.inl rfl) (pe_ifExp (PW.pt (pw_or (pt_cmpR op_gt (pv 6) (pe_int) (nomark _)) (pw_or1 (pt_cmpR op_eq (pv 8) (pe_int) (nomark _))))) (O_law_coin.call hr (ha := pa_cons (pv 0) (pa_cons (pv 1) (pa_nil)))) (pv 8)))
      (pss_one (ps_expr (pe_bm PySem.F.plainAttrs_list PySem.F.slot_list_append PySem.F.type_list_append mt_append (pv 7) (pa_cons (pe_tup (pa_cons (pv 10) (pa_cons (pv 9) (pa_nil)))) (pa_nil))))))))
      (pss_one (ps_dput hu (pv 5) (pv 4) (pe_callTy (tupleK (K := K)) (by rfl) B.tuple (by decide +kernel) (pa_cons (pv 7) (pa_nil))) rfl)))))
      (pss_one (ps_ret (pv 5))))), ?_⟩
    refine ⟨_, rfl, by show 8 ≤ sizeLine; decide, fun pn hpn => ?_⟩
    have e1 : Same H (upd H pn (.lst (eightN.map V.str))) := same_new hpn
    have a1 : upd H pn (.lst (eightN.map V.str)) pn = some (.lst (eightN.map V.str)) := upd_same
    have npl : pn ≠ l := vat_ne hv hpn
    have hv1 := hv.keep e1
    refine ⟨_, rfl, _, rfl, l, (c : Int), rfl, hv1, by omega, by omega, fun d H2 d0 d1 k2 => ?_⟩
    obtain ⟨m0, rfl⟩ := Int.eq_ofNat_of_zero_le d0
    have kk2 : KL l H H2 := KL.trans (KL.of hv e1) k2
    refine ⟨_, _, rfl, rfl, l, pn, m0 + 1, eightN.map V.str, ?_, k2.2, k2.1 _ _ a1 npl, npl, by omega, by rw [List.length_map]; decide, fun p H4 ys zs hp npl' k4 hp4 pm len => ?_⟩
    · show [V.ref l, V.ref pn, V.int (1 + (m0 : Int))] = _
      rw [show (1 : Int) + (m0 : Int) = ((m0 + 1 : Nat) : Int) by omega]
    obtain ⟨ws, rfl, ndw, mw⟩ := strs_of pm eight_ok.1
    have lw : ws.length ≤ c ∧ 1 ≤ ws.length := by
      rw [List.length_map, List.length_map] at len
      have : eightN.length = 8 := rfl
      omega
    have kk4 := kk2.trans k4
    have p0 : H p = none := kl_none kk2 hp
    dsimp only [gName]
    try dsimp only [tSeq, tPar, tCons, tNil]
    refine fun pd hpd => ?_
    have ndl : pd ≠ l := vat_ne kk4.2 hpd
    have pd0 : H pd = none := kl_none kk4 hpd
    have npp : p ≠ pd := fun z => by
      rw [z, hpd] at hp4
      cases hp4
    have e5 : Same H4 (upd H4 pd (.dK [])) := same_new hpd
    have a5 : upd H4 pd (.dK []) pd = some (.dK []) := upd_same
    show (fun H' => _) (upd H4 pd (.dK []))
    generalize upd H4 pd (.dK []) = H5 at e5 a5
    have kk5 := kk4.trans (KL.of kk4.2 e5)
    refine ⟨_, rfl, l, 4, rfl, kk5.2, by omega, by omega, fun wy H6 w0 w1 k6 => ⟨_, _, rfl, ?_⟩⟩
    have kk6 := kk5.trans k6
    have hp6 := k6.1 _ _ (e5 _ _ hp4) npl'
    have hd6 := k6.1 _ _ a5 ndl
    refine ⟨_, rfl, p, rfl, ⟨_, SqL.of hp6⟩, ?_⟩
    refine for_list (K := K) (xs := ws.map V.str) (fun i σ' H' => ∃ (o4 o7 o8 o9 o10 : Option V) (kvs : List (L2.Key × V)) (t : Tab), σ' = [some (.ref l), some (.int (n : Int)), some (.int (c : Int)), some (.ref p), o4, some (.ref pd), some (.int wy), o7, o8, o9, o10] ∧ KL l H H' ∧
        H' p = some (.lst (ws.map V.str)) ∧ H' pd = some (.dK kvs) ∧ TabV H' kvs t ∧ namesT t = ws.take i ∧ (∀ e ∈ t, okRow n e.2 = true) ∧ (namesT t).Nodup)
      ⟨none, none, none, none, none, [], [], rfl, kk6, hp6, hd6, .nil, rfl, (fun _ h => nomatch h), List.Pairwise.nil⟩ (fun i σ' H' _ ⟨_, _, _, _, _, _, _, _, _, e, _⟩ => SqL.of e) (fun i x σ' H' hx pv => ?_) (fun σ' H' pv => ?_)
    · obtain ⟨o4, o7, o8, o9, o10, kvs, t, rfl, kk, hp', hd', ht, hnm, hrows, ndt⟩ := pv
      obtain ⟨nm, hn', rfl⟩ : ∃ nm, ws[i]? = some nm ∧ V.str nm = x := by
        rw [List.getElem?_map] at hx
        exact Option.map_eq_some_iff.mp hx
      have hi : i < ws.length := (List.getElem?_eq_some_iff.mp hn').1
      have ltl : t.length = i := by
        have := congrArg List.length hnm
        unfold namesT at this
        rw [List.length_map, List.length_take] at this
        omega
      dsimp only [gName]
      try dsimp only [tSeq]
      refine ⟨by show 0 ≤ sizeLine; decide, fun D hD => ?_⟩
      have nDl : D ≠ l := vat_ne kk.2 hD
      have nDp : D ≠ p := fun z => by rw [z, hp'] at hD; cases hD
      have nDd : D ≠ pd := fun z => by rw [z, hd'] at hD; cases hD
      have eD : Same H' (upd H' D (.lst [])) := same_new hD
      have aD : upd H' D (.lst []) D = some (.lst []) := upd_same
      have kD : KL l H' (upd H' D (.lst [])) := KL.of kk.2 eD
      generalize upd H' D (.lst []) = H7 at eD aD kD
      refine ⟨_, rfl, (n : Int), rfl, by omega, by omega, ?_⟩
      refine for_range (lo := 0) (fun j σ2 H2 => ∃ (o8 o9 o10 : Option V) (vs : List V) (r : Row), σ2 = [some (.ref l), some (.int (n : Int)), some (.int (c : Int)), some (.ref p), some (.str nm), some (.ref pd), some (.int wy), some (.ref D), o8, o9, o10] ∧ KL l H' H2 ∧ H2 D = some (.lst vs) ∧ Paired (PairV H2) vs r ∧ r.length = j ∧ r.all (okPair n) = true)
        ⟨_, _, _, [], [], rfl, kD, aD, .nil, rfl, rfl⟩ (fun j σ2 H2 hj pw => ?_) (fun σ2 H2 pw => ?_)
      · obtain ⟨o8, o9, o10, vs, r, rfl, k2, q1, q2, q3, q4⟩ := pw
        rw [Int.toNat_natCast] at hj
        dsimp only [gName]
        try dsimp only [tSeq]
        refine ⟨_, rfl, _, rfl, _, rfl, l, 3, rfl, k2.2, by omega, by omega, fun d8 H8 u0 u1 k8 => ⟨by show 4 ≤ sizeLine; decide, fun pc hpc => ?_⟩⟩
        have e9 := same_new (o := .lst [.int 0, .int (0 + (j : Int)), .int d8, .int 99]) hpc
        have ncl : pc ≠ l := vat_ne k8.2 hpc
        refine ⟨l, pc, [.int 0, .int (0 + (j : Int)), .int d8, .int 99], rfl, k8.2.keep e9, upd_same, ncl, by show 0 < 4; decide, by show 4 ≤ 1000; decide, fun v H10 hvm k10 => ?_⟩
        obtain ⟨an, rfl, an0, an99⟩ : ∃ an : Int, v = .int an ∧ 0 ≤ an ∧ an ≤ 99 := by
          simp only [List.mem_cons, List.not_mem_nil, or_false] at hvm
          rcases hvm with rfl | rfl | rfl | rfl
          · exact ⟨_, rfl, by omega, by omega⟩
          · exact ⟨_, rfl, by omega, by omega⟩
          · exact ⟨_, rfl, by omega, by omega⟩
          · exact ⟨_, rfl, by omega, by omega⟩
        have k210 : KL l H2 H10 := k8.trans (KL.trans (KL.of k8.2 e9) k10)
        dsimp only [gName]
        try dsimp only [tSeq]
        dsimp only [tAsg]
        refine later_go rfl rfl rfl rfl k210.2 ⟨n1, n12⟩ ⟨by omega, by omega⟩ fun y H11 y0 y1 k11 => ?_
        dsimp only [gName]
        have k12 : KL l H2 H11 := k210.trans k11
        have hD11 := k12.1 _ _ q1 nDl
        have lv := Paired.length q2
        try dsimp only [tDrop]
        refine ⟨_, rfl, .inl ⟨rfl, _, SqL.of hD11⟩, _, rfl, _, rfl, by show 2 ≤ sizeLine; decide, fun pt hpt => ?_⟩
        have e12 := same_new (o := .tup [.int y, .int an]) hpt
        have hpair : PairV (upd H11 pt (.tup [.int y, .int an])) (.ref pt) (y, an) := ⟨pt, rfl, upd_same⟩
        have hv12 : VatV (upd H11 pt (.tup [.int y, .int an])) l := k12.2.keep e12
        generalize upd H11 pt (.tup [.int y, .int an]) = H12 at e12 hpair hv12
        have hD12 := e12 _ _ hD11
        have tu : TupS H12 (upd H12 D (.lst (vs ++ [.ref pt]))) := tups_upd hD12 (fun xs z => by cases z)
        have t26 : TupS H2 H12 := (KL.tups k2.2 k12).trans (tups_of e12)
        refine ⟨D, vs, .ref pt, rfl, rfl, hD12, sz_lt (by omega), ?_⟩
        refine ⟨_, _, _, vs ++ [.ref pt], r ++ [(y, an)], rfl, ⟨fun b o hb hbl => ?_, hv12.keepU nDl⟩, upd_same, paired_app (Paired.mapP q2 fun _ _ h => h.mono (t26.trans tu)) (hpair.mono tu), by rw [List.length_append, q3]; rfl, ?_⟩
        · have nbD : b ≠ D := fun z => by rw [z, hD] at hb; cases hb
          rw [upd_ne nbD]
          exact e12 _ _ (k12.1 _ _ (k2.1 b o hb hbl) hbl)
        · rw [List.all_append, q4]
          show (true && (okPair n (y, an) && true)) = true
          unfold okPair
          simp only [Bool.true_and, Bool.and_true, Bool.and_eq_true, decide_eq_true_eq]
          omega
      · obtain ⟨o8, o9, o10, vs, r, rfl, k2, q1, q2, q3, q4⟩ := pw
        rw [Int.toNat_natCast] at q3
        try dsimp only [tCB, tCons, tNil]
        refine ⟨_, rfl, D, vs, rfl, .inl ⟨SqL.of q1, fun pr hpr => ?_⟩⟩
        have e8 : Same H2 (upd H2 pr (.tup vs)) := same_new hpr
        have hrow : RowV (upd H2 pr (.tup vs)) (.ref pr) r := ⟨pr, vs, rfl, upd_same, Paired.mapP q2 fun _ _ h => h.mono (tups_of e8)⟩
        have k8 : KL l H' (upd H2 pr (.tup vs)) := k2.trans (KL.of k2.2 e8)
        generalize upd H2 pr (.tup vs) = H8 at hrow k8
        have hd8 := k8.1 _ _ hd' ndl
        have ht8 : TabV H8 kvs t := ht.mono (KL.tups kk.2 k8)
        have nx : nm ∉ namesT t := by
          rw [hnm]
          exact nd_split ndw hn'
        obtain ⟨kvs', g1, g2, g3⟩ := tab_add hd8 ht8 hrow ndt nx (by omega)
        refine ⟨_, rfl, _, rfl, pd, _, rfl, g1, ?_⟩
        have kk8 := kk.trans k8
        refine ⟨_, _, _, _, _, kvs', t ++ [(nm, r)], rfl, ⟨fun b o hb hbl => ?_, kk8.2.keepU ndl⟩, ?_, upd_same, g2, ?_, fun e he => ?_, g3⟩
        · have nbd : b ≠ pd := fun z => by rw [z, pd0] at hb; cases hb
          rw [upd_ne nbd]
          exact kk8.1 b o hb hbl
        · rw [upd_ne npp]
          exact k8.1 _ _ hp' npl'
        · rw [take_one hn', ← hnm]
          unfold namesT
          rw [List.map_append]
          rfl
        · rcases List.mem_append.mp he with z | z
          · exact hrows e z
          · rw [List.mem_singleton.mp z]
            unfold okRow
            rw [q3, q4]
            simp
    · obtain ⟨o4, o7, o8, o9, o10, kvs, t, rfl, kk, hp', hd', ht, hnm, hrows, ndt⟩ := pv
      rw [List.length_map, List.take_length] at hnm
      have ltl : t.length = ws.length := by
        have := congrArg List.length hnm
        unfold namesT at this
        rwa [List.length_map] at this
      have hsz : sizeT t = n := by
        cases t with
        | nil =>
          simp at ltl
          omega
        | cons e t =>
          have := hrows e List.mem_cons_self
          unfold okRow at this
          simp only [Bool.and_eq_true, decide_eq_true_eq] at this
          exact this.1
      have okT : okTab t = true := by
        unfold okTab
        rw [hsz]
        simp only [Bool.and_eq_true, decide_eq_true_eq, List.all_eq_true]
        refine ⟨⟨⟨⟨by omega, by omega⟩, n1⟩, by omega⟩, fun e he => ⟨?_, hrows e he⟩⟩
        have : e.1 ∈ ws := by
          rw [← hnm]
          exact List.mem_map.mpr ⟨e, he, rfl⟩
        exact List.all_eq_true.mp eight_ok.2.1 _ (mw _ this)
      refine ⟨_, rfl, q _ _ t kk ⟨pd, kvs, rfl, hd', ht, ndt, okT⟩ (fun d e => ?_) hsz (by omega) fun x hx => ?_⟩
      · cases e
        exact pd0
      · rw [hnm] at hx
        exact mw x hx
end
end Tm

/-! _law_plan_drawn, _law_plan_of. -/
namespace Tm
open PySem PySem.Spec PyProof.Rows L2 TmE
local macro_rules | `(tactic| walk_at "x") => `(tactic| dsimp only [tNext, tRet, tSeq, tCall, tCB, tC, tCons, tNil, tAsg, tDrop, sFld])
theorem cut_drop {xs : List V} {k : Nat} (h : k ≤ xs.length) : cutV xs (some (k : Int)) none = xs.drop k := by
  unfold cutV
  rw [HT.sIx_nat, HT.sIx_none, Nat.min_eq_left h]
  exact List.take_of_length_le (by rw [List.length_drop]; omega)
theorem cut_take {xs : List V} {k : Nat} (h : k ≤ xs.length) : cutV xs none (some (k : Int)) = xs.take k := by
  unfold cutV
  rw [HT.sIx_nat, HT.sIx_none, Nat.min_eq_left h]
  simp
section
variable {P : Program} {w : World} {K : PySem.W.Frag} {mg : Str → Option Value} {base : Heap} {C CP : Addr}
abbrev s_pdrawn : Stmt := top 36
theorem sc_law_plan_drawn : FnScope ["_law_purse", "_law_size", "_law_few", "_law_threads", "_law_table", "_law_both", "_law_firsts", "_law_told", "_law_states", "_law_names", "_law_turn"] ["_law_purse", "_law_size", "_law_few", "_law_threads"] (defScope s_pdrawn) := ⟨rfl, rfl, rfl, by decide +kernel, rfl, by decide +kernel, by decide +kernel⟩
def sp_pdrawn : Sp := fun vs H Q _ => ∃ (l : Addr) (n c m : Nat), vs = [.ref l, .int (n : Int), .int (c : Int), .int (m : Int)] ∧ VatV H l ∧ 1 ≤ n ∧ n ≤ 12 ∧ 1 ≤ c ∧ c ≤ 6 ∧ 2 ≤ m ∧ m ≤ 6 ∧
  ∀ a d v1 v2 p H', KL l H H' → H' a = some (.lst [.ref d, .int (p.s : Int), v1, v2]) → H a = none → d ≠ l → DictV H' (.ref d) p.t → TeamV H' v1 p.f → TeamV H' v2 p.g → Pl.Ok p → p.th.length ≤ m → p.t.length ≤ c → (∀ x ∈ namesT p.t, x ∈ eightN) → Q (.ref a) H'
theorem ok_pdrawn (B : Bt mg) (O_law_coin : Ok P w K mg base "_law_coin" 1 ["_law_purse", "_law_total"] sp_draw) (O_law_pick : Ok P w K mg base "_law_pick" 2 ["_law_purse", "_law_items"] sp_pick) (O_law_table_drawn : Ok P w K mg base "_law_table_drawn" 3 ["_law_purse", "_law_size", "_law_few"] sp_tdrawn)
    (D : Df K mg "_law_plan_drawn" s_pdrawn ["_law_purse", "_law_size", "_law_few", "_law_threads"]) : Ok P w K mg base "_law_plan_drawn" 4 ["_law_purse", "_law_size", "_law_few", "_law_threads"] sp_pdrawn := by
  refine D.ok sc_law_plan_drawn (fun vs H Q E h => ?_) (fun f cdv A outer s H vs Q E hr h => ?_)
  · obtain ⟨l, n, c, m, rfl, _⟩ := h
    rfl
  · obtain ⟨l, n, c, m, rfl, hv, n1, n12, c1, c6, m2, m6, q⟩ := h
    have hu := hu_of hr
    refine ⟨_, pss_cons (ps_set (i := 4) sc_law_plan_drawn.nd rfl (.inl rfl) (O_law_table_drawn.call hr (ha := pa_cons (pv 0) (pa_cons (pe_op op_add (pe_int) (O_law_coin.call hr (ha := pa_cons (pv 0) (pa_cons (pv 1) (pa_nil))))) (pa_cons (pv 2) (pa_nil))))))
      (pss_cons (ps_asg (pe_tup (pa_cons (pe_callB (lenK (K := K)) (by rfl) B.len (by decide +kernel) (pa_cons (pe_dget hu (pv 4) (pe_ix (ixLK (K := K)) (pe_callB (call_sortedD rfl) (by rfl) B.sorted (by decide +kernel) (pa_cons (pv 4) (pa_nil))) (pe_int) (fun _ _ => rfl)) (fun _ _ => rfl)) (pa_nil))) (pa_cons (pe_callB (call_sortedD rfl) (by rfl) B.sorted (by decide +kernel) (pa_cons (pv 4) (pa_nil))) (pa_nil)))) (pg_tup (by rfl) (pgs_cons (pg_name (i := 8) sc_law_plan_drawn.nd rfl (.inl rfl)) (pgs_cons (pg_name (i := 9) sc_law_plan_drawn.nd rfl (.inr rfl)) (pgs_nil)))))
      (pss_cons (ps_set (i := 5) sc_law_plan_drawn.nd rfl (.inl rfl) (pe_op op_add (pe_int) (O_law_coin.call hr (ha := pa_cons (pv 0) (pa_cons (pe_op op_sub (pv 3) (pe_int)) (pa_nil))))))
      (pss_cons (ps_set (i := 6) sc_law_plan_drawn.nd rfl (.inl rfl) (pe_op op_add (pe_int) (O_law_coin.call hr (ha := pa_cons (pv 0) (pa_cons (pe_op op_sub (pv 5) (pe_int)) (pa_nil))))))
      (pss_cons (ps_set (i := 7) sc_law_plan_drawn.nd rfl (.inl rfl) (pe_callTy (tupleK (K := K)) (by rfl) B.tuple (by decide +kernel) (pa_cons (pe_lc (own := [("_law_turn", 10)]) (g := gName 10) (tt := tYes) rfl sc_law_plan_drawn.nd (pi_range1 (by rfl) B.range (pa_cons (pv 5) (pa_nil))) (blkOk_by (own := [("_law_turn", 10)]) (N := ["_law_purse", "_law_size", "_law_few", "_law_threads", "_law_table", "_law_both", "_law_firsts", "_law_told", "_law_states", "_law_names", "_law_turn"]) (sc := defScope s_pdrawn) (by decide +kernel)) (fun _ _ _ _ _ => pg_name (i := 10) sc_law_plan_drawn.nd rfl (.inl rfl)) (fun _ _ _ _ _ => pts_nil) (fun _ _ _ _ _ => O_law_pick.call hr (ha := pa_cons (pv 0) (pa_cons (pv 9) (pa_nil))))) (pa_nil))))
      (pss_one (ps_ret (pe_lst (pa_cons (pv 4) (pa_cons (O_law_pick.call hr (ha := pa_cons (pv 0) (pa_cons (pe_lst (pa_cons (pe_int) (pa_cons (O_law_coin.call hr (ha := pa_cons (pv 0) (pa_cons (pv 8) (pa_nil)))) (pa_nil)))) (pa_nil)))) (pa_cons (pe_slice sl_tup (pv 7) (po_none) (po_some (pv 6))) (pa_cons (pe_slice sl_tup (pv 7) (po_some (pv 6)) (po_none)) (pa_nil)))))))))))), ?_⟩
    refine ⟨_, rfl, _, rfl, _, rfl, l, (n : Int), rfl, hv, by omega, by omega, fun d1 H1 d10 d1n k1 => ?_⟩
    obtain ⟨n0, rfl⟩ := Int.eq_ofNat_of_zero_le d10
    refine ⟨_, _, rfl, rfl, _, rfl, l, n0 + 1, c, ?_, k1.2, by omega, by omega, c1, c6, fun v H2 t k2 hd new sz lt nm => ?_⟩
    · show [V.ref l, V.int (1 + (n0 : Int)), V.int (c : Int)] = _
      rw [show (1 : Int) + (n0 : Int) = ((n0 + 1 : Nat) : Int) by omega]
    obtain ⟨okt, ndt⟩ := hd.ok
    have ft := ok_facts okt
    have kk2 := k1.trans k2
    obtain ⟨d, kvs, rfl, hda, ht, _, _⟩ := id hd
    have ndl : d ≠ l := vat_ne k1.2 (new _ rfl)
    dsimp only [gName]
    try dsimp only [tSeq, tAsg, tTup, tCons, tNil]
    refine ⟨_, rfl, _, rfl, d, kvs, namesT t, rfl, .inl hda, tabV_keys ht, by rw [namesT, List.length_map]; omega, fun ys p3 py sy hp3 => ?_⟩
    have e3 := same_new (o := .lst (ys.map V.str)) hp3
    have a3 : upd H2 p3 (.lst (ys.map V.str)) p3 = some (.lst (ys.map V.str)) := upd_same
    generalize upd H2 p3 (.lst (ys.map V.str)) = H3 at e3 a3
    have lys : ys.length = t.length := by rw [py.length_eq, namesT, List.length_map]
    have hy0 : 0 < ys.length := by omega
    have hm0 : ys[0] ∈ namesT t := py.mem_iff.mp (List.getElem_mem hy0)
    obtain ⟨rv, hrv, hrow⟩ := tab_look (ht.mono (tups_of e3)) ndt (row_in hm0)
    obtain ⟨b, rs, rfl, hb, hrs⟩ := id hrow
    have hg := DGet.k (k := (Sum.inr ys[0] : L2.Key)) (e3 _ _ hda)
    rw [hrv] at hg
    refine ⟨p3, ys.map V.str, 0, .str ys[0], rfl, rfl, SqL.of a3, atI_nat (j := 0) (by rw [List.getElem?_map, List.getElem?_eq_getElem hy0]; rfl), d, _, rfl, hg, b, rs, rfl, .inr (SqT.of hb), ?_⟩
    have e23 := e3
    refine ⟨_, rfl, d, kvs, namesT t, rfl, .inl (e3 _ _ hda), tabV_keys ht, by rw [namesT, List.length_map]; omega, fun ns p4 pn _ hp4 => ⟨by show 2 ≤ sizeLine; decide, fun p5 hp5 => ?_⟩⟩
    have e4 := same_new (o := .lst (ns.map V.str)) hp4
    have a4 : upd H3 p4 (.lst (ns.map V.str)) p4 = some (.lst (ns.map V.str)) := upd_same
    generalize upd H3 p4 (.lst (ns.map V.str)) = H4 at e4 a4 hp5
    have lrs : rs.length = sizeT t := by rw [Paired.length hrs]; exact (fine_of okt (row_in hm0)).len
    rw [lrs]
    have e5 := same_new (o := .tup [.int ((sizeT t : Nat) : Int), .ref p4]) hp5
    have a5 : upd H4 p5 (.tup [.int ((sizeT t : Nat) : Int), .ref p4]) p5 = some (.tup [.int ((sizeT t : Nat) : Int), .ref p4]) := upd_same
    show (fun H' => _) (upd H4 p5 (.tup [.int ((sizeT t : Nat) : Int), .ref p4]))
    generalize upd H4 p5 (.tup [.int ((sizeT t : Nat) : Int), .ref p4]) = H5 at e5 a5
    refine ⟨p5, _, rfl, SqT.of a5, rfl, _, _, rfl, ?_⟩
    dsimp only [gName]
    refine ⟨_, _, rfl, ?_⟩
    dsimp only [gName]
    refine ⟨rfl, ?_⟩
    have e25 := e3.trans (e4.trans e5)
    have kk5 : KL l H H5 := kk2.trans (KL.of k2.2 e25)
    have hd5 := hd.keep e25
    have a45 := e5 _ _ a4
    have n4l : p4 ≠ l := vat_ne (k2.2.keep e3) hp4
    have lns : ns.length = t.length := by rw [pn.length_eq, namesT, List.length_map]
    try dsimp only [tSeq]
    refine ⟨_, rfl, _, rfl, _, _, rfl, rfl, l, _, rfl, kk5.2, by omega, by omega, fun b0 H6 b00 b01 k6 => ⟨_, _, rfl, rfl, ?_⟩⟩
    obtain ⟨bo, hbo, bo2, bom⟩ : ∃ bo : Nat, (2 : Int) + b0 = (bo : Int) ∧ 2 ≤ bo ∧ bo ≤ m := ⟨(2 + b0).toNat, by omega, by omega, by omega⟩
    dsimp only [gName]
    rw [hbo]
    try dsimp only [tSeq]
    refine ⟨_, rfl, _, rfl, _, _, rfl, rfl, l, _, rfl, k6.2, by omega, by omega, fun f0 H7 f00 f01 k7 => ⟨_, _, rfl, rfl, ?_⟩⟩
    obtain ⟨fi, hfi, fi1, fib⟩ : ∃ fi : Nat, (1 : Int) + f0 = (fi : Int) ∧ 1 ≤ fi ∧ fi < bo := ⟨(1 + f0).toNat, by omega, by omega, by omega⟩
    dsimp only [gName]
    rw [hfi]
    try dsimp only [tSeq, tCB, tCons, tNil]
    have k57 := k6.trans k7
    have hd7 := hd5.kl kk5.2 k57 ndl
    have a47 := k57.1 _ _ a45 n4l
    have kk7 := kk5.trans k57
    refine ⟨_, rfl, (bo : Int), rfl, by omega, by omega, fun D hD => ?_⟩
    have nDl : D ≠ l := vat_ne kk7.2 hD
    have nD4 : D ≠ p4 := fun z => by rw [z, a47] at hD; cases hD
    refine lc_range (lo := 0) (Pv := fun j H2 => KL l H7 H2 ∧ ∃ xs : List Str, H2 D = some (.lst (strV xs)) ∧ xs.length = j ∧ ∀ x ∈ xs, x ∈ namesT t) ⟨⟨fun b o e _ => same_new hD b o e, kk7.2.keep (same_new hD)⟩, [], upd_same, rfl, fun _ h => nomatch h⟩ (fun j H8 hj pw => ?_) (fun H8 pw => ?_)
    · obtain ⟨k8, xs, q1, q2, q3⟩ := pw
      rw [Int.toNat_natCast] at hj
      refine ⟨rfl, ?_⟩
      dsimp only [tYes]
      rw [if_pos rfl]
      have a48 := k8.1 _ _ a47 n4l
      refine ⟨_, rfl, _, rfl, l, p4, ns.map V.str, rfl, k8.2, a48, n4l, by rw [List.length_map]; omega, by rw [List.length_map]; omega, fun v H9 hv9 k9 => ?_⟩
      obtain ⟨x, hx, rfl⟩ := List.mem_map.mp hv9
      have k89 := k8.trans k9
      refine ⟨strV xs, k9.1 _ _ q1 nDl, sz_lt (by unfold strV; rw [List.length_map]; omega), ⟨fun b o hb hbl => ?_, k89.2.keepU nDl⟩, xs ++ [x], ?_, by rw [List.length_append, q2]; rfl, fun y hy => ?_⟩
      · have nbD : b ≠ D := fun z => by rw [z, hD] at hb; cases hb
        rw [upd_ne nbD]
        exact k89.1 b o hb hbl
      · rw [upd_same]
        unfold strV
        rw [List.map_append]
        rfl
      · rcases List.mem_append.mp hy with z | z
        · exact q3 y z
        · rw [List.mem_singleton.mp z]
          exact pn.mem_iff.mp hx
    · obtain ⟨k8, xs, q1, q2, q3⟩ := pw
      rw [Int.toNat_natCast] at q2
      refine ⟨D, strV xs, rfl, .inl ⟨SqL.of q1, fun p9 hp9 => ?_⟩⟩
      have e9 := same_new (o := .tup (strV xs)) hp9
      have a9 : upd H8 p9 (.tup (strV xs)) p9 = some (.tup (strV xs)) := upd_same
      generalize upd H8 p9 (.tup (strV xs)) = H9 at e9 a9
      have k79 : KL l H7 H9 := k8.trans (KL.of k8.2 e9)
      have kk9 := kk7.trans k79
      have hd9 := hd7.kl kk7.2 k79 ndl
      dsimp only [gName]
      try dsimp only [tRet, tLst, tCons, tNil]
      refine ⟨_, rfl, _, rfl, _, rfl, _, rfl, l, _, rfl, kk9.2, by omega, by omega, fun s0 H10 s00 s01 k10 => ⟨by show 2 ≤ sizeLine; decide, fun pc hpc => ?_⟩⟩
      have e10 := same_new (o := .lst [.int 0, .int s0]) hpc
      have ncl : pc ≠ l := vat_ne k10.2 hpc
      refine ⟨l, pc, [.int 0, .int s0], rfl, k10.2.keep e10, upd_same, ncl, by show 0 < 2; decide, by show 2 ≤ 1000; decide, fun v H11 hvm k11 => ?_⟩
      obtain ⟨st, rfl, stl⟩ : ∃ st : Nat, v = .int (st : Int) ∧ st < sizeT t := by
        simp only [List.mem_cons, List.not_mem_nil, or_false] at hvm
        rcases hvm with rfl | rfl
        · exact ⟨0, rfl, by omega⟩
        · exact ⟨s0.toNat, by rw [Int.toNat_of_nonneg s00], by omega⟩
      have k911 : KL l H9 H11 := k10.trans (KL.trans (KL.of k10.2 e10) k11)
      have n9l : p9 ≠ l := vat_ne k8.2 hp9
      have a11 := k911.1 _ _ a9 n9l
      have hd11 := hd9.kl kk9.2 k911 ndl
      have kk11 := kk9.trans k911
      have lx : (strV xs).length = bo := by unfold strV; rw [List.length_map, q2]
      refine ⟨_, rfl, _, rfl, _, rfl, p9, strV xs, rfl, SqT.of a11, fun z => ?_, fun pa hpa => ?_⟩
      · have := z.2
        rw [HT.sIx_nat, lx] at this
        omega
      rw [cut_take (by omega)]
      have e12 := same_new (o := .tup ((strV xs).take fi)) hpa
      have a12 : upd H11 pa (.tup ((strV xs).take fi)) pa = some (.tup ((strV xs).take fi)) := upd_same
      generalize upd H11 pa (.tup ((strV xs).take fi)) = H12 at e12 a12
      refine ⟨_, rfl, _, rfl, _, rfl, p9, strV xs, rfl, SqT.of (e12 _ _ a11), fun z => ?_, fun pb hpb => ?_⟩
      · have := z.1
        rw [HT.sIx_nat, lx] at this
        omega
      rw [cut_drop (by omega)]
      have e13 := same_new (o := .tup ((strV xs).drop fi)) hpb
      have a13 : upd H12 pb (.tup ((strV xs).drop fi)) pb = some (.tup ((strV xs).drop fi)) := upd_same
      generalize upd H12 pb (.tup ((strV xs).drop fi)) = H13 at e13 a13
      refine ⟨by show 4 ≤ sizeLine; decide, fun pr hpr => ?_⟩
      have e14 := same_new (o := .lst [.ref d, .int (st : Int), .ref pa, .ref pb]) hpr
      have e1114 := e12.trans (e13.trans e14)
      have kk14 := kk11.trans (KL.of kk11.2 e1114)
      refine q pr d (.ref pa) (.ref pb) ⟨t, st, xs.take fi, xs.drop fi⟩ _ kk14 upd_same (kl_none (kk11.trans (KL.of kk11.2 (e12.trans e13))) hpr) ndl (hd11.keep e1114) ⟨pa, rfl, .inl ?_⟩ ⟨pb, rfl, .inl ?_⟩ ⟨stl, fun z => ?_, fun z => ?_, ?_, fun y hy => ?_⟩ ?_ lt nm
      · rw [(e13.trans e14) _ _ a12]
        unfold strV
        rw [List.map_take]
      · rw [e14 _ _ a13]
        unfold strV
        rw [List.map_drop]
      · have := congrArg List.length (show xs.take fi = [] from z)
        rw [List.length_take, List.length_nil] at this
        omega
      · have := congrArg List.length (show xs.drop fi = [] from z)
        rw [List.length_drop, List.length_nil] at this
        omega
      · show (xs.take fi).length + (xs.drop fi).length ≤ 6
        rw [List.length_take, List.length_drop]
        omega
      · have hy : y ∈ xs.take fi ++ xs.drop fi := hy
        rw [List.take_append_drop] at hy
        exact q3 y hy
      · show (xs.take fi ++ xs.drop fi).length ≤ m
        rw [List.take_append_drop]
        omega
end
end Tm

/-! _law_plan_of; what goes along: renamed, mapped, turned, beside, cut. -/
namespace Tm
open PySem PySem.Spec PyProof.Rows L2 TmE
section
variable {K : PySem.W.Frag} {C CP : Addr} {σ : L2.St} {H : Hp} {tk ts t1 t2 : TE} {E : XK}
theorem ev_planK {R : Tab → Prop} {s : Nat} {f g : List Str} (hk : Ev tk σ H fun v H1 => ∃ t, KindV C H1 v t ∧ R t) (hs : ∀ H1, Same H H1 → Ev ts σ H1 fun v _ => v = .int (s : Int)) (h1 : ∀ H1, Same H H1 → Ev t1 σ H1 fun v H2 => TeamV H2 v f) (h2 : ∀ H1, Same H H1 → Ev t2 σ H1 fun v H2 => TeamV H2 v g) (ok : ∀ t, R t → Pl.Ok ⟨t, s, f, g⟩) :
    Ev (tMake CP (sp_pinit C CP) [] E (tCons tk (tCons ts (tCons t1 (tCons t2 tNil))))) σ H fun v H1 => ∃ t, R t ∧ PlanV C CP H1 v ⟨t, s, f, g⟩ := fun Q q =>
  hk _ fun v H1 e1 k1 => hs H1 e1 _ fun v2 H2 e2 k2 => by
    subst k2
    obtain ⟨t, k1, r⟩ := k1
    exact h1 H2 (e1.trans e2) _ fun v3 H3 e3 k3 => h2 H3 (e1.trans (e2.trans e3)) _ fun v4 H4 e4 k4 => mk_plan (Q := Q) (p := ⟨t, s, f, g⟩) (k1.keep (e2.trans (e3.trans e4))) (k3.keep e4) k4 (ok t r) fun v H' e' pv => q v H' (e1.trans (e2.trans (e3.trans (e4.trans e')))) ⟨t, r, pv⟩
end
section
variable {P : Program} {w : World} {K : PySem.W.Frag} {mg : Str → Option Value} {base : Heap} {C CP : Addr}
abbrev s_planof : Stmt := top 37
theorem sc_law_plan_of : FnScope ["_law_parts"] ["_law_parts"] (defScope s_planof) := ⟨rfl, rfl, rfl, by decide +kernel, rfl, by decide +kernel, by decide +kernel⟩
def sp_planof (C CP : Addr) : Sp := fun vs H Q _ => ∃ (a d : Addr) (v1 v2 : V) (p : Pl), vs = [.ref a] ∧ H a = some (.lst [.ref d, .int (p.s : Int), v1, v2]) ∧ DictV H (.ref d) p.t ∧ TeamV H v1 p.f ∧ TeamV H v2 p.g ∧ p.Ok ∧
  ∀ u t1 H', Same H H' → t1.Perm p.t → PlanV C CP H' u ⟨t1, p.s, p.f, p.g⟩ → Q u H'
theorem ok_planof (OC_Kind : OkC P w K mg base "Kind" C 5 ["self", "operations"] (sp_init C)) (OC_Plan : OkC P w K mg base "Plan" CP 4 ["self", "kind", "start", "first", "second"] (sp_pinit C CP)) (D : Df K mg "_law_plan_of" s_planof ["_law_parts"]) : Ok P w K mg base "_law_plan_of" 7 ["_law_parts"] (sp_planof C CP) := by
  refine D.ok sc_law_plan_of (fun vs H Q E h => ?_) (fun f cdv A outer s H vs Q E hr h => ?_)
  · obtain ⟨a, d, v1, v2, p, rfl, _⟩ := h
    rfl
  · obtain ⟨a, d, v1, v2, p, rfl, ha, hd, h1, h2, ok, q⟩ := h
    refine ⟨_, pss_one (ps_ret (OC_Plan.make hr (ha := pa_cons (OC_Kind.make hr (ha := pa_cons (pe_ix (ixLK (K := K)) (pv 0) (pe_int) (fun _ _ => rfl)) (pa_nil))) (pa_cons (pe_ix (ixLK (K := K)) (pv 0) (pe_int) (fun _ _ => rfl)) (pa_cons (pe_ix (ixLK (K := K)) (pv 0) (pe_int) (fun _ _ => rfl)) (pa_cons (pe_ix (ixLK (K := K)) (pv 0) (pe_int) (fun _ _ => rfl)) (pa_nil))))))), ?_⟩
    dsimp only [tRet]
    have okt := hd.ok.1
    have ix : ∀ {H1 : Hp} {j : Nat} {v : V} {R : V → Hp → Prop}, Same H H1 → ([V.ref d, .int (p.s : Int), v1, v2])[j]? = some v → R v H1 → Ev (tOp (rIxL K) (tVar 0) (tC (.int (j : Int)))) (L2.start ["_law_parts"] [V.ref a]) H1 R := fun {H1 j v R} e hj r Q q => ⟨_, rfl, a, _, _, _, rfl, rfl, SqL.of (e _ _ ha), atI_nat hj, q _ _ (Same.refl _) r⟩
    refine ev_planK (C := C) (CP := CP) (R := fun t1 => t1.Perm p.t) (s := p.s) (f := p.f) (g := p.g) (ev_mk (t := p.t) (ix (j := 0) (Same.refl _) rfl hd)) (fun H1 e1 => ix (j := 1) e1 rfl rfl) (fun H1 e1 => ix (j := 2) e1 rfl (h1.keep e1)) (fun H1 e1 => ix (j := 3) e1 rfl (h2.keep e1)) (fun t1 pm => ?_) _ fun u H1 e1 r1 => ?_
    · exact ⟨by show _ < sizeT t1; rw [size_perm okt pm]; exact ok.s, ok.f, ok.g, ok.few, fun x hx => (pm.map (fun e : Str × Row => e.1)).mem_iff.mpr (ok.all x hx)⟩
    · obtain ⟨t1, pm, pv⟩ := r1
      exact q u t1 H1 e1 pm pv
end
end Tm

set_option maxHeartbeats 2000000
/-! sorted(a list of data alike), any length. -/
namespace TmZ
open PySem PySem.Spec PyProof.Rows L2
theorem vals_of_each : ∀ {out : List Value} {bs : List (V × PyData)}, PySem.W.EachIs (fun u (b : V × PyData) => RelV b.1 u) out bs → Vals (bs.map (·.1)) out
  | _, _, .nil => .nil
  | _, _, .cons r t => .cons r (vals_of_each t)
theorem each_of_vals : ∀ {out : List Value} {bs : List (V × PyData)}, Vals (bs.map (·.1)) out → PySem.W.EachIs (fun u (b : V × PyData) => RelV b.1 u) out bs
  | [], [], _ => .nil
  | u :: us, b :: bs, h => by
    cases h with
    | cons r t => exact .cons r (each_of_vals t)
/-- sorted(xs), xs a list of data that are alike: a new list, the items in the order of the data -/
def rSortDt (K : PySem.W.Frag) : List V → Hp → VK → Prop := fun vs H Q => ∃ (a : Addr) (bs : List (V × PyData)), vs = [V.ref a] ∧ SqL K H a (bs.map (·.1)) ∧ (∀ b ∈ bs, Dp K H b.1 b.2) ∧ PySem.W.AllAlike (bs.map (·.2)) ∧ PySem.W.Sortable (bs.map (·.2)) ∧ (∀ b ∈ bs, b.2.depth ≤ 32) ∧
  ∀ p, H p = none → Q (.ref p) (upd H p (.lst ((bs.mergeSort (PySem.W.dataLe false (·.2))).map (·.1))))
theorem cr_sortDt {X : Cx} {K : PySem.W.Frag} (hu : X.A.units + 64 < cLine) (hK : X.K = K := by rfl) : CallR X (.builtin "sorted") (rSortDt K) := by
  subst hK
  intro pins s σ H vs us Q I r h
  obtain ⟨a, bs, rfl, hs, hd, hal, hso, hdp, q⟩ := h
  obtain ⟨its, rv, hl, hz⟩ := I.list hs
  rw [Vals.ref1 r]
  have ea := each_of_vals rv
  have len : its.length = bs.length := ea.length
  have er : PySem.W.EachIs (fun v (b : V × PyData) => ∃ as, Reads s.heap v b.2 as) its bs := by
    have : ∀ {its : List Value} {cs : List (V × PyData)}, PySem.W.EachIs (fun u (b : V × PyData) => RelV b.1 u) its cs → (∀ b ∈ cs, Dp X.K H b.1 b.2) → PySem.W.EachIs (fun v (b : V × PyData) => ∃ as, Reads s.heap v b.2 as) its cs := by
      intro its cs h
      induction h with
      | nil => exact fun _ => .nil
      | @cons u b us bs r t ih => exact fun g => .cons (Dp.reads I _ _ _ (g b List.mem_cons_self) r) (ih fun c hc => g c (List.mem_cons_of_mem _ hc))
    exact this ea hd
  have few : bs.length ≤ sizeLine := by rw [List.length_map] at hz; exact hz
  refine PySem.W.sorted_data (R := fun u (b : V × PyData) => RelV b.1 u) (enc := fun b => b.2) hl.isList ea er hal hso few (fun b hb => ?_) fun out h1 h2 => ?_
  · have := hdp b hb
    omega
  · obtain ⟨ep, he'⟩ := PyProof.Rows.sortedAll_at s.heap its out.toArray
    have hl2 : ((bs.mergeSort (PySem.W.dataLe false (·.2))).map (·.1)).length ≤ sizeLine := by rw [List.length_map, List.length_mergeSort]; exact few
    exact ⟨.ref _, upd H (s.heap.objs.size + 1) (.lst ((bs.mergeSort (PySem.W.dataLe false (·.2))).map (·.1))), I.laid (t' := s.toks) (fun _ _ => PyProof.Rows.sortedAll_old) (Nat.le_succ _) ⟨hl2, out, ep, vals_of_each h2, he'⟩, rfl, q _ (I.hok.fresh (Nat.le_succ _))⟩
end TmZ

/-! tuple * 0, tuple * 1. -/
namespace TmZ
open PySem PySem.Spec PyProof.Rows L2 PySem.SeqAt
open AutoSeq1 (wpAny_loadPart')
theorem tup_once1 (a : Addr) (us : Array Value) (k : Nat) (dd : Option Addr) (sl : Array (Option Value)) (t : Tok) (c : (us.isEmpty || (1 : Int) == 1) = true) :
    Meets (Builtin.«tuple.__mul__» ⟨[.ref a, .int 1 t], []⟩) fun _ R s => s.heap.get? a = some { cls := .type "tuple", dict := dd, data := .seq us k, slots := sl } ∧ R (.ok (.ret (.ref a))) s :=
  .of_wp fun P w A R s h => by
    obtain ⟨hp, gs, dr, tk, os⟩ := s
    obtain ⟨at_, q⟩ := h
    have e1 := AutoSeq1.idx_int
    wp_walk using AutoSeq1.wpAny_loadPart' at_
    exact ⟨_, rfl, q⟩
theorem tup_none (a : Addr) (us : Array Value) (k : Nat) (dd : Option Addr) (sl : Array (Option Value)) (t : Tok) (c : (us.isEmpty || (0 : Int) == 1) = false) :
    Meets (Builtin.«tuple.__mul__» ⟨[.ref a, .int 0 t], []⟩) fun _ R s => s.heap.get? a = some { cls := .type "tuple", dict := dd, data := .seq us k, slots := sl } ∧ R (.ok (.ret (Value.ref s.heap.objs.size))) { s with heap := s.heap.push { cls := Value.type "tuple", data := Data.seq #[] }, toks := s.toks } :=
  .of_wp fun P w A R s h => by
    obtain ⟨hp, gs, dr, tk, os⟩ := s
    obtain ⟨at_, q⟩ := h
    have e1 := AutoSeq1.idx_int
    wp_walk using AutoSeq1.wpAny_loadPart' at_
    repeat (first
      | (refine wpAny_ite_false (decide_eq_false (by rw [c]; exact Bool.false_ne_true)) ?_; wp_walk using AutoSeq1.wpAny_loadPart' at_)
      | (refine wpAny_ite_true (decide_eq_true (by rfl)) ?_; wp_walk using AutoSeq1.wpAny_loadPart' at_))
    exact ⟨_, rfl, q⟩
/-- (x,) * 0, (x,) * 1 -/
def rRep01 (K : PySem.W.Frag) : R2 := fun x y H Q => ∃ l k xs, x = .ref l ∧ y = .int k ∧ SqT K H l xs ∧ xs ≠ [] ∧ ((k = 1 ∧ Q (.ref l) H) ∨ (k = 0 ∧ ∀ p, H p = none → Q (.ref p) (upd H p (.tup []))))
theorem op_rep01 {X : Cx} {K : PySem.W.Frag} (hK : X.K = K := by rfl) : OpR X (binaryOp .Mult) (rRep01 K) := by
  subst hK
  intro pins s σ H x y v u Q I rx ry h
  obtain ⟨l, k, xs, rfl, rfl, sq, ne, cs⟩ := h
  cases rx
  obtain ⟨t, rfl⟩ := ry
  obtain ⟨its, r, ⟨⟨oc, dd, od, sl⟩, at_, c, n, d⟩, _⟩ := I.tuple sq
  dsimp only at c d
  cases c
  cases d
  rcases cs with ⟨rfl, q⟩ | ⟨rfl, q⟩
  · refine wpAny_binaryOp_repeat_ref (T := "tuple") (U := "int") (by decide) ⟨_, at_, rfl⟩ (fun z => typeIs_int z 1 t) noFill_tuple_mul F.fills_int_mul F.slot_int_rmul repeat_tuple F.slot_int_index.lookup
      (call_meets F.slot_int_rmul (typeIs_int s 1 t) F.entry_int_rmul (F.args_int_rmul_2 _ _) (int_rmul_tuple 1 t l its.toArray n dd sl) ⟨at_, rfl, ⟨_, at_, rfl⟩, call_meets F.slot_tuple_mul ⟨_, at_, rfl⟩ F.entry_tuple_mul (F.args_tuple_mul_2 _ _) (tup_once1 l its.toArray n dd sl t (Bool.or_true _)) ⟨at_, ?_⟩⟩)
    exact ⟨.ref l, H, I, rfl, q⟩
  · have hn : its ≠ [] := fun e => ne (by
      have hle : its.length = xs.length := r.length.symm
      rw [e] at hle
      exact List.eq_nil_of_length_eq_zero hle.symm)
    have hi : (its.toArray.isEmpty || (0 : Int) == 1) = false := by
      cases its with
      | nil => exact absurd rfl hn
      | cons a b => rfl
    refine wpAny_binaryOp_repeat_ref (T := "tuple") (U := "int") (by decide) ⟨_, at_, rfl⟩ (fun z => typeIs_int z 0 t) noFill_tuple_mul F.fills_int_mul F.slot_int_rmul repeat_tuple F.slot_int_index.lookup
      (call_meets F.slot_int_rmul (typeIs_int s 0 t) F.entry_int_rmul (F.args_int_rmul_2 _ _) (int_rmul_tuple 0 t l its.toArray n dd sl) ⟨at_, rfl, ⟨_, at_, rfl⟩, call_meets F.slot_tuple_mul ⟨_, at_, rfl⟩ F.entry_tuple_mul (F.args_tuple_mul_2 _ _) (tup_none l its.toArray n dd sl t hi) ⟨at_, ?_⟩⟩)
    exact ⟨.ref s.heap.objs.size, _, I.laid (o := .tup []) (t' := s.toks) (fun b o e => Heap.get?_push_of_some _ e) (Nat.le_refl _) ⟨by show 0 ≤ sizeLine; decide, [], .nil, IsTup.new _ _⟩, rfl, q _ (I.hok.fresh (Nat.le_refl _))⟩
end TmZ

/-! xs[:1:-1] of a list of four. -/
namespace TmZ
open PySem PySem.Spec PyProof.Rows L2
theorem pick41 (a b c d : Value) : slicePick #[a, b, c, d] none (some 1) (some (-1)) = #[d, c] := by with_unfolding_all rfl
section
variable {X : Cx}
def tRev41 (K : PySem.W.Frag) (te : TE) : TE := fun σ H Q => te σ H fun x H1 => ∃ a x0 x1 x2 x3, x = .ref a ∧ SqL K H1 a [x0, x1, x2, x3] ∧ ∀ p, H1 p = none → Q (.ref p) (upd H1 p (.lst [x3, x2]))
theorem pe_rev41 {e : Expr} {te : TE} {k k2 : Nat} {p0 p1 p2 p3 pos : Pos} (he : PE X e te) : PE X (.Subscript e (.Slice none (some (.Constant (.int 1) k2 p0)) (some (.UnaryOp .USub (.Constant (.int 1) k p1) p2)) p3) pos) (tRev41 X.K te) := by
  refine ⟨fun pins s σ H Q I h => ?_⟩
  refine Subscript_ (thn (he.run pins s σ H _ I h) fun v s1 ⟨x, H1, I1, r1, q1⟩ => ?_)
  obtain ⟨a, x0, x1, x2, x3, ex, hx, q⟩ := q1
  subst ex
  cases r1
  have hst : PO X (some (.UnaryOp .USub (.Constant (.int 1) k p1) p2)) (tPart (tUn (rU fun i => .int (-i)) (tC (.int 1)))) := po_some (pe_un un_neg pe_int)
  have hup : PO X (some (.Constant (.int 1) k2 p0)) (tPart (tC (.int 1))) := po_some pe_int
  refine wpAny_Slice (thn (po_none.run pins s1 σ H1 (fun o H2 => o = none ∧ H2 = H1) I1 ⟨rfl, rfl⟩) fun vl s2 ⟨l, H2, I2, pl, el, e2⟩ => ?_)
  subst el e2
  refine thn (hup.run pins s2 σ H2 (fun o H3 => o = some 1 ∧ H3 = H2) I2 ⟨1, rfl, rfl, rfl⟩) fun vu s3 ⟨u, H3, I3, pu, eu, e3⟩ => ?_
  subst eu e3
  refine thn (hst.run pins s3 σ H3 (fun o H4 => o = some (-1) ∧ H4 = H3) I3 ⟨1, rfl, -1, rfl, rfl, rfl⟩) fun vs s4 ⟨o, H4, I4, ps, eo, e4⟩ => ?_
  subst eo e4
  have I5 : Inv X pins σ H4 { s4 with heap := s4.heap.push { cls := .type "slice", data := .fields #[vl, vu, vs] } } := I4.kept (t' := s4.toks) fun b ob q => Heap.get?_push_of_some _ q
  obtain ⟨its, r, ht, hz⟩ := I5.list hx
  cases r with
  | cons r0 r =>
    cases r with
    | cons r1 r =>
      cases r with
      | cons r2 r =>
        cases r with
        | cons r3 r =>
          cases r
          show wpAny (model X.prog X.w) X.A (subscriptTail e (.Slice none (some (.Constant (.int 1) k2 p0)) (some (.UnaryOp .USub (.Constant (.int 1) k p1) p2)) p3) (.ref a) (.ref s4.heap.objs.size)) (EP X pins σ Q) X.xe { s4 with heap := s4.heap.push { cls := .type "slice", data := .fields #[vl, vu, vs] } }
          refine tail_any (ops := [.ref a, .ref s4.heap.objs.size]) ht.isList.typeIs (PySem.slot_list_getitem.lookup) ?_ (by with_unfolding_all rfl)
          refine wpAny_getItem_list_slice ht.isList (Heap.IsSliceOf.new _ vl vu vs) pl pu ps (by decide) ?_ (by show 4 ≤ _; decide)
          rw [show slicePick _ none (some 1) (some (-1)) = _ from pick41 _ _ _ _]
          refine ⟨.ref _, _, I5.laid (t' := s4.toks) (o := .lst [x3, x2]) (fun b ob q => Heap.get?_push_of_some _ q) (Nat.le_refl _) ?_, rfl, q _ (I5.hok.fresh (Nat.le_refl _))⟩
          exact ⟨by show 2 ≤ sizeLine; decide, _, 0, .cons r3 (.cons r2 .nil), Heap.get?_push_size _ rfl⟩
end
end TmZ

set_option maxHeartbeats 4000000
/-! texts sorted; the two teams of a normal plan. -/
namespace Tm
open PySem PySem.Spec PyProof.Rows L2 TmZ TmE
theorem ok_strs {ns : List Str} (h : ∀ x ∈ ns, okName x = true) : ns.all PyData.strOk = true := by
  rw [List.all_eq_true]
  intro x hx
  have hk := h x hx
  unfold okName at hk
  simp only [Bool.and_eq_true] at hk
  unfold PyData.strOk
  rw [← Array.all_toList, List.all_eq_true]
  intro c hc
  have := List.all_eq_true.mp hk.2 c hc
  simp only [Bool.and_eq_true, decide_eq_true_eq] at this ⊢
  omega
/-! ### texts sorted -/
def insS (x : Str) : List Str → List Str
  | [] => [x]
  | y :: r => if ltCps x.cps.toList y.cps.toList = true then x :: y :: r else y :: insS x r
def srtS : List Str → List Str
  | [] => []
  | x :: r => insS x (srtS r)
theorem ins_perm (x : Str) : ∀ l : List Str, (insS x l).Perm (x :: l)
  | [] => .refl _
  | y :: r => by
    unfold insS
    by_cases h : ltCps x.cps.toList y.cps.toList = true
    · rw [if_pos h]
    · rw [if_neg h]
      exact ((ins_perm x r).cons y).trans (List.Perm.swap x y r)
theorem srt_perm : ∀ l : List Str, (srtS l).Perm l
  | [] => .refl _
  | x :: r => (ins_perm x (srtS r)).trans ((srt_perm r).cons x)
theorem ltc_asym {a b : List Nat} (h : ltCps a b = true) : ltCps b a = false := by
  rw [ltCps_eq, decide_eq_true_eq] at h
  rw [ltc_no]
  exact List.le_of_lt h
theorem ins_rising {p x : Str} : ∀ {l : List Str}, risingS p l = true → ltCps x.cps.toList p.cps.toList = false → risingS p (insS x l) = true
  | [], _, hx => by
    show (!ltCps x.cps.toList p.cps.toList && true) = true
    rw [hx]
    rfl
  | y :: r, h, hx => by
    have h2 : (!ltCps y.cps.toList p.cps.toList && risingS y r) = true := h
    simp only [Bool.and_eq_true, Bool.not_eq_true'] at h2
    unfold insS
    by_cases c : ltCps x.cps.toList y.cps.toList = true
    · rw [if_pos c]
      show (!ltCps x.cps.toList p.cps.toList && (!ltCps y.cps.toList x.cps.toList && risingS y r)) = true
      rw [hx, ltc_asym c, h2.2]
      rfl
    · rw [if_neg c]
      show (!ltCps y.cps.toList p.cps.toList && risingS y (insS x r)) = true
      rw [h2.1, ins_rising h2.2 (by simpa using c)]
      rfl
theorem ins_sorted {x : Str} : ∀ {l : List Str}, sortedS l = true → sortedS (insS x l) = true
  | [], _ => rfl
  | y :: r, h => by
    have h2 : risingS y r = true := h
    unfold insS
    by_cases c : ltCps x.cps.toList y.cps.toList = true
    · rw [if_pos c]
      show (!ltCps y.cps.toList x.cps.toList && risingS y r) = true
      rw [ltc_asym c, h2]
      rfl
    · rw [if_neg c]
      exact ins_rising h2 (by simpa using c)
theorem srt_sorted : ∀ l : List Str, sortedS (srtS l) = true
  | [] => rfl
  | _ :: r => ins_sorted (srt_sorted r)
theorem srt_is {ys l : List Str} (p : ys.Perm l) (s : sortedS ys = true) : ys = srtS l := sorted_one (p.trans (srt_perm l).symm) s (srt_sorted l)
theorem srt_congr {l m : List Str} (p : l.Perm m) : srtS l = srtS m := srt_is ((srt_perm l).trans p) (srt_sorted l)
theorem srt_srt (l : List Str) : srtS (srtS l) = srtS l := (srt_is (.refl _) (srt_sorted l)).symm
theorem srt_len (l : List Str) : (srtS l).length = l.length := (srt_perm l).length_eq
/-! ### the order of two teams -/
def encT (l : List Str) : PyData := .tuple [.int (l.length : Int), teamD l]
def ltT (a b : List Str) : Bool := PySem.W.dataLt (encT a) (encT b)
theorem toks_inj : ∀ {a b : List Str}, PySem.W.keyToksAll (a.map .str) = PySem.W.keyToksAll (b.map .str) → a = b
  | [], [], _ => rfl
  | [], b :: bs, h => by
    simp only [List.map_nil, List.map_cons, PySem.W.keyToksAll] at h
    injection h with h1 h2
    cases h1
  | a :: as, [], h => by
    simp only [List.map_nil, List.map_cons, PySem.W.keyToksAll] at h
    injection h with h1 h2
    cases h1
  | a :: as, b :: bs, h => by
    simp only [List.map_cons, PySem.W.keyToksAll, PySem.W.keyToks, List.cons_append, List.nil_append] at h
    injection h with h1 h2
    injection h2 with h3 h4
    have e : a = b := PySem.W.str_of_cps (Sum.inr.inj h3)
    rw [e, toks_inj h4]
theorem ltT_eq {a b : List Str} (h1 : ltT a b = false) (h2 : ltT b a = false) : a = b := by
  have h := lex_total _ _ h1 h2
  simp only [encT, teamD, PySem.W.keyToks, PySem.W.keyToksAll, List.cons_append, List.nil_append] at h
  injection h with _ h
  injection h with _ h
  injection h with _ h
  exact toks_inj (List.append_cancel_right h)
theorem ltT_asym {a b : List Str} (h : ltT a b = true) : ltT b a = false := by
  cases e : ltT b a with
  | false => rfl
  | true =>
    have := lex_trans _ _ _ h e
    rw [lex_irrefl] at this
    cases this
/-! ### the normal teams -/
def nrmF (f g : List Str) : List Str := if ltT (srtS g) (srtS f) = true then srtS g else srtS f
def nrmG (f g : List Str) : List Str := if ltT (srtS g) (srtS f) = true then srtS f else srtS g
theorem nrm_idem (f g : List Str) : nrmF (nrmF f g) (nrmG f g) = nrmF f g ∧ nrmG (nrmF f g) (nrmG f g) = nrmG f g := by
  by_cases h : ltT (srtS g) (srtS f) = true
  · have a : nrmF f g = srtS g := if_pos h
    have b : nrmG f g = srtS f := if_pos h
    have c := ltT_asym h
    rw [a, b]
    unfold nrmF nrmG
    rw [srt_srt, srt_srt, c]
    exact ⟨if_neg (by decide), if_neg (by decide)⟩
  · have a : nrmF f g = srtS f := if_neg h
    have b : nrmG f g = srtS g := if_neg h
    rw [a, b]
    unfold nrmF nrmG
    rw [srt_srt, srt_srt]
    exact ⟨if_neg h, if_neg h⟩
theorem nrm_comm (f g : List Str) : nrmF g f = nrmF f g ∧ nrmG g f = nrmG f g := by
  by_cases h : ltT (srtS g) (srtS f) = true
  · have c := ltT_asym h
    unfold nrmF nrmG
    rw [if_pos h, if_pos h, c]
    exact ⟨if_neg (by decide), if_neg (by decide)⟩
  · by_cases k : ltT (srtS f) (srtS g) = true
    · unfold nrmF nrmG
      rw [if_neg h, if_neg h, if_pos k, if_pos k]
      exact ⟨rfl, rfl⟩
    · have e := ltT_eq (by simpa using h) (by simpa using k)
      unfold nrmF nrmG
      rw [if_neg h, if_neg h, if_neg k, if_neg k, e]
      exact ⟨rfl, rfl⟩
theorem nrm_perm (f g : List Str) : (nrmF f g ++ nrmG f g).Perm (f ++ g) := by
  by_cases h : ltT (srtS g) (srtS f) = true
  · unfold nrmF nrmG
    rw [if_pos h, if_pos h]
    exact List.perm_append_comm.trans ((srt_perm f).append (srt_perm g))
  · unfold nrmF nrmG
    rw [if_neg h, if_neg h]
    exact (srt_perm f).append (srt_perm g)
def Pl.nrm (p : Pl) : Pl := ⟨p.t, p.s, nrmF p.f p.g, nrmG p.f p.g⟩
theorem nrm_len (f g : List Str) : (nrmF f g ≠ [] ∧ nrmG f g ≠ []) ↔ (f ≠ [] ∧ g ≠ []) := by
  have z : ∀ l : List Str, srtS l ≠ [] ↔ l ≠ [] := fun l => by
    rw [← List.length_pos_iff, ← List.length_pos_iff, srt_len]
  unfold nrmF nrmG
  by_cases h : ltT (srtS g) (srtS f) = true
  · rw [if_pos h, if_pos h, z, z]
    exact and_comm
  · rw [if_neg h, if_neg h, z, z]
theorem Pl.Ok.nrm {p : Pl} (ok : p.Ok) : p.nrm.Ok := by
  have l := (nrm_len p.f p.g).mpr ⟨ok.f, ok.g⟩
  have pm := nrm_perm p.f p.g
  refine ⟨ok.s, l.1, l.2, ?_, fun x hx => ok.all x (pm.mem_iff.mp hx)⟩
  have := pm.length_eq
  rw [List.length_append, List.length_append] at this
  show (nrmF p.f p.g).length + (nrmG p.f p.g).length ≤ 6
  rw [this]
  exact ok.few
theorem Pl.Ok.swap {p : Pl} (ok : p.Ok) : Pl.Ok ⟨p.t, p.s, p.g, p.f⟩ :=
  ⟨ok.s, ok.g, ok.f, by show p.g.length + p.f.length ≤ 6; rw [Nat.add_comm]; exact ok.few, fun x hx => ok.all x (List.perm_append_comm.mem_iff.mp hx)⟩
/-! ### data of teams -/
theorem eqv_strsD : ∀ a b : List Str, PyData.eqvAll (a.map .str) (b.map .str) = decide (a = b)
  | [], [] => by simp [PyData.eqvAll]
  | [], b :: bs => by simp [PyData.eqvAll]
  | a :: as, [] => by simp [PyData.eqvAll]
  | a :: as, b :: bs => by
    rw [List.map_cons, List.map_cons, PyData.eqvAll, eqv_strsD as bs, Bool.eq_iff_iff]
    simp [PyData.eqv]
theorem eqv_team (a b : List Str) : PyData.eqv (teamD a) (teamD b) = decide (a = b) := by
  unfold teamD
  rw [PyData.eqv, eqv_strsD]
theorem eqv_pair (a b c d : List Str) : PyData.eqv (.tuple [teamD a, teamD b]) (.tuple [teamD c, teamD d]) = decide (a = c ∧ b = d) := by
  rw [PyData.eqv, PyData.eqvAll, PyData.eqvAll, PyData.eqvAll, eqv_team, eqv_team, Bool.eq_iff_iff]
  simp
theorem eqv_pairL (a b c d : List Str) : PyData.eqv (.list [teamD a, teamD b]) (.list [teamD c, teamD d]) = decide (a = c ∧ b = d) := by
  rw [PyData.eqv, PyData.eqvAll, PyData.eqvAll, PyData.eqvAll, eqv_team, eqv_team, Bool.eq_iff_iff]
  simp
end Tm

/-! sorted(a tuple of texts); teams cut and put together. -/
namespace Tm
open PySem PySem.Spec PyProof.Rows L2 TmZ TmE
local macro_rules | `(tactic| walk_at "x") => `(tactic| dsimp only [tNext, tRet, tSeq, tCall, tCB, tC, tCons, tNil, tAsg, tDrop, sFld])
def rSortTS (K : PySem.W.Frag) : List V → Hp → VK → Prop := fun vs H Q => ∃ (a : Addr) (l : List Str), vs = [V.ref a] ∧ SqT K H a (strV l) ∧ l.length < 64 ∧ ∀ p, H p = none → Q (.ref p) (upd H p (.lst (strV (srtS l))))
theorem cr_sortTS {X : Cx} {K : PySem.W.Frag} (hK : X.K = K := by rfl) : CallR X (.builtin "sorted") (rSortTS K) := by
  subst hK
  intro pins s σ H vs us Q I r h
  obtain ⟨a, ss, rfl, hs, h64, q⟩ := h
  obtain ⟨its, rv, pl, _⟩ := I.tuple hs
  rw [Vals.ref1 r]
  have hi : StrsAre its ss := by
    have : Vals (ss.map V.str) its := rv
    exact this.strs
  have hl : its.length = ss.length := by
    have := rv.length
    unfold strV at this
    rw [List.length_map] at this
    exact this.symm
  obtain ⟨o, ho, hc, n, hd⟩ := id pl
  have z16 : its.length ≤ sizeLine := by rw [hl, sizeLine_eq]; omega
  refine Calls.call_function_entry kind_sorted plain_sorted entry_sorted (args_sorted1 _) ?_
  unfold Builtin.«sorted»
  refine wpAny_bind (m := checkCount "sorted" 1 1 _) (wpAny_pure ?_)
  refine wpAny_bind (wpAny_collect_seq a (.inr rfl) ho hc hd (fun g keep => ?_) (by simpa using z16))
  have e1 : its.toArray.toList = its := by simp
  rw [e1]
  have J : Inv X pins σ H { s with heap := g } := I.kept (t' := s.toks) keep
  refine wpAny_bind (wpAny_newList ?_ z16)
  have at_ : (g.push (seqObj "list" its.toArray 0)).get? g.objs.size = some (seqObj "list" its.toArray 0) := Heap.get?_push_size _ rfl
  show wpAny _ _ _ _ _ { s with heap := g.push (seqObj "list" its.toArray 0) }
  refine wpAny_bind (wpAny_holding (wpAny_call_entry slot_list_sort ⟨_, at_, rfl⟩ entry_list_sort (list_sort_treeK (s := { s with heap := g.push (seqObj "list" its.toArray 0) }) strKind_oneLt at_ hi.keysOf (fun v₁ v₂ rest e => keyKind_strs (by rw [← e]; exact hi)) (by rw [hl]; exact h64) fun st' hp hs => ⟨_, rfl, ?_⟩) (args_list_sort _)))
  obtain ⟨ys, g1, g2, g3⟩ := sorted_out_str hi hp hs
  have ey : ys = srtS ss := srt_is g2 g3
  subst ey
  obtain ⟨e', he'⟩ := sortedHeap_at (vs := its) (out := (arrOf st').map (·.2)) at_
  have few : (strV (srtS ss)).length ≤ sizeLine := by
    unfold strV
    rw [List.length_map, srt_len, ← hl]
    exact z16
  have new : ObjOk X.prog X.w (upd H g.objs.size (.lst (strV (srtS ss)))) (sortedHeap (g.push (seqObj "list" its.toArray 0)) g.objs.size its ((arrOf st').map (·.2))) g.objs.size (.lst (strV (srtS ss))) := ⟨few, ((arrOf st').map (·.2)).toList, e', vals_of_strs g1, by rw [Array.toArray_toList]; exact he'⟩
  refine wpAny_pure ⟨_, rfl, .ref g.objs.size, _, J.laid (t' := s.toks) (fun b u e => ?_) (Nat.le_refl _) new, rfl, q _ (J.hok.fresh (Nat.le_refl _))⟩
  have hb : b < g.objs.size := Heap.lt_size e
  have hb2 : b < (g.push (seqObj "list" its.toArray 0)).objs.size := by rw [size_push']; exact Nat.lt_succ_of_lt hb
  exact (sortedHeap_old (Nat.ne_of_lt hb) hb2).trans (Heap.get?_push_of_some _ e)
/-! ### teams cut and put together -/
theorem cutV_head (l : List Str) (k : Nat) : cutV (strV l) none (some (k : Int)) = strV (l.take k) := by
  unfold cutV strV
  rw [HT.sIx_none, HT.sIx_nat, List.drop_zero, Nat.sub_zero, List.length_map, List.map_take]
  by_cases h : k ≤ l.length
  · rw [Nat.min_eq_left h]
  · rw [Nat.min_eq_right (by omega), List.take_of_length_le (by rw [List.length_map]; exact Nat.le_refl _), List.take_of_length_le (by rw [List.length_map]; omega)]
theorem cutV_tail (l : List Str) (k : Nat) : cutV (strV l) (some (k : Int)) none = strV (l.drop k) := by
  unfold cutV strV
  rw [HT.sIx_none, HT.sIx_nat, List.length_map, List.map_drop]
  by_cases h : k ≤ l.length
  · rw [Nat.min_eq_left h, List.take_of_length_le (by rw [List.length_drop, List.length_map]; exact Nat.le_refl _)]
  · rw [Nat.min_eq_right (by omega), Nat.sub_self, List.take_zero, List.drop_of_length_le (by rw [List.length_map]; omega)]
section
variable {K : PySem.W.Frag} {σ : L2.St} {H : Hp} {ta tb tn : TE} {E : XK} {l m : List Str}
theorem team_ne {l : List Str} : strV l = [] ↔ l = [] := by
  unfold strV
  rw [List.map_eq_nil_iff]
/-- team + team -/
theorem ev_teamCat (h1 : Ev ta σ H fun v H1 => TeamV H1 v l) (h2 : ∀ H1, Same H H1 → Ev tb σ H1 fun v H2 => TeamV H2 v m) (few : l.length + m.length ≤ 1000) : Ev (tOp (rCatA K) ta tb) σ H fun v H1 => TeamV H1 v (l ++ m) := fun Q q =>
  h1 _ fun v H1 e1 k1 => h2 H1 e1 _ fun u H2 e2 k2 => by
    obtain ⟨p, ev, hp⟩ := k1.keep e2
    obtain ⟨p', eu, hp'⟩ := k2
    subst ev eu
    have e12 := e1.trans e2
    refine ⟨p, p', strV l, strV m, rfl, rfl, .inl hp, .inl hp', by unfold strV; rw [List.length_map, List.length_map, sizeLine_eq]; omega, fun z => ?_, fun _ z => ?_, fun _ _ pn hpn => ?_⟩
    · have e : l ++ m = m := by rw [team_ne.mp z, List.nil_append]
      exact q _ _ e12 (by rw [e]; exact ⟨p', rfl, hp'⟩)
    · have e : l ++ m = l := by rw [team_ne.mp z, List.append_nil]
      exact q _ _ e12 (by rw [e]; exact ⟨p, rfl, hp⟩)
    · refine q _ _ (e12.trans (same_new hpn)) ⟨pn, rfl, .inl ?_⟩
      rw [upd_same]
      unfold strV
      rw [List.map_append]
/-- team[:k] -/
theorem ev_teamHead {k : Nat} (h1 : Ev ta σ H fun v H1 => TeamV H1 v l) (h2 : ∀ H1, Same H H1 → Ev tn σ H1 fun v _ => v = .int (k : Int)) : Ev (tSl (rSlA K) ta tNoPart (tPart tn)) σ H fun v H1 => TeamV H1 v (l.take k) := fun Q q =>
  h1 _ fun v H1 e1 k1 => h2 H1 e1 _ fun u H2 e2 k2 => by
    obtain ⟨p, ev, hp⟩ := k1.keep e2
    subst ev k2
    have e12 := e1.trans e2
    refine ⟨(k : Int), rfl, p, strV l, rfl, .inl hp, fun z => ?_, fun _ pn hpn => ?_⟩
    · have : l.take k = l := by
        refine List.take_of_length_le ?_
        have := z.2
        rw [HT.sIx_nat] at this
        unfold strV at this
        rw [List.length_map] at this
        omega
      exact q _ _ e12 (by rw [this]; exact ⟨p, rfl, hp⟩)
    · rw [cutV_head]
      exact q _ _ (e12.trans (same_new hpn)) ⟨pn, rfl, .inl upd_same⟩
/-- team[k:] -/
theorem ev_teamTail {k : Nat} (h1 : Ev ta σ H fun v H1 => TeamV H1 v l) (h2 : ∀ H1, Same H H1 → Ev tn σ H1 fun v _ => v = .int (k : Int)) : Ev (tSl (rSlA K) ta (tPart tn) tNoPart) σ H fun v H1 => TeamV H1 v (l.drop k) := fun Q q =>
  h1 _ fun v H1 e1 k1 => h2 H1 e1 _ fun u H2 e2 k2 => by
    obtain ⟨p, ev, hp⟩ := k1.keep e2
    subst ev k2
    have e12 := e1.trans e2
    refine ⟨(k : Int), rfl, p, strV l, rfl, .inl hp, fun z => ?_, fun _ pn hpn => ?_⟩
    · have : l.drop k = l := by
        have z1 := z.1
        rw [HT.sIx_nat] at z1
        unfold strV at z1
        rw [List.length_map] at z1
        by_cases h0 : k = 0
        · rw [h0, List.drop_zero]
        · have : l.length = 0 := by omega
          rw [List.eq_nil_of_length_eq_zero this, List.drop_nil]
      exact q _ _ e12 (by rw [this]; exact ⟨p, rfl, hp⟩)
    · rw [cutV_tail]
      exact q _ _ (e12.trans (same_new hpn)) ⟨pn, rfl, .inl upd_same⟩
end
theorem slAK {X : Cx} {K : PySem.W.Frag} (hK : X.K = K := by rfl) : SlR X (rSlA K) := by subst hK; exact sl_tupA
theorem catAK {X : Cx} {K : PySem.W.Frag} (hK : X.K = K := by rfl) : OpR X (binaryOp .Add) (rCatA K) := by subst hK; exact op_catA
end Tm

/-! Plan: team_of, _with_team, fewer, more, exchanged, normal, is_normal. -/
namespace Tm
open PySem PySem.Spec PyProof.Rows L2 TmZ TmE TmD
local macro_rules | `(tactic| walk_at "x") => `(tactic| dsimp only [tNext, tRet, tSeq, tCall, tCB, tC, tCons, tNil, tAsg, tDrop, sFld])
def Pl.team (p : Pl) (k : Nat) : List Str := if k = 0 then p.f else p.g
def Pl.put (p : Pl) (k : Nat) (l : List Str) : Pl := if k = 0 then ⟨p.t, p.s, l, p.g⟩ else ⟨p.t, p.s, p.f, l⟩
def Pl.side (p : Pl) (i : Nat) : Nat := if i < p.f.length then 0 else 1
def Pl.spot (p : Pl) (i : Nat) : Nat := i - p.side i * p.f.length
def Pl.less (p : Pl) (i : Nat) : Pl := p.put (p.side i) ((p.team (p.side i)).take (p.spot i) ++ (p.team (p.side i)).drop (p.spot i + 1))
theorem Pl.side_lt (p : Pl) (i : Nat) : p.side i < 2 := by
  unfold Pl.side
  split <;> omega
theorem Pl.spot_lt {p : Pl} {i : Nat} (h : i < p.th.length) : p.spot i < (p.team (p.side i)).length ∧ p.side i * p.f.length ≤ i := by
  rw [show p.th.length = p.f.length + p.g.length from List.length_append] at h
  unfold Pl.spot Pl.team Pl.side
  by_cases c : i < p.f.length
  · rw [if_pos c, if_pos rfl]
    omega
  · rw [if_neg c, if_neg (by decide)]
    omega
theorem cut_len {l : List Str} {k : Nat} (h : k < l.length) : (l.take k ++ l.drop (k + 1)).length = l.length - 1 := by
  rw [List.length_append, List.length_take, List.length_drop]
  omega
theorem Pl.Ok.less {p : Pl} {i : Nat} (ok : p.Ok) (h : i < p.th.length) (n1 : (p.team (p.side i)).length ≠ 1) : (p.less i).Ok := by
  have sp := (Pl.spot_lt h).1
  have cl := cut_len sp
  have sub : ∀ x ∈ (p.team (p.side i)).take (p.spot i) ++ (p.team (p.side i)).drop (p.spot i + 1), x ∈ p.team (p.side i) := fun x hx => by
    rcases List.mem_append.mp hx with h | h
    · exact List.mem_of_mem_take h
    · exact List.mem_of_mem_drop h
  have lf := List.length_pos_iff.mpr ok.f
  have lg := List.length_pos_iff.mpr ok.g
  have few := ok.few
  have ne : (p.team (p.side i)).take (p.spot i) ++ (p.team (p.side i)).drop (p.spot i + 1) ≠ [] := fun e => by
    rw [e] at cl
    have : ([] : List Str).length = 0 := rfl
    omega
  unfold Pl.less Pl.put
  by_cases c : p.side i = 0
  · rw [if_pos c]
    have ht : p.team (p.side i) = p.f := by rw [c]; rfl
    rw [ht] at sp cl sub ne n1 ⊢
    refine ⟨ok.s, ne, ok.g, by show _ + p.g.length ≤ 6; rw [cl]; omega, fun x hx => ok.all x ?_⟩
    rcases List.mem_append.mp hx with h | h
    · exact List.mem_append_left _ (sub x h)
    · exact List.mem_append_right _ h
  · have c1 : p.side i = 1 := by have := p.side_lt i; omega
    rw [if_neg c]
    have ht : p.team (p.side i) = p.g := by rw [c1]; rfl
    rw [ht] at sp cl sub ne n1 ⊢
    refine ⟨ok.s, ok.f, ne, by show p.f.length + _ ≤ 6; rw [cl]; omega, fun x hx => ok.all x ?_⟩
    rcases List.mem_append.mp hx with h | h
    · exact List.mem_append_left _ h
    · exact List.mem_append_right _ (sub x h)
theorem Pl.Ok.more {p : Pl} {k : Nat} {x : Str} (ok : p.Ok) (hx : x ∈ namesT p.t) (few : p.th.length < 6) : (p.put k (p.team k ++ [x])).Ok := by
  rw [show p.th.length = p.f.length + p.g.length from List.length_append] at few
  unfold Pl.put Pl.team
  by_cases c : k = 0
  · rw [if_pos c, if_pos c]
    refine ⟨ok.s, by simp, ok.g, by show (p.f ++ [x]).length + p.g.length ≤ 6; rw [List.length_append]; show p.f.length + 1 + _ ≤ 6; omega, fun y hy => ?_⟩
    rcases List.mem_append.mp hy with h | h
    · rcases List.mem_append.mp h with h | h
      · exact ok.all y (List.mem_append_left _ h)
      · rw [List.mem_singleton.mp h]
        exact hx
    · exact ok.all y (List.mem_append_right _ h)
  · rw [if_neg c, if_neg c]
    refine ⟨ok.s, ok.f, by simp, by show p.f.length + (p.g ++ [x]).length ≤ 6; rw [List.length_append]; show _ + (p.g.length + 1) ≤ 6; omega, fun y hy => ?_⟩
    rcases List.mem_append.mp hy with h | h
    · exact ok.all y (List.mem_append_left _ h)
    · rcases List.mem_append.mp h with h | h
      · exact ok.all y (List.mem_append_right _ h)
      · rw [List.mem_singleton.mp h]
        exact hx
section
variable {K : PySem.W.Frag} {C CP : Addr} {σ : L2.St} {H : Hp} {te : TE} {E : XK} {p : Pl}
theorem ev_fK {i : Nat} {v : V} (TP : Kp K CP) (hi : σ[i]? = some (some v)) (h : PlanV C CP H v p) : Ev (tFld K (tVar i) "_kind") σ H fun v H1 => KindV C H1 v p.t := fun Q q => by
  obtain ⟨a, dx, k, tm, p1, p2, th, rfl, ha, hk, _⟩ := h
  exact ⟨_, hi, a, CP, dx, _, _, rfl, ha, TP.cl, TP.nK, pf_K _ _ _ _, q _ _ (Same.refl _) hk⟩
theorem ev_fS {i : Nat} {v : V} (TP : Kp K CP) (hi : σ[i]? = some (some v)) (h : PlanV C CP H v p) : Ev (tFld K (tVar i) "_start") σ H fun v _ => v = .int (p.s : Int) := fun Q q => by
  obtain ⟨a, dx, k, tm, p1, p2, th, rfl, ha, hk, _⟩ := h
  exact ⟨_, hi, a, CP, dx, _, _, rfl, ha, TP.cl, TP.nS, pf_S _ _ _ _, q _ _ (Same.refl _) rfl⟩
/-- self._teams[k] -/
theorem ev_fT {i k : Nat} {v : V} {tn : TE} (TP : Kp K CP) (hi : σ[i]? = some (some v)) (h : PlanV C CP H v p) (hn : ∀ H1, Same H H1 → Ev tn σ H1 fun v _ => v = .int (k : Int)) (hk2 : k < 2) : Ev (tOp (rIxT K) (tFld K (tVar i) "_teams") tn) σ H fun v H1 => TeamV H1 v (p.team k) := fun Q q => by
  obtain ⟨a, dx, kk, tm, p1, p2, th, rfl, ha, hk, htm, h1, h2, _⟩ := h
  refine ⟨_, hi, a, CP, dx, _, _, rfl, ha, TP.cl, TP.nM, pf_M _ _ _ _, hn H (Same.refl _) _ fun u H1 e1 eu => ?_⟩
  subst eu
  have ck : k = 0 ∨ k = 1 := by omega
  rcases ck with rfl | rfl
  · exact ⟨tm, _, _, _, rfl, rfl, SqT.of (e1 _ _ htm), atI_nat (j := 0) rfl, q _ _ e1 (h1.keep e1)⟩
  · exact ⟨tm, _, _, _, rfl, rfl, SqT.of (e1 _ _ htm), atI_nat (j := 1) rfl, q _ _ e1 (h2.keep e1)⟩
/-- len(a team) -/
theorem ev_teamLen {l : List Str} (h : Ev te σ H fun v H1 => TeamV H1 v l) : Ev (tCB (fun xs H Q => ∃ p ys, xs = [.ref p] ∧ (SqL K H p ys ∨ SqT K H p ys) ∧ Q (.int ys.length) H) (tCons te tNil)) σ H fun v _ => v = .int (l.length : Int) := fun Q q =>
  h _ fun v H1 e1 hv => by
    obtain ⟨a, rfl, ha⟩ := hv
    exact ⟨a, _, rfl, .inr (.inl ha), q _ _ e1 (by unfold strV; rw [List.length_map])⟩
end
section
variable {P : Program} {w : World} {K : PySem.W.Frag} {mg : Str → Option Value} {base : Heap} {C CP : Addr}
abbrev s_teamof : Stmt := inClass (top 29) 5
abbrev s_fewer : Stmt := inClass (top 29) 9
abbrev s_pmore : Stmt := inClass (top 29) 10
abbrev s_exch : Stmt := inClass (top 29) 11
abbrev s_normal : Stmt := inClass (top 29) 12
abbrev s_isnorm : Stmt := inClass (top 29) 13
abbrev s_wteam : Stmt := inClass (top 29) 17
theorem sc_team_of : FnScope ["self", "thread"] ["self", "thread"] (defScope s_teamof) := ⟨rfl, rfl, rfl, by decide +kernel, rfl, by decide +kernel, by decide +kernel⟩
theorem sc_fewer : FnScope ["self", "thread", "team", "names", "place"] ["self", "thread"] (defScope s_fewer) := ⟨rfl, rfl, rfl, by decide +kernel, rfl, by decide +kernel, by decide +kernel⟩
theorem sc_more : FnScope ["self", "team", "name"] ["self", "team", "name"] (defScope s_pmore) := ⟨rfl, rfl, rfl, by decide +kernel, rfl, by decide +kernel, by decide +kernel⟩
theorem sc_exchanged : FnScope ["self"] ["self"] (defScope s_exch) := ⟨rfl, rfl, rfl, by decide +kernel, rfl, by decide +kernel, by decide +kernel⟩
theorem sc_normal : FnScope ["self", "low", "high", "team"] ["self"] (defScope s_normal) := ⟨rfl, rfl, rfl, by decide +kernel, rfl, by decide +kernel, by decide +kernel⟩
theorem sc_is_normal : FnScope ["self"] ["self"] (defScope s_isnorm) := ⟨rfl, rfl, rfl, by decide +kernel, rfl, by decide +kernel, by decide +kernel⟩
theorem sc_with_team : FnScope ["self", "team", "names"] ["self", "team", "names"] (defScope s_wteam) := ⟨rfl, rfl, rfl, by decide +kernel, rfl, by decide +kernel, by decide +kernel⟩
def sp_teamof (C CP : Addr) : Sp := fun vs H Q _ => ∃ (v : V) (p : Pl) (i : Nat), vs = [v, .int (i : Int)] ∧ PlanV C CP H v p ∧ i < p.th.length ∧ Q (.int (p.side i : Int)) H
theorem ok_teamof (B : Bt mg) (TP : Kp K CP) (O_need_number : Ok P w K mg base "need_number" 2 ["value", "least", "most"] sp_need) (D : DfM K CP "team_of" "Plan.team_of" s_teamof ["self", "thread"]) : OkM P w K mg base CP "team_of" 3 ["self", "thread"] (sp_teamof C CP) := by
  refine D.ok sc_team_of (fun vs H Q E h => ?_) (fun f cdv A outer s H vs Q E hr h => ?_)
  · obtain ⟨v, p, i, rfl, _⟩ := h
    rfl
  · obtain ⟨v, p, i, rfl, hp, hi, q⟩ := h
    refine ⟨_, pss_cons (ps_expr (O_need_number.call hr (ha := pa_cons (pv 1) (pa_cons (pe_int) (pa_cons (pe_op op_sub (pe_callB (lenK (K := K)) (by rfl) B.len (by decide +kernel) (pa_cons (pe_fld (pv 0) rfl) (pa_nil))) (pe_int)) (pa_nil))))))
      (pss_one (ps_ret (pe_ifExp (pt_cmpR op_lt (pv 1) (pe_callB (lenK (K := K)) (by rfl) B.len (by decide +kernel) (pa_cons (pe_ix (ixTK (K := K)) (pe_fld (pv 0) rfl) (pe_int) (fun _ _ => rfl)) (pa_nil))) (nomark _)) (pe_int) (pe_int)))), ?_⟩
    obtain ⟨a, dx, k, tm, p1, p2, th, rfl, ha, hk, htm, h1, h2, hth, ok⟩ := id hp
    have lt : (strV p.th).length = p.th.length := List.length_map _
    refine ⟨_, rfl, _, rfl, a, CP, dx, _, _, rfl, ha, TP.cl, TP.nH, pf_H _ _ _ _, th, _, rfl, .inr (SqT.of hth), _, _, rfl, rfl, (i : Int), 0, _, rfl, by omega, by rw [lt]; omega, ?_⟩
    obtain ⟨pa, rfl, hpa⟩ := id h1
    refine ⟨_, rfl, _, rfl, a, CP, dx, _, _, rfl, ha, TP.cl, TP.nM, pf_M _ _ _ _, tm, _, _, _, rfl, rfl, SqT.of htm, atI_nat (j := 0) rfl, pa, _, rfl, .inr (.inl hpa), _, _, rfl, rfl, _, rfl, ?_⟩
    have lf : (strV p.f).length = p.f.length := List.length_map _
    rw [lf]
    unfold Pl.side at q
    by_cases c : i < p.f.length
    · rw [if_pos c] at q
      exact ifT (decide_eq_true (by omega)) q
    · rw [if_neg c] at q
      exact ifF (decide_eq_false (by omega)) q
def sp_wteam (C CP : Addr) : Sp := fun vs H Q _ => ∃ (v u : V) (p : Pl) (k : Nat) (l : List Str), vs = [v, .int (k : Int), u] ∧ k < 2 ∧ PlanV C CP H v p ∧ TeamV H u l ∧ (p.put k l).Ok ∧ ∀ z H', Same H H' → PlanV C CP H' z (p.put k l) → Q z H'
theorem ok_wteam (TP : Kp K CP) (OC_Plan : OkC P w K mg base "Plan" CP 4 ["self", "kind", "start", "first", "second"] (sp_pinit C CP)) (D : DfM K CP "_with_team" "Plan._with_team" s_wteam ["self", "team", "names"]) : OkM P w K mg base CP "_with_team" 6 ["self", "team", "names"] (sp_wteam C CP) := by
  refine D.ok sc_with_team (fun vs H Q E h => ?_) (fun f cdv A outer s H vs Q E hr h => ?_)
  · obtain ⟨v, u, p, k, l, rfl, _⟩ := h
    rfl
  · obtain ⟨v, u, p, k, l, rfl, k2, hp, hl, ok, q⟩ := h
    refine ⟨_, pss_cons (ps_if (pt_cmpR op_eq (pv 1) (pe_int) (nomark _))
        (pss_one (ps_ret (OC_Plan.make hr (ha := pa_cons (pe_fld (pv 0) rfl) (pa_cons (pe_fld (pv 0) rfl) (pa_cons (pv 2) (pa_cons (pe_ix (ixTK (K := K)) (pe_fld (pv 0) rfl) (pe_int) (fun _ _ => rfl)) (pa_nil))))))))
        (pss_nil))
      (pss_one (ps_ret (OC_Plan.make hr (ha := pa_cons (pe_fld (pv 0) rfl) (pa_cons (pe_fld (pv 0) rfl) (pa_cons (pe_ix (ixTK (K := K)) (pe_fld (pv 0) rfl) (pe_int) (fun _ _ => rfl)) (pa_cons (pv 2) (pa_nil)))))))), ?_⟩
    unfold Pl.put at ok q
    by_cases c : k = 0
    · subst c
      rw [if_pos rfl] at ok q
      refine ⟨_, rfl, rfl, _, rfl, ifT rfl ?_⟩
      dsimp only [tSeq, tRet]
      refine ev_plan (C := C) (p := ⟨p.t, p.s, l, p.g⟩) (ev_fK (p := p) TP rfl hp) (fun H2 e2 => ev_fS (p := p) TP rfl (hp.keep e2)) (fun H2 e2 Q q => ⟨_, rfl, q _ _ (Same.refl _) (hl.keep e2)⟩) (fun H2 e2 => ev_fT (p := p) (k := 1) TP rfl (hp.keep e2) (fun _ _ => ev_c rfl) (by decide)) ok _ fun z H' e' pv => q z H' e' pv
    · have c1 : k = 1 := by omega
      subst c1
      rw [if_neg (by decide)] at ok q
      refine ⟨_, rfl, rfl, _, rfl, ifF rfl ?_⟩
      dsimp only [tNext, tRet]
      refine ev_plan (C := C) (p := ⟨p.t, p.s, p.f, l⟩) (ev_fK (p := p) TP rfl hp) (fun H2 e2 => ev_fS (p := p) TP rfl (hp.keep e2)) (fun H2 e2 => ev_fT (p := p) (k := 0) TP rfl (hp.keep e2) (fun _ _ => ev_c rfl) (by decide)) (fun H2 e2 Q q => ⟨_, rfl, q _ _ (Same.refl _) (hl.keep e2)⟩) ok _ fun z H' e' pv => q z H' e' pv
def sp_exch (C CP : Addr) : Sp := fun vs H Q _ => ∃ (v : V) (p : Pl), vs = [v] ∧ PlanV C CP H v p ∧ ∀ z H', Same H H' → PlanV C CP H' z ⟨p.t, p.s, p.g, p.f⟩ → Q z H'
theorem ok_exch (TP : Kp K CP) (OC_Plan : OkC P w K mg base "Plan" CP 4 ["self", "kind", "start", "first", "second"] (sp_pinit C CP)) (D : DfM K CP "exchanged" "Plan.exchanged" s_exch ["self"]) : OkM P w K mg base CP "exchanged" 6 ["self"] (sp_exch C CP) := by
  refine D.ok sc_exchanged (fun vs H Q E h => ?_) (fun f cdv A outer s H vs Q E hr h => ?_)
  · obtain ⟨v, p, rfl, _⟩ := h
    rfl
  · obtain ⟨v, p, rfl, hp, q⟩ := h
    have ok : p.Ok := by
      obtain ⟨_, _, _, _, _, _, _, _, _, _, _, _, _, _, ok⟩ := hp
      exact ok
    refine ⟨_, pss_one (ps_ret (OC_Plan.make hr (ha := pa_cons (pe_fld (pv 0) rfl) (pa_cons (pe_fld (pv 0) rfl) (pa_cons (pe_ix (ixTK (K := K)) (pe_fld (pv 0) rfl) (pe_int) (fun _ _ => rfl)) (pa_cons (pe_ix (ixTK (K := K)) (pe_fld (pv 0) rfl) (pe_int) (fun _ _ => rfl)) (pa_nil))))))), ?_⟩
    dsimp only [tRet]
    exact ev_plan (C := C) (p := ⟨p.t, p.s, p.g, p.f⟩) (ev_fK (p := p) TP rfl hp) (fun H2 e2 => ev_fS (p := p) TP rfl (hp.keep e2)) (fun H2 e2 => ev_fT (p := p) (k := 1) TP rfl (hp.keep e2) (fun _ _ => ev_c rfl) (by decide)) (fun H2 e2 => ev_fT (p := p) (k := 0) TP rfl (hp.keep e2) (fun _ _ => ev_c rfl) (by decide)) ok.swap _ fun z H' e' pv => q z H' e' pv
def sp_fewer (C CP CO : Addr) : Sp := fun vs H Q E => ∃ (v : V) (p : Pl) (i : Nat), vs = [v, .int (i : Int)] ∧ PlanV C CP H v p ∧ i < p.th.length ∧ ((p.team (p.side i)).length ≠ 1 → ∀ z H', Same H H' → PlanV C CP H' z (p.less i) → Q z H') ∧ ((p.team (p.side i)).length = 1 → ∀ H', Same H H' → E (.ref CO) none H')
theorem ok_fewer {CO : Addr} (B : Bt mg) (ER : ErrC K mg "InvalidOperation" CO) (TP : Kp K CP) (OM_team_of : OkM P w K mg base CP "team_of" 3 ["self", "thread"] (sp_teamof C CP)) (OM_with_team : OkM P w K mg base CP "_with_team" 6 ["self", "team", "names"] (sp_wteam C CP))
    (D : DfM K CP "fewer" "Plan.fewer" s_fewer ["self", "thread"]) : OkMX P w K mg base CP "fewer" 7 ["self", "thread"] (sp_fewer C CP CO) := by
  refine D.okX sc_fewer (fun vs H Q E h => ?_) (fun f cdv A outer s H vs Q E hr h => ?_)
  · obtain ⟨v, p, i, rfl, _⟩ := h
    rfl
  · obtain ⟨v, p, i, rfl, hp, hi, qg, qb⟩ := h
    refine ⟨_, pss_cons (ps_set (i := 2) sc_fewer.nd rfl (.inl rfl) (OM_team_of.call hr TP.cl (he := pv 0) (ha := pa_cons (pv 1) (pa_nil))))
      (pss_cons (ps_set (i := 3) sc_fewer.nd rfl (.inl rfl) (pe_ix (ixTK (K := K)) (pe_fld (pv 0) rfl) (pv 2) (fun _ _ => rfl)))
      (pss_cons (ps_if (pt_cmpR op_eq (pe_callB (lenK (K := K)) (by rfl) B.len (by decide +kernel) (pa_cons (pv 3) (pa_nil))) (pe_int) (nomark _))
        (pss_one (ps_raise rfl (takes_of rfl rfl rfl rfl) (ER.mk')))
        (pss_nil))
      (pss_cons (ps_set (i := 4) sc_fewer.nd rfl (.inl rfl) (pe_op op_sub (pv 1) (pe_op op_mul (pv 2) (pe_callB (lenK (K := K)) (by rfl) B.len (by decide +kernel) (pa_cons (pe_ix (ixTK (K := K)) (pe_fld (pv 0) rfl) (pe_int) (fun _ _ => rfl)) (pa_nil))))))
      (pss_one (ps_ret (OM_with_team.call hr TP.cl (he := pv 0) (ha := pa_cons (pv 2) (pa_cons (pe_op (catAK (K := K)) (pe_slice (slAK (K := K)) (pv 3) (po_none) (po_some (pv 4))) (pe_slice (slAK (K := K)) (pv 3) (po_some (pe_op op_add (pv 4) (pe_int))) (po_none))) (pa_nil))))))))), ?_⟩
    obtain ⟨a, dx, k, tm, p1, p2, th, rfl, ha, hk, htm, h1, h2, hth, ok⟩ := id hp
    have sl := p.side_lt i
    obtain ⟨sp, sm⟩ := Pl.spot_lt hi
    dsimp only [tSeq]
    refine ⟨_, rfl, a, dx, _, rfl, ha, pf_no _ _ _ _, _, rfl, .ref a, p, i, rfl, hp, hi, ?_⟩
    try dsimp only [gName]
    try dsimp only [tSeq]
    refine ev_fT (k := p.side i) TP rfl hp (fun H1 _ => ev_is rfl rfl) sl _ fun v1 H1 e1 hv1 => ?_
    obtain ⟨pt, rfl, hpt⟩ := id hv1
    try dsimp only [gName]
    try dsimp only [tSeq]
    have lt : (strV (p.team (p.side i))).length = (p.team (p.side i)).length := List.length_map _
    refine ⟨_, rfl, pt, _, rfl, .inr (.inl hpt), rfl, _, rfl, ?_⟩
    by_cases one : (p.team (p.side i)).length = 1
    · exact ifT (decide_eq_true (by rw [lt, one]; rfl)) (qb one _ e1)
    refine ifF (decide_eq_false fun z => one (by have := V.int.inj z; omega)) ?_
    try dsimp only [tNext]
    try dsimp only [tSeq]
    have hp1 := hp.keep e1
    have few : p.f.length + p.g.length ≤ 6 := ok.few
    refine ⟨_, rfl, _, rfl, ev_teamLen (ev_fT (k := 0) TP rfl hp1 (fun H1 _ => ev_c rfl) (by decide)) _ fun u H2 e2 eu => ?_⟩
    subst eu
    refine ⟨_, _, rfl, rfl, .inl ⟨by omega, by omega⟩, _, _, rfl, rfl, ?_⟩
    have e12 := e1.trans e2
    have hp2 := hp.keep e12
    have es : (i : Int) - (p.side i : Int) * ((p.team 0).length : Int) = (p.spot i : Int) := by
      have : (p.team 0).length = p.f.length := rfl
      rw [this]
      unfold Pl.spot
      rw [Int.natCast_sub sm, Int.natCast_mul]
    try dsimp only [gName]
    rw [es]
    try dsimp only [tRet, tMeth]
    obtain ⟨_, dx2, _, _, _, _, _, e, ha2, _⟩ := id hp2
    cases e
    have hv2 := hv1.keep e2
    refine ⟨_, rfl, a, dx2, _, rfl, ha2, pf_no _ _ _ _, _, rfl, ?_⟩
    have okl := ok.less hi one
    have fewt : (p.team (p.side i)).length ≤ 6 := by
      unfold Pl.team
      split <;> omega
    refine ev_teamCat (l := (p.team (p.side i)).take (p.spot i)) (m := (p.team (p.side i)).drop (p.spot i + 1)) (ev_teamHead (Ev.imp (ev_is rfl hv2) fun _ _ _ h => h) (fun H3 _ => ev_is rfl rfl)) (fun H3 e3 => ev_teamTail (Ev.imp (ev_is rfl (hv2.keep e3)) fun _ _ _ h => h) (fun H4 _ Q q => ⟨_, rfl, _, _, rfl, rfl, q _ _ (Same.refl _) (by rw [Int.natCast_add]; rfl)⟩)) (by rw [List.length_take, List.length_drop]; omega) _ fun u3 H3 e3 hu3 => ?_
    exact ⟨.ref a, u3, p, p.side i, _, rfl, sl, hp2.keep e3, hu3, okl, fun z H' e' pv => qg one z H' (e12.trans (e3.trans e')) pv⟩
def sp_pmore (C CP CT : Addr) : Sp := fun vs H Q E => ∃ (v : V) (p : Pl) (k : Nat) (x : Str), vs = [v, .int (k : Int), .str x] ∧ k < 2 ∧ PlanV C CP H v p ∧ x ∈ namesT p.t ∧ (p.th.length < 6 → ∀ z H', Same H H' → PlanV C CP H' z (p.put k (p.team k ++ [x])) → Q z H') ∧
  (p.th.length = 6 → ∀ H' d, Same H H' → H' d = none → E (.ref CT) (some d) (upd H' d (.xd [(("limit" : Str), .int 6)])))
theorem ok_pmore {CT fI : Addr} (B : Bt mg) (TX : PySem.TooX.TooTxt K mg CT fI) (hM : GV mg "MAX_THREADS" (.int 6)) (TP : Kp K CP) (O_need_number : Ok P w K mg base "need_number" 2 ["value", "least", "most"] sp_need) (O_in : OkIn P w K mg base C 1 ["self", "x"] (sp_cont C)) (OM_with_team : OkM P w K mg base CP "_with_team" 6 ["self", "team", "names"] (sp_wteam C CP))
    (D : DfM K CP "more" "Plan.more" s_pmore ["self", "team", "name"]) : OkMX P w K mg base CP "more" 7 ["self", "team", "name"] (sp_pmore C CP CT) := by
  refine D.okX sc_more (fun vs H Q E h => ?_) (fun f cdv A outer s H vs Q E hr h => ?_)
  · obtain ⟨v, p, k, x, rfl, _⟩ := h
    rfl
  · obtain ⟨v, p, k, x, rfl, k2, hp, hx, qg, qb⟩ := h
    refine ⟨_, pss_cons (ps_expr (O_need_number.call hr (ha := pa_cons (pv 1) (pa_cons (pe_int) (pa_cons (pe_int) (pa_nil))))))
      (pss_cons (ps_if (pt_cmpR (O_in.notIn hr) (pv 2) (pe_fld (pv 0) rfl) rfl)
        (pss_one (ps_never))
        (pss_nil))
      (pss_cons (ps_if (pt_cmpR op_eq (pe_callB (lenK (K := K)) (by rfl) B.len (by decide +kernel) (pa_cons (pe_fld (pv 0) rfl) (pa_nil))) (hM.pe) (nomark _))
        (pss_one (ps_raiseToo rfl TX hr (takes_of rfl rfl rfl rfl) (pa_cons (hM.pe) (pa_nil))))
        (pss_nil))
      (pss_one (ps_ret (OM_with_team.call hr TP.cl (he := pv 0) (ha := pa_cons (pv 1) (pa_cons (pe_tup (pa_starK (K := K) (pe_ix (ixTK (K := K)) (pe_fld (pv 0) rfl) (pv 1) (fun _ _ => rfl)) (pa_cons (pv 2) (pa_nil)))) (pa_nil)))))))), ?_⟩
    obtain ⟨a, dx, kk, tm, p1, p2, th, rfl, ha, hk, htm, h1, h2, hth, ok⟩ := id hp
    obtain ⟨ka, kdx, _, _, rfl, hka, _⟩ := id hk
    have lt : (strV p.th).length = p.th.length := List.length_map _
    have few : p.f.length + p.g.length ≤ 6 := ok.few
    have lth : p.th.length = p.f.length + p.g.length := List.length_append
    refine ⟨_, rfl, (k : Int), 0, 1, rfl, by omega, by omega, ?_⟩
    refine ⟨_, rfl, _, rfl, a, CP, dx, _, _, rfl, ha, TP.cl, TP.nK, pf_K _ _ _ _, ka, kdx, _, rfl, hka, _, p.t, x, rfl, hk, _, rfl, ?_⟩
    refine ⟨_, rfl, ?_⟩
    refine ifF (by rw [decide_eq_true hx]; rfl) ?_
    dsimp only [tNext]
    dsimp only [tSeq]
    refine ⟨_, rfl, a, CP, dx, _, _, rfl, ha, TP.cl, TP.nH, pf_H _ _ _ _, th, _, rfl, .inr (SqT.of hth), rfl, _, rfl, ?_⟩
    by_cases six : p.th.length = 6
    · refine ifT (decide_eq_true (by rw [lt, six]; rfl)) ?_
      exact ⟨_, rfl, fun d' hd' => qb six _ d' (Same.refl _) hd'⟩
    · refine ifF (decide_eq_false fun z => six (by have := V.int.inj z; omega)) ?_
      dsimp only [tNext]
      dsimp only [tRet, tMeth]
      refine ⟨_, rfl, a, dx, _, rfl, ha, pf_no _ _ _ _, _, rfl, ?_⟩
      refine ev_fT (p := p) (k := k) TP rfl hp (fun _ _ => ev_is rfl rfl) k2 _ fun u H1 e1 hu => ?_
      obtain ⟨pt, rfl, hpt⟩ := id hu
      have lk : (strV (p.team k)).length = (p.team k).length := List.length_map _
      have tk : (p.team k).length ≤ 6 := by
        unfold Pl.team
        split <;> omega
      refine ⟨pt, _, rfl, .inl (.inl hpt), _, rfl, ?_, fun d hd => ?_⟩
      · show (strV (p.team k) ++ [V.str x]).length ≤ sizeLine
        rw [List.length_append, lk]
        exact Nat.le_trans (show (p.team k).length + 1 ≤ 7 by omega) (by decide)
      · have ed := same_new (o := .tup (strV (p.team k) ++ [V.str x])) hd
        refine ⟨.ref a, .ref d, p, k, p.team k ++ [x], rfl, k2, hp.keep (e1.trans ed), ⟨d, rfl, ?_⟩, ok.more hx (by omega), fun z H' e' pv => qg (by omega) z H' (e1.trans (ed.trans e')) pv⟩
        rw [show strV (p.team k ++ [x]) = strV (p.team k) ++ [V.str x] from List.map_append]
        exact .inl upd_same
end
end Tm

/-! Plan.__eq__ decided; normal, is_normal; the parts of a plan compared. -/
namespace Tm
open PySem PySem.Spec PyProof.Rows L2 TmZ TmE TmD
local macro_rules | `(tactic| walk_at "x") => `(tactic| dsimp only [tNext, tRet, tSeq, tCall, tCB, tC, tCons, tNil, tAsg, tDrop, sFld])
theorem OkM.call0 {X : Cx} {m : Str} {k j : Nat} {C : Addr} {ps : List Str} {sp : Sp} {o : Expr} {ta : TE} {apos pos : Pos} {pl : Sem Bool} (O : OkM X.prog X.w X.K X.mg X.base C m k ps sp) (hr : Room j X.A) (c : Cls X.K C) (hk : k ≤ j := by decide) (he : PE X o ta)
    (ht : eval (.Call (.Attribute o m apos) [] [] pos) X.env = (do
      let v ← eval o X.env
      standAt apos.atName
      let (g, one) ← holding [v] (getMethod v m pl)
      callWith pos g one (backTo pos (starEach [] X.env)) (backToKw pos (keywordEach [] X.env))) := by rfl) :
    PE X (.Call (.Attribute o m apos) [] [] pos) (tMeth C m sp [] E0 ta tNil) := by
  obtain ⟨f, fd, h1, h2, h3⟩ := O.ex
  exact pe_meth0 he c h1 h2 (hr.mono hk) h3 .nil pass0 ht
theorem depth_strs : ∀ l : List Str, PyData.depthAll (l.map .str) = 0
  | [] => rfl
  | x :: r => by
    show max (PyData.depth (.str x)) (PyData.depthAll (r.map .str)) = 0
    rw [depth_strs r]
    rfl
theorem lay_team {l : List Str} (h : l.all PyData.strOk = true) : PyData.canLay0 (teamD l) = true := by
  have n := (nice_team h).shaped (by decide)
  unfold SeqAt.shaped at n
  simp only [Bool.and_eq_true] at n
  exact n.1
theorem depth_team (l : List Str) : PyData.depth (teamD l) = 1 := by
  show PyData.depthAll (l.map .str) + 1 = 1
  rw [depth_strs]
theorem shaped_pair {f g : List Str} (hf : f.all PyData.strOk = true) (hg : g.all PyData.strOk = true) : SeqAt.shaped (.tuple [teamD f, teamD g]) = true := by
  have h1 : PyData.canLay0 (.tuple [teamD f, teamD g]) = true := by
    show (PyData.canLay0 (teamD f) && (PyData.canLay0 (teamD g) && true)) = true
    rw [lay_team hf, lay_team hg]
    rfl
  have h2 : PyData.depth (.tuple [teamD f, teamD g]) ≤ 64 := by
    show max (PyData.depth (teamD f)) (max (PyData.depth (teamD g)) 0) + 1 ≤ 64
    rw [depth_team, depth_team]
    decide
  unfold SeqAt.shaped
  rw [h1, decide_eq_true h2]
  rfl
theorem shaped_pairL {f g : List Str} (hf : f.all PyData.strOk = true) (hg : g.all PyData.strOk = true) : SeqAt.shaped (.list [teamD f, teamD g]) = true := by
  have h1 : PyData.canLay0 (.list [teamD f, teamD g]) = true := by
    show (PyData.canLay0 (teamD f) && (PyData.canLay0 (teamD g) && true)) = true
    rw [lay_team hf, lay_team hg]
    rfl
  have h2 : PyData.depth (.list [teamD f, teamD g]) ≤ 64 := by
    show max (PyData.depth (teamD f)) (max (PyData.depth (teamD g)) 0) + 1 ≤ 64
    rw [depth_team, depth_team]
    decide
  unfold SeqAt.shaped
  rw [h1, decide_eq_true h2]
  rfl
theorem okTab_so {t : Tab} (h : okTab t = true) : (namesT t).all PyData.strOk = true := ok_strs fun x hx => by
  obtain ⟨e, he, rfl⟩ := List.mem_map.mp hx
  exact (ok_facts h).2.2.2.2 e he
theorem PlanV.so {C CP : Addr} {H : Hp} {v : V} {p : Pl} (h : PlanV C CP H v p) : p.f.all PyData.strOk = true ∧ p.g.all PyData.strOk = true := by
  obtain ⟨_, _, _, _, _, _, _, _, _, hk, _, _, _, _, ok⟩ := h
  obtain ⟨_, _, _, _, _, _, _, _, okt, _⟩ := hk
  exact p.soF (okTab_so okt) ok
/-! ### the parts of a plan: a list of its own -/
def PartsV (H : Hp) (v : V) (p : Pl) : Prop := ∃ (a d : Addr) (x y : V), v = .ref a ∧ H a = some (.lst [.ref d, .int (p.s : Int), x, y]) ∧ DictV H (.ref d) p.t ∧ TeamV H x p.f ∧ TeamV H y p.g ∧ p.Ok
theorem PartsV.so {H : Hp} {v : V} {p : Pl} (h : PartsV H v p) : p.f.all PyData.strOk = true ∧ p.g.all PyData.strOk = true := by
  obtain ⟨_, _, _, _, _, _, hd, _, _, ok⟩ := h
  exact p.soF (okTab_so hd.ok.1) ok
def Pl.eqv (p q : Pl) : Bool := sameT p.t q.t && (decide (p.s = q.s) && decide (p.f = q.f ∧ p.g = q.g))
theorem tab_det {H : Hp} : ∀ {kvs : List (Key × V)} {t u : Tab}, TabV H kvs t → TabV H kvs u → t = u
  | [], _, _, h, k => by
    cases h
    cases k
    rfl
  | e :: r, _, _, h, k => by
    cases h with
    | cons h1 h2 =>
      cases k with
      | cons k1 k2 =>
        rw [tab_det h2 k2]
        obtain ⟨n1, r1⟩ := h1
        obtain ⟨n2, r2⟩ := k1
        rw [n1] at n2
        exact congrArg (· :: _) (Prod.ext (Sum.inr.inj n2) (row_det r1 r2))
theorem hitsP {P : Program} {w : World} {A : Around} {s : Shared} {kb ka : List (Key × Value)} {b : Bool} (h : PySem.W.KeqHits A s kb ka b) : PySem.W.KeqHitsP P w A s kb ka b := by
  induction h with
  | nil => exact .nil
  | miss h => exact .miss h
  | hit h e _ ih => exact .hit h e.eqP ih
section
variable {X : Cx} {pins : List (Addr × Obj)} {σ : L2.St} {H : Hp} {s : Shared}
theorem dict_eqAt (I : Inv X pins σ H s) {A : Around} (hu : A.units + 66 < cLine) {a b : Addr} {t u : Tab} (hx : DictV H (.ref a) t) (hy : DictV H (.ref b) u) : SeqAt.EqP X.prog X.w A s (.ref a) (.ref b) (sameT t u) := by
  obtain ⟨_, ka, e1, ea, ht, _, _⟩ := hx
  obtain ⟨_, kb, e2, eb, hu', nd, _⟩ := hy
  cases e1
  cases e2
  by_cases g : a = b
  · subst g
    rw [ea] at eb
    cases eb
    rw [tab_det ht hu', same_self]
    exact (SeqAt.EqAt.same _).eqP
  · refine SeqAt.eqP_refs g fun E Q hq => ?_
    obtain ⟨_, ya, va, ra, da⟩ := (show ObjOk X.prog X.w H s.heap a (.dK ka) from I.hok a _ ea)
    obtain ⟨_, yb, vb, rb, db⟩ := (show ObjOk X.prog X.w H s.heap b (.dK kb) from I.hok b _ eb)
    have hl : va.length = t.length := by rw [← ra.length]; exact Paired.length ht
    have hl2 : vb.length = u.length := by rw [← rb.length]; exact Paired.length hu'
    refine PySem.W.rcP_dicts (knd := mixKind X.prog X.w) ya yb da db (by omega) (fun _ => hitsP (tab_hits I (A := A.in1) (by show A.units + 1 + 64 < _; omega) rb hu' nd ra ht)) E Q ?_
    have e : (va.length == vb.length && t.all fun e => decide (e ∈ u)) = sameT t u := by
      unfold sameT
      rw [hl, hl2, Bool.eq_iff_iff]
      simp
    rw [e]
    exact hq
theorem team_eqAt (I : Inv X pins σ H s) {A : Around} (hu : A.units + 64 < cLine) {x y : V} {f g : List Str} {v u : Value} (sf : f.all PyData.strOk = true) (sg : g.all PyData.strOk = true) (hx : TeamV H x f) (hy : TeamV H y g) (rx : RelV x v) (ry : RelV y u) : SeqAt.EqP X.prog X.w A s v u (decide (f = g)) := by
  obtain ⟨as, r1⟩ := Dp.reads I (teamD f) x v hx.dp rx
  obtain ⟨bs, r2⟩ := Dp.reads I (teamD g) y u hy.dp ry
  rw [← eqv_team]
  exact (SeqAt.eqAt_reads _ _ _ _ _ _ _ _ r1 r2 (lay_team sf) (lay_team sg) (by rw [depth_team, depth_team]; omega)).eqP
/-- two lists of parts compared -/
def rPartsEq : R2 := fun x y H Q => ∃ p q, PartsV H x p ∧ PartsV H y q ∧ Q (.bl (p.eqv q)) H
theorem op_eqParts (hu : X.A.units + 70 < cLine) : OpR X (compareOp .Eq) rPartsEq := by
  intro pins s σ H x y v u Q I rx ry h
  obtain ⟨p, q, hp, hq, qq⟩ := h
  have so1 := hp.so
  have so2 := hq.so
  obtain ⟨a, d1, x1, y1, rfl, ha, hd1, hf1, hg1, _⟩ := hp
  obtain ⟨b, d2, x2, y2, rfl, hb, hd2, hf2, hg2, _⟩ := hq
  cases rx
  cases ry
  obtain ⟨us, r1, p1, _⟩ := I.list (SqL.of ha)
  obtain ⟨ws, r2, p2, _⟩ := I.list (SqL.of hb)
  obtain ⟨a1, a2, a3, a4, rfl, b1, b2, b3, b4⟩ : ∃ a1 a2 a3 a4, us = [a1, a2, a3, a4] ∧ RelV (.ref d1) a1 ∧ RelV (.int (p.s : Int)) a2 ∧ RelV x1 a3 ∧ RelV y1 a4 := by
    cases r1 with
    | cons h1 r1 => cases r1 with
      | cons h2 r1 => cases r1 with
        | cons h3 r1 => cases r1 with
          | cons h4 r1 =>
            cases r1
            exact ⟨_, _, _, _, rfl, h1, h2, h3, h4⟩
  obtain ⟨c1, c2, c3, c4, rfl, e1, e2, e3, e4⟩ : ∃ a1 a2 a3 a4, ws = [a1, a2, a3, a4] ∧ RelV (.ref d2) a1 ∧ RelV (.int (q.s : Int)) a2 ∧ RelV x2 a3 ∧ RelV y2 a4 := by
    cases r2 with
    | cons h1 r1 => cases r1 with
      | cons h2 r1 => cases r1 with
        | cons h3 r1 => cases r1 with
          | cons h4 r1 =>
            cases r1
            exact ⟨_, _, _, _, rfl, h1, h2, h3, h4⟩
  have u1 : X.A.in1.units + 66 < cLine := by
    show X.A.units + 1 + 66 < _
    omega
  refine SeqAt.rcP_lists (e := fun j => match j with | 0 => sameT p.t q.t | 1 => decide (p.s = q.s) | 2 => decide (p.f = q.f) | _ => decide (p.g = q.g)) p1.isList p2.isList rfl (by omega) (fun j h1 h2 => ?_) _ _ ?_
  · match j, h1, h2 with
    | 0, _, _ =>
      cases (show a1 = Value.ref d1 from b1)
      cases (show c1 = Value.ref d2 from e1)
      exact dict_eqAt I u1 hd1 hd2
    | 1, _, _ =>
      obtain ⟨t1, rfl⟩ := (show ∃ t, a2 = Value.int (p.s : Int) t from b2)
      obtain ⟨t2, rfl⟩ := (show ∃ t, c2 = Value.int (q.s : Int) t from e2)
      show SeqAt.EqP X.prog X.w X.A.in1 s (.int (p.s : Int) t1) (.int (q.s : Int) t2) (decide (p.s = q.s))
      have e : decide (p.s = q.s) = ((p.s : Int) == (q.s : Int)) := by
        by_cases c : p.s = q.s
        · rw [c, decide_eq_true rfl]
          exact (beq_self_eq_true _).symm
        · rw [decide_eq_false c]
          exact (beq_eq_false_iff_ne.mpr fun z => c (Int.ofNat.inj z)).symm
      rw [e]
      exact (SeqAt.EqAt.int_int _ _ _ _).eqP
    | 2, _, _ => exact team_eqAt I (by omega) so1.1 so2.1 hf1 hf2 b3 e3
    | 3, _, _ => exact team_eqAt I (by omega) so1.2 so2.2 hg1 hg2 b4 e4
    | j + 4, h1, _ => exact absurd h1 (by show ¬ j + 4 < 4; omega)
  · refine ⟨.bl (p.eqv q), H, I, ?_, qq⟩
    show RelV (.bl (p.eqv q)) (.bool (sameT p.t q.t && (decide (p.s = q.s) && (decide (p.f = q.f) && (decide (p.g = q.g) && true)))))
    have e : (sameT p.t q.t && (decide (p.s = q.s) && (decide (p.f = q.f) && (decide (p.g = q.g) && true)))) = p.eqv q := by
      unfold Pl.eqv
      rw [Bool.and_true]
      congr 2
      rw [Bool.eq_iff_iff]
      simp
    rw [e]
    exact rfl
end
section
variable {P : Program} {w : World} {K : PySem.W.Frag} {mg : Str → Option Value} {base : Heap} {C CP : Addr}
def sp_peqG (C CP : Addr) : Sp := fun vs H Q _ => ∃ (v u : V) (p r : Pl), vs = [v, u] ∧ PlanV C CP H v p ∧ PlanV C CP H u r ∧ Q (.bl (p.eqv r)) H
theorem ok_peqG (B : Bt mg) (TP : Kp K CP) (TE : KcE K CP) (gP : mg "Plan" = some (.ref CP)) (OS_eq : OkS P w K mg base C "__eq__" 1 ["self", "other"] (sp_keq C)) (D : DfS K CP "__eq__" "Plan.__eq__" s_peq ["self", "other"]) : OkS P w K mg base CP "__eq__" 2 ["self", "other"] (sp_peqG C CP) := by
  refine D.ok sc_peq (fun vs H Q E h => ?_) (fun f cdv A outer s H vs Q E hr h => ?_)
  · obtain ⟨v, u, p, r, rfl, _⟩ := h
    rfl
  · obtain ⟨v, u, p, r, rfl, hvp, hur, q⟩ := h
    have so1 := hvp.so
    have so2 := hur.so
    obtain ⟨a, dx, k, tm, p1, p2, th, rfl, ha, hk, htm, h1, h2, hth, ok⟩ := hvp
    obtain ⟨b, dy, k', tm', p1', p2', th', rfl, hb, hk', htm', h1', h2', hth', _⟩ := hur
    have hu64 : (A.deeper (envOfC "Plan.__eq__" (defScope s_peq) s.heap.objs.size f cdv)).units + 64 < cLine := by
      have := hr.un
      omega
    refine ⟨_, pss_cons (ps_if (pt_not (pt_val (pe_callB (isiK (K := K)) (by rfl) B.isinstance (by decide +kernel) (pa_cons (pv 1) (pa_cons (pe_glob (v := .ref CP) (by rfl) gP rfl) (pa_nil))))))
        (pss_one (ps_ret (pe_bl)))
        (pss_nil))
      (pss_one (ps_ret (pe_and (pe_cmpR (op_eqO OS_eq (hr.mono (by decide))) (pe_fld (pv 0) rfl) (pe_fld (pv 1) rfl) (nomark _)) (pe_and (pe_cmpR op_eq (pe_fld (pv 0) rfl) (pe_fld (pv 1) rfl) (nomark _)) (pe_one (pe_cmpR (op_eqD hu64) (pe_fld (pv 0) rfl) (pe_fld (pv 1) rfl) (nomark _))))))), ?_⟩
    refine ⟨_, rfl, _, .ref CP, _, _, true, rfl, .own CP, .base (.ins hb TP.cl TE.cla TE.cg TE.ct TE.mr), TE.is_, _, rfl, ?_⟩
    refine ifF rfl ?_
    try dsimp only [tNext]
    obtain ⟨ka, kdx, _, _, rfl, hka, _⟩ := id hk
    obtain ⟨kb, kdy, _, _, rfl, hkb, _⟩ := id hk'
    refine ⟨_, rfl, a, CP, dx, _, _, rfl, ha, TP.cl, TP.nK, pf_K _ _ _ _, _, rfl, b, CP, dy, _, _, rfl, hb, TP.cl, TP.nK, pf_K _ _ _ _, ?_⟩
    refine ⟨ka, kb, kdx, kdy, _, _, rfl, rfl, hka, hkb, _, _, _, _, rfl, hk, hk', _, rfl, _, rfl, ?_⟩
    unfold Pl.eqv at q
    cases c1 : sameT p.t r.t with
    | false =>
      rw [c1] at q
      exact ifF rfl q
    | true =>
      rw [c1, Bool.true_and] at q
      refine ifT rfl ?_
      refine ⟨_, rfl, a, CP, dx, _, _, rfl, ha, TP.cl, TP.nS, pf_S _ _ _ _, _, rfl, b, CP, dy, _, _, rfl, hb, TP.cl, TP.nS, pf_S _ _ _ _, rfl, _, rfl, ?_⟩
      by_cases c2 : p.s = r.s
      · rw [decide_eq_true c2, Bool.true_and] at q
        refine ifT (decide_eq_true (by rw [c2])) ?_
        refine ⟨_, rfl, a, CP, dx, _, _, rfl, ha, TP.cl, TP.nM, pf_M _ _ _ _, _, rfl, b, CP, dy, _, _, rfl, hb, TP.cl, TP.nM, pf_M _ _ _ _, ?_⟩
        refine ⟨.tuple [teamD p.f, teamD p.g], .tuple [teamD r.f, teamD r.g], .tup (SqT.of htm) (.cons h1.dp (.cons h2.dp .nil)), .tup (SqT.of htm') (.cons h1'.dp (.cons h2'.dp .nil)), shaped_pair so1.1 so1.2, shaped_pair so2.1 so2.2, ?_⟩
        rw [eqv_pair]
        exact q
      · rw [decide_eq_false c2, Bool.false_and] at q
        refine ifF (decide_eq_false fun z => c2 (Int.ofNat.inj (V.int.inj z))) ?_
        exact q
/-! ### normal -/
theorem merge_two {α : Type} (le : α → α → Bool) (a b : α) : [a, b].mergeSort le = if le a b = true then [a, b] else [b, a] := by
  unfold List.mergeSort
  simp [List.MergeSort.Internal.splitInTwo, List.merge]
theorem le_encT {v1 v2 : V} (a b : List Str) : PySem.W.dataLe false (fun e : V × PyData => e.2) (v1, encT a) (v2, encT b) = !(ltT b a) := by
  rfl
theorem alike_strs : ∀ a b : List Str, PySem.W.alikeAll (a.map .str) (b.map .str) = true
  | [], _ => by cases ‹List Str› <;> rfl
  | _ :: _, [] => rfl
  | _ :: a, _ :: b => alike_strs a b
theorem depth_encT (a : List Str) : PyData.depth (encT a) ≤ 32 := by
  show max (PyData.depth (.int _)) (max (PyData.depth (teamD a)) 0) + 1 ≤ 32
  rw [depth_team]
  show max 0 (max 1 0) + 1 ≤ 32
  decide
theorem alike_encT (a b : List Str) : PySem.W.alike (encT a) (encT b) = true := by
  show (true && (PySem.W.alikeAll (a.map .str) (b.map .str) && true)) = true
  rw [alike_strs]
  rfl
def teamR (H : Hp) (l : List Str) (v : V) : Prop := ∃ r t, v = .ref r ∧ H r = some (.tup [.int (l.length : Int), .ref t]) ∧ H t = some (.tup (strV (srtS l)))
theorem teamR.mono {H H' : Hp} {l : List Str} {v : V} (e : TupS H H') (h : teamR H l v) : teamR H' l v := by
  obtain ⟨r, t, e1, e2, e3⟩ := h
  exact ⟨r, t, e1, e _ _ e2, e _ _ e3⟩
theorem teamR.dp {H : Hp} {l : List Str} {v : V} (h : teamR H l v) : Dp K H v (encT (srtS l)) := by
  obtain ⟨r, t, rfl, e2, e3⟩ := h
  refine .tup (SqT.of e2) (.cons ?_ (.cons (.tup (SqT.of e3) (dp_strs _)) .nil))
  rw [← srt_len l]
  exact .int _
/-- (len(team), tuple(sorted(team))) -/
theorem ev_teamR {σ : L2.St} {H : Hp} {te : TE} {l : List Str} (h : ∀ H1, Same H H1 → Ev te σ H1 fun v H2 => TeamV H2 v l) (few : l.length ≤ 60) :
    Ev (tTup (tCons (tCB (fun xs H Q => ∃ p ys, xs = [V.ref p] ∧ (SqL K H p ys ∨ SqT K H p ys) ∧ Q (V.int ys.length) H) (tCons te tNil)) (tCons (tCB (fun xs H Q => ∃ p ys, xs = [V.ref p] ∧ ((SqL K H p ys ∧ ∀ (l : Addr), H l = none → Q (V.ref l) (upd H l (HO.tup ys))) ∨ SqT K H p ys ∧ Q (V.ref p) H)) (tCons (tCB (rSortTS K) (tCons te tNil)) tNil)) tNil))) σ H fun v H1 => teamR H1 l v := fun Q q =>
  h H (Same.refl _) _ fun v H1 e1 hv => by
    obtain ⟨r, rfl, hr⟩ := hv
    refine ⟨r, _, rfl, .inr (.inl hr), h H1 e1 _ fun v2 H2 e2 hv2 => ?_⟩
    obtain ⟨r2, rfl, hr2⟩ := hv2
    refine ⟨r2, l, rfl, .inl hr2, by omega, fun a ha => ?_⟩
    have e3 := same_new (o := .lst (strV (srtS l))) ha
    refine ⟨a, _, rfl, .inl ⟨SqL.of upd_same, fun b hb => ⟨by show 2 ≤ sizeLine; decide, fun c hc => ?_⟩⟩⟩
    have e4 := same_new (o := .tup (strV (srtS l))) hb
    have e5 := same_new (o := .tup [.int ((strV l).length : Int), .ref b]) hc
    refine q _ _ (e1.trans (e2.trans (e3.trans (e4.trans e5)))) ⟨c, b, rfl, ?_, e5 _ _ upd_same⟩
    have lt : (strV l).length = l.length := List.length_map _
    rw [← lt]
    exact upd_same
theorem ok_normal (B : Bt mg) (TP : Kp K CP) (OC_Plan : OkC P w K mg base "Plan" CP 4 ["self", "kind", "start", "first", "second"] (sp_pinit C CP)) (D : DfM K CP "normal" "Plan.normal" s_normal ["self"]) : OkM P w K mg base CP "normal" 6 ["self"] (fun vs H Q _ => ∃ (v : V) (p : Pl), vs = [v] ∧ PlanV C CP H v p ∧ ∀ z H', Same H H' → PlanV C CP H' z p.nrm → Q z H') := by
  refine D.ok sc_normal (fun vs H Q E h => ?_) (fun f cdv A outer s H vs Q E hr h => ?_)
  · obtain ⟨v, p, rfl, _⟩ := h
    rfl
  · obtain ⟨v, p, rfl, hp, q⟩ := h
    have hu64 : (A.deeper (envOfC "Plan.normal" (defScope s_normal) s.heap.objs.size f cdv)).units + 64 < cLine := by
      have := hr.un
      omega
    refine ⟨_, pss_cons (ps_asg (pe_callB (cr_sortDt (K := K) hu64) (by rfl) B.sorted (by decide +kernel) (pa_cons (pe_lc (own := [("team", 3)]) (g := gName 3) (tt := tYes) rfl sc_normal.nd (piT (K := K) (pe_fld (pv 0) rfl)) (blkOk_by (own := [("team", 3)]) (N := ["self", "low", "high", "team"]) (sc := defScope s_normal) (by decide +kernel)) (fun _ _ _ _ _ => pg_name (i := 3) sc_normal.nd rfl (.inl rfl)) (fun _ _ _ _ _ => pts_nil) (fun _ _ _ _ _ => pe_tup (pa_cons (pe_callB (lenK (K := K)) (by rfl) B.len (by decide +kernel) (pa_cons (pv 3) (pa_nil))) (pa_cons (pe_callTy (tupleK (K := K)) (by rfl) B.tuple (by decide +kernel) (pa_cons (pe_callB (cr_sortTS (K := K)) (by rfl) B.sorted (by decide +kernel) (pa_cons (pv 3) (pa_nil))) (pa_nil))) (pa_nil))))) (pa_nil))) (pg_unl (by rfl) (pgs_cons (pg_name (i := 1) sc_normal.nd rfl (.inl rfl)) (pgs_cons (pg_name (i := 2) sc_normal.nd rfl (.inl rfl)) (pgs_nil)))))
      (pss_one (ps_ret (OC_Plan.make hr (ha := pa_cons (pe_fld (pv 0) rfl) (pa_cons (pe_fld (pv 0) rfl) (pa_cons (pe_ix (ixTK (K := K)) (pv 1) (pe_int) (fun _ _ => rfl)) (pa_cons (pe_ix (ixTK (K := K)) (pv 2) (pe_int) (fun _ _ => rfl)) (pa_nil)))))))), ?_⟩
    obtain ⟨a, dx, k, tm, p1, p2, th, rfl, ha, hk, htm, h1, h2, hth, ok⟩ := id hp
    have few : p.f.length + p.g.length ≤ 6 := ok.few
    dsimp only [tSeq, tAsg, tCB, tCons]
    refine lc_runT (K := K) (xs := [p1, p2]) (fun Q q => ⟨_, rfl, a, CP, dx, _, _, rfl, ha, TP.cl, TP.nM, pf_M _ _ _ _, q _ _ (Same.refl _) ⟨tm, rfl, SqT.of htm⟩⟩) [p.f, p.g] rfl (fun _ => true) (fun l v H => teamR H l v) (by show 2 ≤ 100000; decide) (by intro _; rfl) (fun _ _ _ _ e h => h.mono e)
      (fun i l x H2 hi hx e2 => ⟨evt_yes, fun _ H3 e3 Q q => ?_⟩) (fun fp H2 ys hfp e2 hys hP => ?_)
    · have e13 := e2.trans e3
      obtain ⟨⟨r, rfl, hr0⟩, l6⟩ : TeamV H3 x l ∧ l.length ≤ 6 := by
        match i, hi, hx with
        | 0, hi, hx =>
          cases hi
          cases hx
          exact ⟨h1.keep e13, by omega⟩
        | 1, hi, hx =>
          cases hi
          cases hx
          exact ⟨h2.keep e13, by omega⟩
        | i + 2, hi, _ => nomatch hi
      exact ev_teamR (K := K) (fun H4 e4 => ev_is rfl ((show TeamV H3 (.ref r) l from ⟨r, rfl, hr0⟩).keep e4)) (by omega) Q q
    · rw [filter_all] at hP
      obtain ⟨y1, y2, rfl, hy1, hy2⟩ : ∃ y1 y2, ys = [y1, y2] ∧ teamR H2 p.f y1 ∧ teamR H2 p.g y2 := by
        cases hP with
        | cons h t =>
          cases t with
          | cons h' t =>
            cases t
            exact ⟨_, _, rfl, h, h'⟩
      refine ⟨fp, [(y1, encT (srtS p.f)), (y2, encT (srtS p.g))], rfl, SqL.of hys, ?_, ?_, ?_, ?_, fun b hb => ?_⟩
      · intro b hb
        simp only [List.mem_cons, List.not_mem_nil, or_false] at hb
        rcases hb with rfl | rfl
        · exact hy1.dp
        · exact hy2.dp
      · intro d hd d' hd'
        simp only [List.map_cons, List.map_nil, List.mem_cons, List.not_mem_nil, or_false] at hd hd'
        rcases hd with rfl | rfl <;> rcases hd' with rfl | rfl <;> exact alike_encT _ _
      · refine .inl fun d hd => ?_
        simp only [List.map_cons, List.map_nil, List.mem_cons, List.not_mem_nil, or_false] at hd
        rcases hd with rfl | rfl <;> exact ⟨_, _, rfl⟩
      · intro b hb
        simp only [List.mem_cons, List.not_mem_nil, or_false] at hb
        rcases hb with rfl | rfl <;> exact depth_encT _
      rw [merge_two, le_encT]
      have e2' := e2.trans (same_new (o := .lst (((if (!ltT (srtS p.g) (srtS p.f)) = true then [(y1, encT (srtS p.f)), (y2, encT (srtS p.g))] else [(y2, encT (srtS p.g)), (y1, encT (srtS p.f))]).map (·.1)))) hb)
      obtain ⟨z1, z2, ez, hz1, hz2⟩ : ∃ z1 z2, ((if (!ltT (srtS p.g) (srtS p.f)) = true then [(y1, encT (srtS p.f)), (y2, encT (srtS p.g))] else [(y2, encT (srtS p.g)), (y1, encT (srtS p.f))]).map (·.1)) = [z1, z2] ∧ (∃ r t, z1 = .ref r ∧ H2 r = some (.tup [.int ((p.nrm.f).length : Int), .ref t]) ∧ H2 t = some (.tup (strV p.nrm.f))) ∧ (∃ r t, z2 = .ref r ∧ H2 r = some (.tup [.int ((p.nrm.g).length : Int), .ref t]) ∧ H2 t = some (.tup (strV p.nrm.g))) := by
        unfold Pl.nrm nrmF nrmG
        cases c : ltT (srtS p.g) (srtS p.f) with
        | true =>
          refine ⟨y2, y1, rfl, ?_, ?_⟩
          · obtain ⟨r, t, h1, h2, h3⟩ := hy2
            exact ⟨r, t, h1, by dsimp only; rw [if_pos rfl, srt_len]; exact h2, by dsimp only; rw [if_pos rfl]; exact h3⟩
          · obtain ⟨r, t, h1, h2, h3⟩ := hy1
            exact ⟨r, t, h1, by dsimp only; rw [if_pos rfl, srt_len]; exact h2, by dsimp only; rw [if_pos rfl]; exact h3⟩
        | false =>
          refine ⟨y1, y2, rfl, ?_, ?_⟩
          · obtain ⟨r, t, h1, h2, h3⟩ := hy1
            exact ⟨r, t, h1, by dsimp only; rw [if_neg (by decide), srt_len]; exact h2, by dsimp only; rw [if_neg (by decide)]; exact h3⟩
          · obtain ⟨r, t, h1, h2, h3⟩ := hy2
            exact ⟨r, t, h1, by dsimp only; rw [if_neg (by decide), srt_len]; exact h2, by dsimp only; rw [if_neg (by decide)]; exact h3⟩
      rw [ez] at e2' ⊢
      have eb := same_new (o := .lst [z1, z2]) hb
      obtain ⟨r1, t1, rfl, hr1, ht1⟩ := hz1
      obtain ⟨r2, t2, rfl, hr2, ht2⟩ := hz2
      have e12 := e2.trans eb
      refine ⟨b, _, rfl, SqL.of upd_same, rfl, _, _, rfl, ?_⟩
      dsimp only [gName]
      refine ⟨_, _, rfl, ?_⟩
      dsimp only [gName]
      refine ⟨rfl, ?_⟩
      try dsimp only [tRet]
      refine ev_plan (C := C) (p := p.nrm) (Ev.imp (ev_fK (p := p) TP rfl (hp.keep e12)) fun _ _ _ h => h) (fun H3 e3 => ev_fS (p := p) TP rfl (hp.keep (e12.trans e3))) (fun H3 e3 Q q => ?_) (fun H3 e3 Q q => ?_) ok.nrm _ fun z H' e' pv => q z H' (e12.trans e') pv
      · have e4 := eb.trans e3
        exact ⟨_, rfl, r1, _, 1, _, rfl, rfl, SqT.of (e4 _ _ hr1), atI_nat (j := 1) rfl, q _ _ (Same.refl _) ⟨t1, rfl, .inl (e4 _ _ ht1)⟩⟩
      · have e4 := eb.trans e3
        exact ⟨_, rfl, r2, _, 1, _, rfl, rfl, SqT.of (e4 _ _ hr2), atI_nat (j := 1) rfl, q _ _ (Same.refl _) ⟨t2, rfl, .inl (e4 _ _ ht2)⟩⟩
theorem ok_isnorm (B : Bt mg) (TP : Kp K CP) (OM_normal : OkM P w K mg base CP "normal" 6 ["self"] (fun vs H Q _ => ∃ (v : V) (p : Pl), vs = [v] ∧ PlanV C CP H v p ∧ ∀ z H', Same H H' → PlanV C CP H' z p.nrm → Q z H')) (OP_teams : OkP P w K mg base CP "teams" 1 (sp_pteams C CP)) (D : DfM K CP "is_normal" "Plan.is_normal" s_isnorm ["self"]) :
    OkM P w K mg base CP "is_normal" 7 ["self"] (fun vs H Q _ => ∃ (v : V) (p : Pl), vs = [v] ∧ PlanV C CP H v p ∧ ∀ H', Same H H' → Q (.bl (decide (p.f = p.nrm.f ∧ p.g = p.nrm.g))) H') := by
  refine D.ok sc_is_normal (fun vs H Q E h => ?_) (fun f cdv A outer s H vs Q E hr h => ?_)
  · obtain ⟨v, p, rfl, _⟩ := h
    rfl
  · obtain ⟨v, p, rfl, hp, q⟩ := h
    have hu64 : (A.deeper (envOfC "Plan.is_normal" (defScope s_isnorm) s.heap.objs.size f cdv)).units + 64 < cLine := by
      have := hr.un
      omega
    refine ⟨_, pss_one (ps_ret (pe_cmpR (op_eqD hu64) (pe_fld (pv 0) rfl) (OP_teams.get hr TP.cl (he := OM_normal.call0 hr TP.cl (he := pv 0))) (nomark _))), ?_⟩
    have so1 := hp.so
    obtain ⟨a, dx, k, tm, p1, p2, th, rfl, ha, hk, htm, h1, h2, hth, ok⟩ := id hp
    refine ⟨_, rfl, a, CP, dx, _, _, rfl, ha, TP.cl, TP.nM, pf_M _ _ _ _, _, rfl, a, dx, _, rfl, ha, pf_no _ _ _ _, .ref a, p, rfl, hp, fun z H' e pv => ?_⟩
    have so2 := pv.so
    obtain ⟨b, dy, k', tm', p1', p2', th', rfl, hb, hk', htm', h1', h2', hth', _⟩ := id pv
    refine ⟨b, dy, _, rfl, hb, .ref b, p.nrm, rfl, pv, fun tm2 x1 x2 hx1 hx2 hx3 => ?_⟩
    refine ⟨.tuple [teamD p.f, teamD p.g], .tuple [teamD p.nrm.f, teamD p.nrm.g], .tup (SqT.of (e _ _ htm)) (.cons (h1.keep e).dp (.cons (h2.keep e).dp .nil)), .tup (SqT.of hx1) (.cons hx2.dp (.cons hx3.dp .nil)), shaped_pair so1.1 so1.2, shaped_pair so2.1 so2.2, ?_⟩
    rw [eqv_pair]
    exact q _ e
end
end Tm

/-! _law_turned_table. -/
namespace Tm
open PySem PySem.Spec PyProof.Rows L2 TmZ TmE TmD
local macro_rules | `(tactic| walk_at "x") => `(tactic| dsimp only [tNext, tRet, tSeq, tCall, tCB, tC, tCons, tNil, tAsg, tDrop, sFld])
/-- the row behind j turns -/
def rowI (n : Nat) (ns : List Nat) (r : Row) (j : Nat) : Row := (List.range n).map fun i => if ixN ns i < j then (((ns.getD ((pickR r (ixN ns i)).1.toNat) 0 : Nat) : Int), (pickR r (ixN ns i)).2) else pickR r i
theorem rowI_set {n : Nat} {ns : List Nat} {r : Row} {j : Nat} (h : AllN n ns) (hj : j < n) : (rowI n ns r j).set (ns.getD j 0) (((ns.getD ((pickR r j).1.toNat) 0 : Nat) : Int), (pickR r j).2) = rowI n ns r (j + 1) := by
  have hlt := (h.at_ hj).2
  refine List.ext_getElem? fun i => ?_
  unfold rowI
  by_cases hi : i < n
  · by_cases e : ns.getD j 0 = i
    · subst e
      rw [List.getElem?_set_self (by rw [List.length_map, List.length_range]; exact hlt), List.getElem?_map, List.getElem?_range hlt]
      show _ = some _
      dsimp only
      rw [(h.at_ hj).1, if_pos (Nat.lt_succ_self j)]
    · rw [List.getElem?_set_ne e, List.getElem?_map, List.getElem?_map, List.getElem?_range hi]
      have ne : ixN ns i ≠ j := fun z => e (by rw [← z]; exact (h.ix hi).1)
      show some _ = some _
      dsimp only
      by_cases l : ixN ns i < j
      · rw [if_pos l, if_pos (Nat.lt_succ_of_lt l)]
      · rw [if_neg l, if_neg (by omega)]
  · rw [List.getElem?_eq_none (by rw [List.length_set, List.length_map, List.length_range]; omega), List.getElem?_eq_none (by rw [List.length_map, List.length_range]; omega)]
theorem rowI_len {n : Nat} {ns : List Nat} {r : Row} {j : Nat} : (rowI n ns r j).length = n := by
  unfold rowI
  rw [List.length_map, List.length_range]
theorem rowI_none {n : Nat} {ns : List Nat} {r : Row} (h : r.length = n) : rowI n ns r 0 = r := by
  refine row_ext (by rw [rowI_len, h]) fun i hi => ?_
  rw [rowI_len] at hi
  show (rowI n ns r 0).getD i (0, 0) = _
  unfold rowI
  rw [List.getD_eq_getElem?_getD, List.getElem?_map, List.getElem?_range hi]
  rfl
theorem rowI_all {n : Nat} {ns : List Nat} {r : Row} (h : AllN n ns) (f : FineRow n r) : rowI n ns r n = overR (backN n ns) (gOfN ns) r := by
  rw [← row_all h f]
  unfold rowI rowJ
  refine List.map_congr_left fun i hi => ?_
  rw [if_pos (h.ix (List.mem_range.mp hi)).2, if_pos (h.ix (List.mem_range.mp hi)).2]
section
variable {P : Program} {w : World} {K : PySem.W.Frag} {mg : Str → Option Value} {base : Heap} {C CP : Addr}
abbrev s_ttab : Stmt := top 39
abbrev NT : List Str := ["_law_table", "_law_change", "_law_numbers", "_law_found", "_law_name", "_law_row", "_law_state", "_law_later", "_law_answer"]
theorem sc_law_turned_table : FnScope NT ["_law_table", "_law_change", "_law_numbers"] (defScope s_ttab) := ⟨rfl, rfl, rfl, by decide +kernel, rfl, by decide +kernel, by decide +kernel⟩
/-- the new table -/
def newT (t : Tab) (cs : Nms) (ns : List Nat) : Tab := renT cs (overT (backN (sizeT t) ns) (gOfN ns) t)
theorem newT_at {t : Tab} {cs : Nms} {ns : List Nat} {i : Nat} {x : Str} {r : Row} (h : t[i]? = some (x, r)) : (newT t cs ns)[i]? = some (ren cs x, overR (backN (sizeT t) ns) (gOfN ns) r) := by
  unfold newT renT overT
  rw [List.getElem?_map, List.getElem?_map, h]
  rfl
theorem newT_names (t : Tab) (cs : Nms) (ns : List Nat) : namesT (newT t cs ns) = (namesT t).map (ren cs) := by
  unfold newT
  rw [ren_names, over_names]
theorem newT_len (t : Tab) (cs : Nms) (ns : List Nat) : (newT t cs ns).length = t.length := by
  unfold newT renT overT
  rw [List.length_map, List.length_map]
def sp_ttab : Sp := fun vs H Q _ => ∃ (d c pn : Addr) (t : Tab) (cs : Nms) (ns : List Nat), vs = [.ref d, .ref c, .ref pn] ∧ DictV H (.ref d) t ∧ NmV H c cs ∧ c ≠ d ∧ Rd H pn (.tup (natV ns)) ∧ AllN (sizeT t) ns ∧ okTab (newT t cs ns) = true ∧ ((namesT t).map (ren cs)).Nodup ∧
  ∀ d2 H', Same H H' → H d2 = none → DictV H' (.ref d2) (newT t cs ns) → Q (.ref d2) H'
theorem ok_ttab (B : Bt mg) (D : Df K mg "_law_turned_table" s_ttab ["_law_table", "_law_change", "_law_numbers"]) : Ok P w K mg base "_law_turned_table" 1 ["_law_table", "_law_change", "_law_numbers"] sp_ttab := by
  refine D.ok sc_law_turned_table (fun vs H Q E h => ?_) (fun f cdv A outer s H vs Q E hr h => ?_)
  · obtain ⟨d, c, pn, t, cs, ns, rfl, _⟩ := h
    rfl
  · obtain ⟨d, c, pn, t, cs, ns, rfl, hd, hc, ncd, hn, an, okn, ndn, q⟩ := h
    have hu := hu_of hr
    refine ⟨_, pss_cons (ps_set (i := 3) sc_law_turned_table.nd rfl (.inl rfl) (pe_dnewK))
      (pss_cons (ps_lock (ps_for PassesOwn.never rfl (pi_keys (pv 0)) (pg_name (i := 4) sc_law_turned_table.nd rfl (.inl rfl))
        (pss_cons (ps_set (i := 5) sc_law_turned_table.nd rfl (.inl rfl) (pe_callTy call_list_of (by rfl) B.list (by decide +kernel) (pa_cons (pe_dget hu (pv 0) (pv 4) (fun _ _ => rfl)) (pa_nil))))
      (pss_cons (ps_for PassesOwn.never rfl (pi_range1 (by rfl) B.range (pa_cons (pe_callB (lenK (K := K)) (by rfl) B.len (by decide +kernel) (pa_cons (pv 5) (pa_nil))) (pa_nil))) (pg_name (i := 6) sc_law_turned_table.nd rfl (.inl rfl))
        (pss_cons (ps_asg (pe_ix (ixTK (K := K)) (pe_dget hu (pv 0) (pv 4) (fun _ _ => rfl)) (pv 6) (fun _ _ => rfl)) (pg_tup (by rfl) (pgs_cons (pg_name (i := 7) sc_law_turned_table.nd rfl (.inl rfl)) (pgs_cons (pg_name (i := 8) sc_law_turned_table.nd rfl (.inl rfl)) (pgs_nil)))))
      (pss_one (ps_asg (pe_tup (pa_cons (pe_ix (ixTK (K := K)) (pv 2) (pv 7) (fun _ _ => rfl)) (pa_cons (pv 8) (pa_nil)))) (pg_sub (pv 5) (pe_ix (ixTK (K := K)) (pv 2) (pv 6) (fun _ _ => rfl)) L2.set_list)))))
      (pss_one (ps_dput hu (pv 3) (pe_dget2 hu (pv 1) (pv 4) (pv 4) ⟨rfl, rfl, rfl, rfl⟩) (pe_callTy (tupleK (K := K)) (by rfl) B.tuple (by decide +kernel) (pa_cons (pv 5) (pa_nil))) rfl))))))
      (pss_one (ps_ret (pv 3)))), ?_⟩
    obtain ⟨okt, ndt⟩ := hd.ok
    have ft := ok_facts okt
    obtain ⟨_, kv, ee, hd0, ht0, _, _⟩ := id hd
    cases ee
    have lk : kv.length = t.length := Paired.length ht0
    refine fun pd hpd => ?_
    have ndd : d ≠ pd := fun z => by rw [z, hpd] at hd0; cases hd0
    have e1 := same_new (o := .dK []) hpd
    have a1 : upd H pd (.dK []) pd = some (.dK []) := upd_same
    have d1 := e1 _ _ hd0
    dsimp only [gName]
    dsimp only [tSeq]
    refine ⟨d, .dK kv, d1, trivial, fun od => ?_⟩
    have hB : upd H d (.frz od (.dK kv)) d = some (.frz od (.dK kv)) := upd_same
    have bpd : upd H d (.frz od (.dK kv)) pd = none := by rw [upd_ne ndd.symm]; exact hpd
    have bt : TabV (upd H d (.frz od (.dK kv))) kv t := ht0.mono (lock_in hd0 fun xs z => by cases z)
    have bn : Rd (upd H d (.frz od (.dK kv))) pn (.tup (natV ns)) := by
      have ne : pn ≠ d := fun z => by
        rw [z] at hn
        rcases hn with h | ⟨o, h⟩
        · rw [hd0] at h
          cases h
        · rw [hd0] at h
          cases h
      exact hn.imp (fun h => by rw [upd_ne ne]; exact h) fun ⟨o, h⟩ => ⟨o, by rw [upd_ne ne]; exact h⟩
    have bc : NmV (upd H d (.frz od (.dK kv))) c cs := by
      obtain ⟨kvn, h1, h2⟩ := hc
      exact ⟨kvn, by rw [upd_ne ncd]; exact h1, h2⟩
    have out : ∀ {H'}, Same (upd H d (.frz od (.dK kv))) H' → Same H (upd H' d (.dK kv)) := fun e => lock_out hd0 e
    have eBL : Same (upd H d (.frz od (.dK kv))) (upd (upd H pd (.dK [])) d (.frz od (.dK kv))) := fun b o hb => by
      by_cases z : b = d
      · rw [z] at hb ⊢
        rw [hB] at hb
        rw [← hb]
        exact upd_same
      · rw [upd_ne z] at hb ⊢
        exact e1 _ _ hb
    have aL : upd (upd H pd (.dK [])) d (.frz od (.dK kv)) pd = some (.dK []) := by rw [upd_ne ndd.symm]; exact a1
    have dL : upd (upd H pd (.dK [])) d (.frz od (.dK kv)) d = some (.frz od (.dK kv)) := upd_same
    generalize upd (upd H pd (.dK [])) d (.frz od (.dK kv)) = HL at eBL aL dL
    generalize upd H d (.frz od (.dK kv)) = HB at hB bpd bt bn bc out eBL
    refine ⟨_, rfl, d, od, rfl, .inl ⟨kv, dL, ?_⟩⟩
    have ndW : (namesT (newT t cs ns)).Nodup := by rw [newT_names]; exact ndn
    have hc0 : H d ≠ none := by rw [hd0]; exact fun z => nomatch z
    refine for_walk walk_keys (fun i σ' H' => ∃ (o3 o4 o5 o6 o7 : Option V) (kvs : List (L2.Key × V)), σ' = [some (.ref d), some (.ref c), some (.ref pn), some (.ref pd), o3, o4, o5, o6, o7] ∧ Same HB H' ∧ H' pd = some (.dK kvs) ∧ TabV H' kvs ((newT t cs ns).take i))
      ⟨none, none, none, none, none, [], rfl, eBL, aL, .nil⟩ (fun i σ' H' _ pv => ?_) (fun i x σ' H' H'' hi pv y => ?_) (fun σ' H' pv => ?_)
    · obtain ⟨_, _, _, _, _, _, _, k, _⟩ := pv
      exact k _ _ hB
    · obtain ⟨o3, o4, o5, o6, o7, kvs, rfl, k, hpd', hT⟩ := pv
      obtain ⟨rfl, ky, vv, hk, rfl⟩ := y
      obtain ⟨⟨nm, r⟩, hti, hk1, hk2⟩ := paired_ix2 ht0 hk
      dsimp only at hk1 hk2
      subst hk1
      have hm : (nm, r) ∈ t := List.mem_of_getElem? hti
      have fr := fine_of okt hm
      dsimp only at fr
      show gName 4 (.str nm) _ _ _
      dsimp only [gName]
      try dsimp only [tSeq, tAsg]
      obtain ⟨rv, hrv, hrow⟩ := tab_look bt ndt hm
      obtain ⟨b, rs, rfl, hb, hrs⟩ := id hrow
      have lrs : rs.length = sizeT t := by rw [Paired.length hrs, fr.len]
      have hg0 : DGet H'' d (.str nm) (some (.ref b)) := .inl ⟨kv, Sum.inr nm, .inr ⟨od, k _ _ hB⟩, rfl, hrv.symm⟩
      refine ⟨_, rfl, _, rfl, d, .ref b, rfl, hg0, ?_⟩
      refine ⟨b, rs, rfl, .inr (SqT.of (k _ _ hb)), fun pr hpr => ?_⟩
      have e24 := same_new (o := .lst rs) hpr
      have a4 : upd H'' pr (.lst rs) pr = some (.lst rs) := upd_same
      have prs : Paired (PairV (upd H'' pr (.lst rs))) rs (rowI (sizeT t) ns r 0) := by
        rw [rowI_none fr.len]
        exact Paired.mapP hrs fun _ _ h => h.mono (tups_of (k.trans e24))
      have pr0 : H'' pr = none := hpr
      have prB : HB pr = none := k.free pr0
      have nprd : pr ≠ pd := fun z => by rw [z, hpd'] at pr0; cases pr0
      generalize upd H'' pr (.lst rs) = H5 at e24 a4 prs
      have k5 := k.trans e24
      have hg1 : DGet H5 d (.str nm) (some (.ref b)) := .inl ⟨kv, Sum.inr nm, .inr ⟨od, k5 _ _ hB⟩, rfl, hrv.symm⟩
      dsimp only [gName]
      dsimp only [tSeq]
      refine ⟨_, rfl, pr, rs, rfl, .inl (SqL.of a4), _, rfl, ?_⟩
      rw [lrs]
      refine ⟨by omega, by omega, ?_⟩
      refine for_range (lo := 0) (fun j σ2 H2 => ∃ (o6 o7 o8 : Option V) (vs : List V), σ2 = [some (.ref d), some (.ref c), some (.ref pn), some (.ref pd), some (.str nm), some (.ref pr), o6, o7, o8] ∧ Same HB H2 ∧ TupS H5 H2 ∧ H2 pd = some (.dK kvs) ∧ H2 pr = some (.lst vs) ∧ Paired (PairV H2) vs (rowI (sizeT t) ns r j))
        ⟨_, _, _, _, rfl, k5, TupS.refl _, e24 _ _ hpd', a4, prs⟩ (fun j σ2 H2 hj pv => ?_) (fun σ2 H2 pv => ?_)
      · obtain ⟨o6, o7, o8, vs, rfl, k2, tu2, hpd2, hvs, hP⟩ := pv
        rw [Int.toNat_natCast] at hj
        have hgj : DGet H2 d (.str nm) (some (.ref b)) := .inl ⟨kv, Sum.inr nm, .inr ⟨od, k2 _ _ hB⟩, rfl, hrv.symm⟩
        show gName 6 (.int ((0 : Int) + (j : Int))) _ _ _
        rw [Int.zero_add]
        dsimp only [gName]
        dsimp only [tSeq]
        obtain ⟨vj, hvj, hpj⟩ : ∃ v, rs[j]? = some v ∧ PairV HB v (pickR r j) := by
          have hr0 := pick_at (r := r) (s := j) (by rw [fr.len]; exact hj)
          have hl : j < rs.length := by rw [lrs]; exact hj
          refine ⟨rs[j], List.getElem?_eq_getElem hl, ?_⟩
          obtain ⟨z, hz1, hz2⟩ := paired_ix2 hrs (List.getElem?_eq_getElem hl)
          rw [hr0] at hz1
          cases hz1
          exact hz2
        obtain ⟨cq, rfl, hcq⟩ := hpj
        obtain ⟨cn, c1, c2, c3, c4⟩ := fr.fine j hj
        refine ⟨_, rfl, _, rfl, d, .ref b, rfl, hgj, _, rfl, b, rs, _, _, rfl, rfl, SqT.of (k2 _ _ hb), atI_nat hvj, ?_⟩
        rw [c1] at hcq
        refine ⟨cq, _, rfl, SqT.of (k2 _ _ hcq), rfl, ?_⟩
        refine ⟨_, _, rfl, ?_⟩
        dsimp only [gName]
        refine ⟨_, _, rfl, ?_⟩
        dsimp only [gName]
        refine ⟨rfl, ?_⟩
        have hnl : cn < ns.length := by rw [an.len]; exact c2
        have hjl : j < ns.length := by rw [an.len]; exact hj
        try dsimp only [tSeq]
        refine ⟨_, rfl, _, rfl, pn, natV ns, _, _, rfl, rfl, .inl (rd_keep k2 bn), atI_nat (natV_at hnl), _, rfl, by show 2 ≤ sizeLine; decide, fun pt hpt => ?_⟩
        have e67 := same_new (o := .tup [.int ((ns.getD cn 0 : Nat) : Int), .int (pickR r j).2]) hpt
        have hnew : PairV (upd H2 pt (.tup [.int ((ns.getD cn 0 : Nat) : Int), .int (pickR r j).2])) (.ref pt) (((ns.getD cn 0 : Nat) : Int), (pickR r j).2) := ⟨pt, rfl, upd_same⟩
        have k4 := k2.trans e67
        have hvs7 := e67 _ _ hvs
        have hpd7 := e67 _ _ hpd2
        have hP7 := Paired.mapP hP fun _ _ h => h.mono (tups_of e67)
        have tu7 := tu2.trans (tups_of e67)
        generalize upd H2 pt (.tup [.int ((ns.getD cn 0 : Nat) : Int), .int (pickR r j).2]) = H6 at e67 hnew k4 hvs7 hpd7 hP7 tu7
        have lvs : vs.length = sizeT t := by rw [Paired.length hP, rowI_len]
        refine ⟨_, rfl, _, rfl, _, rfl, pn, natV ns, _, _, rfl, rfl, .inl (rd_keep k4 bn), atI_nat (natV_at hjl), pr, vs, _, ns.getD j 0, rfl, rfl, hvs7, ?_, ?_⟩
        · have := (an.at_ hj).2
          unfold L2.ixN
          rw [if_pos (by omega), if_pos (by omega), Int.toNat_natCast]
        · have tu8 : TupS H6 (upd H6 pr (.lst (vs.set (ns.getD j 0) (.ref pt)))) := tups_upd hvs7 (fun xs z => by cases z)
          refine ⟨_, _, _, _, rfl, fun b' o hb' => ?_, tu7.trans tu8, by rw [upd_ne nprd.symm]; exact hpd7, upd_same, ?_⟩
          · rw [upd_ne (fun z => by rw [z, prB] at hb'; cases hb')]
            exact k4 _ _ hb'
          · have := paired_set (ns.getD j 0) hP7 hnew
            have er := rowI_set (r := r) an hj
            rw [c1, Int.toNat_natCast] at er
            rw [er] at this
            exact Paired.mapP this fun _ _ h => h.mono tu8
      · obtain ⟨o6, o7, o8, vs, rfl, k2, tu2, hpd2, hvs, hP⟩ := pv
        rw [Int.toNat_natCast, rowI_all an fr] at hP
        try dsimp only [tCB, tCons, tNil]
        refine ⟨_, rfl, pr, vs, rfl, .inl ⟨SqL.of hvs, fun pz hpz => ?_⟩⟩
        have e8 := same_new (o := .tup vs) hpz
        have hrow2 : RowV (upd H2 pz (.tup vs)) (.ref pz) (overR (backN (sizeT t) ns) (gOfN ns) r) := ⟨pz, vs, rfl, upd_same, Paired.mapP hP fun _ _ h => h.mono (tups_of e8)⟩
        have k8 := k2.trans e8
        have hpd8 := e8 _ _ hpd2
        have hT8 := hT.mono (((tups_of e24).trans tu2).trans (tups_of e8))
        generalize upd H2 pz (.tup vs) = H8 at hrow2 k8 hpd8 hT8
        have hWi := newT_at (cs := cs) (ns := ns) hti
        obtain ⟨kvs', g1, g2⟩ := tab_put hpd8 hT8 hWi hrow2 ndW (by omega)
        obtain ⟨kvn, hcn, hpn⟩ := bc
        refine ⟨_, rfl, _, rfl, c, rfl, .inl ⟨_, .inl (k8 _ _ hcn)⟩, _, rfl, _, rfl, _, DGet.k (k := Sum.inr nm) (k8 _ _ hcn), ?_⟩
        have ez : ((valV kvn (Sum.inr nm)).getD (.str nm)) = .str (ren cs nm) := by
          rw [look_nm _ hpn]
          unfold ren
          cases lookN cs nm <;> rfl
        rw [ez]
        refine ⟨pd, _, rfl, g1, ?_⟩
        refine ⟨_, _, _, _, _, kvs', rfl, fun b' o hb' => ?_, upd_same, g2⟩
        rw [upd_ne (fun z => by rw [z, bpd] at hb'; cases hb')]
        exact k8 _ _ hb'
    · obtain ⟨o3, o4, o5, o6, o7, kvs, rfl, k, hpd', hT⟩ := pv
      refine ⟨k _ _ hB, ?_⟩
      refine ⟨_, rfl, ?_⟩
      have k2 := out k
      have tu : ∀ {H' : Hp}, H' d = some (.frz od (.dK kv)) → TupS H' (upd H' d (.dK kv)) := fun {H'} hd' a xs h => by
        rw [upd_ne (fun z => by rw [z, hd'] at h; cases h)]
        exact h
      have hT2 := hT.mono (tu (k _ _ hB))
      rw [List.take_of_length_le (by rw [newT_len, lk]; exact Nat.le_refl _)] at hT2
      exact q pd _ k2 hpd ⟨pd, kvs, rfl, by rw [upd_ne ndd.symm]; exact hpd', hT2, ndW, okn⟩
end
end Tm

/-! _law_normal_teams. -/
namespace Tm
open PySem PySem.Spec PyProof.Rows L2 TmZ TmE TmD
local macro_rules | `(tactic| walk_at "x") => `(tactic| dsimp only [tNext, tRet, tSeq, tCall, tCB, tC, tCons, tNil, tAsg, tDrop, sFld])
section
variable {K : PySem.W.Frag} {C CP : Addr}
/-- the two rows sorted -/
theorem sort_two {H : Hp} {fp : Addr} {y1 y2 : V} {f g : List Str} {Q : VK} (hys : H fp = some (.lst [y1, y2])) (hy1 : teamR H f y1) (hy2 : teamR H g y2)
    (q : ∀ (b r1 t1 r2 t2 : Addr) (H' : Hp) (n1 n2 : Int), H b = none → Same H H' → H' b = some (.lst [.ref r1, .ref r2]) → H' r1 = some (.tup [.int n1, .ref t1]) → H' t1 = some (.tup (strV (nrmF f g))) → H' r2 = some (.tup [.int n2, .ref t2]) → H' t2 = some (.tup (strV (nrmG f g))) → Q (.ref b) H') : rSortDt K [.ref fp] H Q := by
  refine ⟨fp, [(y1, encT (srtS f)), (y2, encT (srtS g))], rfl, SqL.of hys, ?_, ?_, ?_, ?_, fun b hb => ?_⟩
  · intro b hb
    simp only [List.mem_cons, List.not_mem_nil, or_false] at hb
    rcases hb with rfl | rfl
    · exact hy1.dp
    · exact hy2.dp
  · intro d hd d' hd'
    simp only [List.map_cons, List.map_nil, List.mem_cons, List.not_mem_nil, or_false] at hd hd'
    rcases hd with rfl | rfl <;> rcases hd' with rfl | rfl <;> exact alike_encT _ _
  · refine .inl fun d hd => ?_
    simp only [List.map_cons, List.map_nil, List.mem_cons, List.not_mem_nil, or_false] at hd
    rcases hd with rfl | rfl <;> exact ⟨_, _, rfl⟩
  · intro b hb
    simp only [List.mem_cons, List.not_mem_nil, or_false] at hb
    rcases hb with rfl | rfl <;> exact depth_encT _
  rw [merge_two, le_encT]
  obtain ⟨r1, t1, rfl, h1, h2⟩ := hy1
  obtain ⟨r2, t2, rfl, h3, h4⟩ := hy2
  unfold nrmF nrmG at q
  cases c : ltT (srtS g) (srtS f) with
  | true =>
    rw [c, if_pos rfl, if_pos rfl] at q
    rw [if_neg (by decide)]
    have eb := same_new (o := .lst [.ref r2, .ref r1]) hb
    exact q b r2 t2 r1 t1 _ _ _ hb eb upd_same (eb _ _ h3) (eb _ _ h4) (eb _ _ h1) (eb _ _ h2)
  | false =>
    rw [c, if_neg (by decide), if_neg (by decide)] at q
    rw [if_pos (by decide)]
    have eb := same_new (o := .lst [.ref r1, .ref r2]) hb
    exact q b r1 t1 r2 t2 _ _ _ hb eb upd_same (eb _ _ h1) (eb _ _ h2) (eb _ _ h3) (eb _ _ h4)
end
section
variable {P : Program} {w : World} {K : PySem.W.Frag} {mg : Str → Option Value} {base : Heap} {C CP : Addr}
abbrev s_nteams : Stmt := top 38
theorem sc_law_normal_teams : FnScope ["_law_parts", "_law_rows", "_law_part"] ["_law_parts"] (defScope s_nteams) := ⟨rfl, rfl, rfl, by decide +kernel, rfl, by decide +kernel, by decide +kernel⟩
def sp_nteams : Sp := fun vs H Q _ => ∃ (v : V) (p : Pl), vs = [v] ∧ PartsV H v p ∧ ∀ b x y H', Same H H' → H b = none → H' b = some (.lst [x, y]) → TeamV H' x p.nrm.f → TeamV H' y p.nrm.g → Q (.ref b) H'
theorem ok_nteams (B : Bt mg) (D : Df K mg "_law_normal_teams" s_nteams ["_law_parts"]) : Ok P w K mg base "_law_normal_teams" 1 ["_law_parts"] sp_nteams := by
  refine D.ok sc_law_normal_teams (fun vs H Q E h => ?_) (fun f cdv A outer s H vs Q E hr h => ?_)
  · obtain ⟨v, p, rfl, _⟩ := h
    rfl
  · obtain ⟨v, p, rfl, hp, q⟩ := h
    have hu64 : (A.deeper (envOfC "_law_normal_teams" (defScope s_nteams) s.heap.objs.size f cdv)).units + 64 < cLine := by
      have := hr.un
      omega
    refine ⟨_, pss_cons (ps_set (i := 1) sc_law_normal_teams.nd rfl (.inl rfl) (pe_callB (cr_sortDt (K := K) hu64) (by rfl) B.sorted (by decide +kernel) (pa_cons (pe_lc (own := [("_law_part", 2)]) (g := gName 2) (tt := tYes) rfl sc_law_normal_teams.nd (piL (K := K) (pe_slice sl_list (pv 0) (po_some (pe_int)) (po_none))) (blkOk_by (own := [("_law_part", 2)]) (N := ["_law_parts", "_law_rows", "_law_part"]) (sc := defScope s_nteams) (by decide +kernel)) (fun _ _ _ _ _ => pg_name (i := 2) sc_law_normal_teams.nd rfl (.inl rfl)) (fun _ _ _ _ _ => pts_nil) (fun _ _ _ _ _ => pe_tup (pa_cons (pe_callB (lenK (K := K)) (by rfl) B.len (by decide +kernel) (pa_cons (pv 2) (pa_nil))) (pa_cons (pe_callTy (tupleK (K := K)) (by rfl) B.tuple (by decide +kernel) (pa_cons (pe_callB (cr_sortTS (K := K)) (by rfl) B.sorted (by decide +kernel) (pa_cons (pv 2) (pa_nil))) (pa_nil))) (pa_nil))))) (pa_nil))))
      (pss_one (ps_ret (pe_lst (pa_cons (pe_ix (ixTK (K := K)) (pe_ix (ixLK (K := K)) (pv 1) (pe_int) (fun _ _ => rfl)) (pe_int) (fun _ _ => rfl)) (pa_cons (pe_ix (ixTK (K := K)) (pe_ix (ixLK (K := K)) (pv 1) (pe_int) (fun _ _ => rfl)) (pe_int) (fun _ _ => rfl)) (pa_nil)))))), ?_⟩
    obtain ⟨a, d, x, y, rfl, ha, hd, hx, hy, ok⟩ := id hp
    have few : p.f.length + p.g.length ≤ 6 := ok.few
    dsimp only [tSeq, tAsg, tCB, tCons]
    refine lc_runL (K := K) (xs := [x, y]) (fun Q q => ⟨_, rfl, 2, rfl, a, _, rfl, SqL.of ha, fun pz hpz => ?_⟩) [p.f, p.g] rfl (fun _ => true) (fun l v H => teamR H l v) (by show 2 ≤ 100000; decide) (by intro _; rfl) (fun _ _ _ _ e h => h.mono e)
      (fun i l x H2 hi hx2 e2 => ⟨evt_yes, fun _ H3 e3 Q q => ?_⟩) (fun fp H2 ys hfp e2 hys hP => ?_)
    · exact q _ _ (same_new hpz) ⟨pz, rfl, SqL.of upd_same⟩
    · have e13 := e2.trans e3
      obtain ⟨⟨r, rfl, hr0⟩, l6⟩ : TeamV H3 x l ∧ l.length ≤ 6 := by
        match i, hi, hx2 with
        | 0, hi, hx2 =>
          cases hi
          cases hx2
          exact ⟨hx.keep e13, by omega⟩
        | 1, hi, hx2 =>
          cases hi
          cases hx2
          exact ⟨hy.keep e13, by omega⟩
        | i + 2, hi, _ => nomatch hi
      exact ev_teamR (K := K) (fun H4 e4 => ev_is rfl ((show TeamV H3 (.ref r) l from ⟨r, rfl, hr0⟩).keep e4)) (by omega) Q q
    · rw [filter_all] at hP
      obtain ⟨y1, y2, rfl, hy1, hy2⟩ : ∃ y1 y2, ys = [y1, y2] ∧ teamR H2 p.f y1 ∧ teamR H2 p.g y2 := by
        cases hP with
        | cons h t =>
          cases t with
          | cons h' t =>
            cases t
            exact ⟨_, _, rfl, h, h'⟩
      dsimp only [tNil]
      refine sort_two hys hy1 hy2 fun b r1 t1 r2 t2 H3 n1 n2 hb e3 hlb hr1 ht1 hr2 ht2 => ?_
      dsimp only [gName]
      try dsimp only [tRet]
      refine ⟨_, rfl, b, _, 0, _, rfl, rfl, SqL.of hlb, atI_nat (j := 0) rfl, r1, _, 1, _, rfl, rfl, SqT.of hr1, atI_nat (j := 1) rfl, ?_⟩
      refine ⟨_, rfl, b, _, 1, _, rfl, rfl, SqL.of hlb, atI_nat (j := 1) rfl, r2, _, 1, _, rfl, rfl, SqT.of hr2, atI_nat (j := 1) rfl, ?_⟩
      refine ⟨by show 2 ≤ sizeLine; decide, fun c hc => ?_⟩
      have ec := same_new (o := .lst [V.ref t1, .ref t2]) hc
      exact q c (.ref t1) (.ref t2) _ (e2.trans (e3.trans ec)) (e2.free (e3.free hc)) upd_same ⟨t1, rfl, .inl (ec _ _ ht1)⟩ ⟨t2, rfl, .inl (ec _ _ ht2)⟩
end
end Tm

/-! _law_tried(lambda: ..); plans and their parts while lambdas are made. -/
namespace Tm
open PySem PySem.Spec PyProof.Rows L2 LamX TmT TmZ TmE TmD
def QSz : Str := "_law_sized_deed.<locals>.<lambda>"
theorem qs_is (sc : Scope) (L f : Addr) (cd : Value) : (envOfC "_law_sized_deed" sc L f cd).qual ++ ("<lambda>" : Str) = QSz := by
  show (("_law_sized_deed" : Str) ++ (".<locals>." : Str)) ++ ("<lambda>" : Str) = QSz
  decide +kernel
/-- what the two errors' classes tell, and _law_tried -/
structure MetT (K : PySem.W.Frag) (mg : Str → Option Value) (CO CT : Addr) : Prop where
  c : MetC K CO CT
  o : mg "InvalidOperation" = some (.ref CO)
  t : ∃ fI, PySem.TooX.TooTxt K mg CT fI
  d : Df K mg "_law_tried" s_met ["_law_call"]
  r : mg "repr" = none
theorem pe_met {X : Cx} {CO CT c Pt : Addr} {k : Nat} {params : Arguments} {body : Expr} {scope : Scope} {t : XK → TE} {p lpos pos : Pos} (M : MetT X.K X.mg CO CT) (TB : TabB X.base X.mg c Pt) (hr : Room (k + 2) X.A)
    (hcode : X.env.code = .ref c) (hq : X.env.qual ++ ("<lambda>" : Str) = QSz) (L : LamS X.env.scope scope) (hbody : ∀ (A : Around) (outer : List Env) (s : Shared) (H : Hp) (E : XK) (f c' : Addr), Room k (A.deeper (lamEnv X scope s.heap.objs.size f c')) → PE (lamCx X A outer s H E scope f c') body (t E))
    (hdef : defaultsOf params X.env = ([], []) := by rfl) (hbind : ∀ (q : Str) (cl : List (Str × Addr)) (pm cv ctv : Value), bindArgs (PySem.W.kla_fn "<lambda>" q params body scope cl pm cv ctv) ⟨[], []⟩ = pure [] := by intros; rfl)
    (hg : Gl X "_law_tried" := by rfl) :
    PE X (.Call (.Name "_law_tried" p) [.Lambda params body scope lpos] [] pos) (tLam [(Pt, QSz)] (TMet CO CT) t) := by
  obtain ⟨g, fdg, m1, m2, Fg, bg⟩ := M.d.ex
  obtain ⟨oc, od, kV, doc, pm, an, cdv, ct, osl, rfl, lk, hcd⟩ := Fg.ex
  obtain ⟨fI, TX⟩ := M.t
  have hm : (Pt, X.env.qual ++ ("<lambda>" : Str)) ∈ [(Pt, QSz)] := by rw [hq]; exact List.mem_cons_self
  have hu : ∀ p ∈ [(Pt, QSz)], p.1 = Pt → p.2 = X.env.qual ++ ("<lambda>" : Str) := fun p hp _ => by rw [List.mem_singleton.mp hp, hq]
  exact pe_lamcall hg m1 m2 lk hcd bg sc_met rfl (.inl rfl) (met_gives M.r M.c M.o TX) TB hcode hm hu hr L hdef hbind hbody
/-! ### what is told of plans stays -/
theorem KX.same {l : Addr} {H H' : Hp} (e : Same H H') : KX l H H' := fun b o h _ _ => e b o h
theorem KX.kl {l : Addr} {H H' : Hp} (k : KL l H H') : KX l H H' := fun b o h n _ => k.1 b o h n
theorem KX.ext {l : Addr} {H H' : Hp} (e : ExtN H H') : KX l H H' := fun b o h _ n => e b o h n
theorem KX.trans {l : Addr} {H H1 H2 : Hp} (a : KX l H H1) (b : KX l H1 H2) : KX l H H2 := fun c o h n1 n2 => b c o (a c o h n1 n2) n1 n2
theorem KX.at_ {l : Addr} {H H' : Hp} (v0 : VatV H l) (k : KX l H H') {a : Addr} {o : HO} (h : H a = some o) (n : ∀ x y z, o ≠ .lst [.int x, .int y, .int z]) (n2 : ∀ ps, o ≠ .tbl ps) : H' a = some o := by
  obtain ⟨x, y, z, hv⟩ := v0
  refine k _ _ h (fun e => ?_) n2
  rw [e, hv] at h
  exact n x y z (Option.some.inj h).symm
theorem KX.tups {l : Addr} {H H' : Hp} (v0 : VatV H l) (k : KX l H H') : TupS H H' := fun a xs h => k.at_ v0 h (fun _ _ _ z => by cases z) fun _ z => by cases z
theorem TeamV.kx {l : Addr} {H H' : Hp} {v : V} {f : List Str} (v0 : VatV H l) (k : KX l H H') (h : TeamV H v f) : TeamV H' v f := by
  obtain ⟨r, rfl, h⟩ := h
  refine ⟨r, rfl, ?_⟩
  rcases h with h | ⟨o, h⟩
  · exact .inl (k.at_ v0 h (fun _ _ _ z => by cases z) fun _ z => by cases z)
  · exact .inr ⟨o, k.at_ v0 h (fun _ _ _ z => by cases z) fun _ z => by cases z⟩
theorem KindV.kx {l C : Addr} {H H' : Hp} {v : V} {t : Tab} (v0 : VatV H l) (k : KX l H H') (h : KindV C H v t) : KindV C H' v t := by
  obtain ⟨a, dx, d, kvs, e1, e2, e3, e4, e5⟩ := h
  exact ⟨a, dx, d, kvs, e1, k.at_ v0 e2 (fun _ _ _ z => by cases z) (fun _ z => by cases z), k.at_ v0 e3 (fun _ _ _ z => by cases z) (fun _ z => by cases z), e4.mono (k.tups v0), e5⟩
theorem DictV.kx {l : Addr} {H H' : Hp} {v : V} {t : Tab} (v0 : VatV H l) (k : KX l H H') (h : DictV H v t) : DictV H' v t := by
  obtain ⟨d, kvs, ev, hd, ht, nd, ok⟩ := h
  exact ⟨d, kvs, ev, k.at_ v0 hd (fun _ _ _ z => by cases z) (fun _ z => by cases z), ht.mono (k.tups v0), nd, ok⟩
theorem PlanV.kx {l C CP : Addr} {H H' : Hp} {v : V} {p : Pl} (v0 : VatV H l) (k : KX l H H') (h : PlanV C CP H v p) : PlanV C CP H' v p := by
  obtain ⟨a, dx, kk, tm, p1, p2, th, e1, e2, e3, e4, e5, e6, e7, e8⟩ := h
  exact ⟨a, dx, kk, tm, p1, p2, th, e1, k.at_ v0 e2 (fun _ _ _ z => by cases z) (fun _ z => by cases z), e3.kx v0 k, k.at_ v0 e4 (fun _ _ _ z => by cases z) (fun _ z => by cases z), e5.kx v0 k, e6.kx v0 k, k.at_ v0 e7 (fun _ _ _ z => by cases z) (fun _ z => by cases z), e8⟩
theorem PartsV.kx {l : Addr} {H H' : Hp} {v : V} {p : Pl} (v0 : VatV H l) (k : KX l H H') (h : PartsV H v p) : PartsV H' v p := by
  obtain ⟨a, d, x, y, e1, e2, e3, e4, e5, e6⟩ := h
  exact ⟨a, d, x, y, e1, k.at_ v0 e2 (fun _ _ _ z => by cases z) (fun _ z => by cases z), e3.kx v0 k, e4.kx v0 k, e5.kx v0 k, e6⟩
theorem PartsV.keep {H H' : Hp} {v : V} {p : Pl} (h : PartsV H v p) (e : Same H H') : PartsV H' v p := by
  obtain ⟨a, d, x, y, e1, e2, e3, e4, e5, e6⟩ := h
  exact ⟨a, d, x, y, e1, e _ _ e2, e3.keep e, e4.keep e, e5.keep e, e6⟩
/-- a plan and its parts -/
def LikeV (C CP : Addr) (H : Hp) (v u : V) (q : Pl) : Prop := ∃ t, t.Perm q.t ∧ PlanV C CP H v ⟨t, q.s, q.f, q.g⟩ ∧ PartsV H u q
theorem LikeV.keep {C CP : Addr} {H H' : Hp} {v u : V} {q : Pl} (h : LikeV C CP H v u q) (e : Same H H') : LikeV C CP H' v u q := by
  obtain ⟨t, h1, h2, h3⟩ := h
  exact ⟨t, h1, h2.keep e, h3.keep e⟩
theorem LikeV.kx {l C CP : Addr} {H H' : Hp} {v u : V} {q : Pl} (v0 : VatV H l) (k : KX l H H') (h : LikeV C CP H v u q) : LikeV C CP H' v u q := by
  obtain ⟨t, h1, h2, h3⟩ := h
  exact ⟨t, h1, h2.kx v0 k, h3.kx v0 k⟩
/-- the pair [told, due] -/
def DueP (C CP : Addr) (H : Hp) (told due : V) : Prop := (∃ x, due = .str x ∧ told = .str x) ∨ ∃ q, LikeV C CP H told due q
/-! ### (name,) * 0, (name,) * 1 -/
def rpt (x : Str) (k : Nat) : List Str := if k = 0 then [] else [x]
theorem ev_rpt {K : PySem.W.Frag} {σ : L2.St} {H : Hp} {tn tk : TE} {x : Str} {k : Nat} (h1 : Ev tn σ H fun v _ => v = .str x) (h2 : ∀ H1, Same H H1 → Ev tk σ H1 fun v _ => v = .int (k : Int)) (hk : k < 2) : Ev (tOp (rRep01 K) (tTup (tCons tn tNil)) tk) σ H fun v H1 => TeamV H1 v (rpt x k) := fun Q q =>
  h1 _ fun v H1 e1 hv => by
    subst hv
    refine ⟨by show 1 ≤ sizeLine; decide, fun a ha => ?_⟩
    have e2 := same_new (o := .tup [.str x]) ha
    refine h2 _ (e1.trans e2) _ fun u H3 e3 hu => ?_
    subst hu
    have ha3 := e3 _ _ (upd_same (H := H1) (a := a) (o := .tup [.str x]))
    have e13 := e1.trans (e2.trans e3)
    refine ⟨a, (k : Int), [.str x], rfl, rfl, SqT.of ha3, by simp, ?_⟩
    have ck : k = 0 ∨ k = 1 := by omega
    rcases ck with rfl | rfl
    · exact .inr ⟨rfl, fun p hp => q _ _ (e13.trans (same_new hp)) ⟨p, rfl, .inl upd_same⟩⟩
    · exact .inl ⟨rfl, q _ _ e13 ⟨a, rfl, .inl ha3⟩⟩
theorem Pl.put_more {q : Pl} {x : Str} {k : Nat} (hk : k < 2) : (⟨q.t, q.s, q.f ++ rpt x (1 - k), q.g ++ rpt x k⟩ : Pl) = q.put k (q.team k ++ [x]) := by
  have ck : k = 0 ∨ k = 1 := by omega
  rcases ck with rfl | rfl
  · show (⟨q.t, q.s, q.f ++ [x], q.g ++ []⟩ : Pl) = ⟨q.t, q.s, q.f ++ [x], q.g⟩
    rw [List.append_nil]
  · show (⟨q.t, q.s, q.f ++ [], q.g ++ [x]⟩ : Pl) = ⟨q.t, q.s, q.f, q.g ++ [x]⟩
    rw [List.append_nil]
theorem Pl.Ok.perm {p : Pl} {t : Tab} (ok : p.Ok) (okt : okTab p.t = true) (pm : t.Perm p.t) : Pl.Ok ⟨t, p.s, p.f, p.g⟩ :=
  ⟨by show _ < sizeT t; rw [size_perm okt pm]; exact ok.s, ok.f, ok.g, ok.few, fun x hx => (pm.map (fun e : Str × Row => e.1)).mem_iff.mpr (ok.all x hx)⟩
end Tm

/-! _law_sized_deed. -/
namespace Tm
open PySem PySem.Spec PyProof.Rows L2 LamX TmT TmZ TmE TmD
local macro_rules | `(tactic| walk_at "x") => `(tactic| dsimp only [tNext, tRet, tSeq, tCall, tCB, tC, tCons, tNil, tAsg, tDrop, sFld])
theorem TeamV.rd {H : Hp} {r : Addr} {l : List Str} (h : TeamV H (.ref r) l) : Rd H r (.tup (strV l)) := by
  obtain ⟨_, e, h⟩ := h
  cases e
  exact h
theorem TeamV.mutL {H : Hp} {p : Addr} {v : V} {f : List Str} {xs : List V} {o : HO} (hp : H p = some (.lst xs)) (h : TeamV H v f) : TeamV (upd H p o) v f := by
  obtain ⟨r, rfl, h⟩ := h
  refine ⟨r, rfl, ?_⟩
  rcases h with h | ⟨q, h⟩
  · exact .inl (by rw [upd_ne (fun z => by rw [z, hp] at h; cases h)]; exact h)
  · exact .inr ⟨q, by rw [upd_ne (fun z => by rw [z, hp] at h; cases h)]; exact h⟩
/-- a list that came later is written to -/
theorem Good.mut {l p : Addr} {T : List (Addr × Str)} {H0 H : Hp} {xs : List V} {o : HO} (g : Good l T H0 H) (h0 : H0 p = none) (hp : H p = some (.lst xs)) (n : p ≠ l) : Good l T H0 (upd H p o) := by
  refine ⟨fun b u hb n1 n2 => ?_, g.vat.keepU n, fun q hq => ?_⟩
  · rw [upd_ne (fun z => by rw [z, h0] at hb; cases hb)]
    exact g.kx b u hb n1 n2
  · obtain ⟨ps, h1, h2, h3⟩ := g.tabs q hq
    refine ⟨ps, by rw [upd_ne (fun z => by rw [z, hp] at h1; cases h1)]; exact h1, h2, fun pos cv hc => ?_⟩
    obtain ⟨c0, e1, e2⟩ := h3 pos cv hc
    refine ⟨c0, e1, ?_⟩
    rw [upd_ne (fun z => by rw [z, hp] at e2; exact codeO_nl _ (Option.some.inj e2).symm)]
    exact e2
/-- int(i >= n) -/
theorem ev_side {σ : L2.St} {H : Hp} {te tl : TE} {i n : Nat} (h1 : Ev te σ H fun v _ => v = .int (i : Int)) (h2 : ∀ H1, Same H H1 → Ev tl σ H1 fun v _ => v = .int (n : Int)) :
    Ev (tCB (fun xs H Q => (∃ i, xs = [V.int i] ∧ Q (V.int i) H) ∨ ∃ k, xs = [V.bl k] ∧ Q (V.int (if k = true then 1 else 0)) H) (tCons (tOp (rI0 fun i j => V.bl (decide (j ≤ i))) te tl) tNil)) σ H fun v _ => v = .int (((if i < n then 0 else 1 : Nat) : Nat) : Int) := fun Q q =>
  h1 _ fun v H1 e1 hv => h2 H1 e1 _ fun u H2 e2 hu => by
    subst hv hu
    refine ⟨_, _, rfl, rfl, .inr ⟨_, rfl, q _ _ (e1.trans e2) ?_⟩⟩
    by_cases c : i < n
    · rw [if_pos c, if_neg (by simp; omega)]
      rfl
    · rw [if_neg c, if_pos (by simp; omega)]
      rfl
theorem Pl.less_at {p : Pl} {t : Tab} {i : Nat} : (⟨t, p.s, p.f, p.g⟩ : Pl).less i = ⟨t, (p.less i).s, (p.less i).f, (p.less i).g⟩ ∧ (p.less i).t = p.t := by
  unfold Pl.less Pl.put
  have e : (⟨t, p.s, p.f, p.g⟩ : Pl).side i = p.side i := rfl
  rw [e]
  by_cases c : p.side i = 0
  · rw [if_pos c, if_pos c]
    exact ⟨rfl, rfl⟩
  · rw [if_neg c, if_neg c]
    exact ⟨rfl, rfl⟩
section
variable {P : Program} {w : World} {K : PySem.W.Frag} {mg : Str → Option Value} {base : Heap} {C CP : Addr}
abbrev s_sdeed : Stmt := top 41
abbrev NS : List Str := ["_law_purse", "_law_plan", "_law_parts", "_law_one", "_law_left", "_law_told", "_law_names", "_law_sizes", "_law_due", "_law_side", "_law_spot", "_law_name"]
theorem sc_law_sized_deed : FnScope NS ["_law_purse", "_law_plan", "_law_parts"] (defScope s_sdeed) := ⟨rfl, rfl, rfl, by decide +kernel, rfl, by decide +kernel, by decide +kernel⟩
def sp_sdeed (C CP : Addr) (T : List (Addr × Str)) : Sp := fun vs H Q _ => ∃ (l : Addr) (v u : V) (q : Pl), vs = [.ref l, v, u] ∧ VatV H l ∧ Tabs T H ∧ LikeV C CP H v u q ∧ ∀ a told due H', Good l T H H' → H' a = some (.lst [told, due]) → DueP C CP H' told due → Q (.ref a) H'
theorem ok_sdeed {CO CT c Pt : Addr} (B : Bt mg) (Bsum : mg "sum" = none) (TP : Kp K CP) (M : MetT K mg CO CT) (O_law_coin : Ok P w K mg base "_law_coin" 1 ["_law_purse", "_law_total"] sp_draw) (O_law_pick : Ok P w K mg base "_law_pick" 2 ["_law_purse", "_law_items"] sp_pick)
    (OX_fewer : OkMX P w K mg base CP "fewer" 7 ["self", "thread"] (sp_fewer C CP CO)) (OX_more : OkMX P w K mg base CP "more" 7 ["self", "team", "name"] (sp_pmore C CP CT))
    (D : DfL K mg base "_law_sized_deed" s_sdeed ["_law_purse", "_law_plan", "_law_parts"] c Pt) : Ok P w K mg base "_law_sized_deed" 10 ["_law_purse", "_law_plan", "_law_parts"] (sp_sdeed C CP [(Pt, QSz)]) := by
  refine D.ok sc_law_sized_deed (fun vs H Q E h => ?_) (fun f A outer s H vs Q E hr h => ?_)
  · obtain ⟨l, v, u, q, rfl, _⟩ := h
    rfl
  · obtain ⟨l, v, u, p, rfl, hv, hT, hl, q⟩ := h
    refine ⟨_, pss_cons (ps_par (i := 6) (j := 7) (by rfl) sc_law_sized_deed.nd rfl rfl (by decide) rfl rfl (pa_cons (pe_callB (call_sortedD rfl) (by rfl) B.sorted (by decide +kernel) (pa_cons (pe_ix (ixLK (K := K)) (pv 2) (pe_int) (fun _ _ => rfl)) (pa_nil))) (pa_cons (pe_lst (pa_cons (pe_callB (lenK (K := K)) (by rfl) B.len (by decide +kernel) (pa_cons (pe_ix (ixLK (K := K)) (pv 2) (pe_int) (fun _ _ => rfl)) (pa_nil))) (pa_cons (pe_callB (lenK (K := K)) (by rfl) B.len (by decide +kernel) (pa_cons (pe_ix (ixLK (K := K)) (pv 2) (pe_int) (fun _ _ => rfl)) (pa_nil))) (pa_nil)))) (pa_nil))) (by rfl))
      (pss_cons (ps_if (pt_cmpR op_eq (O_law_coin.call hr (ha := pa_cons (pv 0) (pa_cons (pe_int) (pa_nil)))) (pe_int) (nomark _))
        (pss_cons (ps_asg (pe_tup (pa_cons (O_law_coin.call hr (ha := pa_cons (pv 0) (pa_cons (pe_int) (pa_nil)))) (pa_cons (O_law_pick.call hr (ha := pa_cons (pv 0) (pa_cons (pv 6) (pa_nil)))) (pa_nil)))) (pg_tup (by rfl) (pgs_cons (pg_name (i := 9) sc_law_sized_deed.nd rfl (.inr rfl)) (pgs_cons (pg_name (i := 11) sc_law_sized_deed.nd rfl (.inr rfl)) (pgs_nil)))))
      (pss_cons (ps_set (i := 8) sc_law_sized_deed.nd rfl (.inl rfl) (pe_op op_cat (pe_slice sl_list (pv 2) (po_none) (po_some (pe_int))) (pe_lst (pa_cons (pe_op (catAK (K := K)) (pe_ix (ixLK (K := K)) (pv 2) (pe_int) (fun _ _ => rfl)) (pe_op (op_rep01 (K := K)) (pe_tup (pa_cons (pv 11) (pa_nil))) (pe_op op_sub (pe_int) (pv 9)))) (pa_cons (pe_op (catAK (K := K)) (pe_ix (ixLK (K := K)) (pv 2) (pe_int) (fun _ _ => rfl)) (pe_op (op_rep01 (K := K)) (pe_tup (pa_cons (pv 11) (pa_nil))) (pv 9))) (pa_nil))))))
      (pss_cons (ps_set (i := 5) sc_law_sized_deed.nd rfl (.inl rfl) (pe_met (Pt := Pt) M D.tb (k := 7) hr rfl (qs_is _ _ _ _) (lamS_by (sc := defScope s_sdeed) (by decide +kernel)) (fun A2 outer2 s2 H2 E2 f2 c2 hr2 => OX_more.call (takes_of rfl rfl rfl rfl) (fun _ _ _ _ h => h) hr2 TP.cl (he := pv 1) (ha := pa_cons (pv 9) (pa_cons (pv 11) (pa_nil))))))
      (pss_one (ps_ret (pe_lst (pa_cons (pv 5) (pa_cons (pe_ifExp (pt_cmpR op_lt (pe_callB (cr_sum rfl) (by rfl) Bsum (by decide +kernel) (pa_cons (pv 7) (pa_nil))) (pe_int) (nomark _)) (pv 8) (pe_str)) (pa_nil)))))))))
        (pss_nil))
      (pss_cons (ps_set (i := 3) sc_law_sized_deed.nd rfl (.inr rfl) (O_law_coin.call hr (ha := pa_cons (pv 0) (pa_cons (pe_callB (cr_sum rfl) (by rfl) Bsum (by decide +kernel) (pa_cons (pv 7) (pa_nil))) (pa_nil)))))
      (pss_cons (ps_asg (pe_tup (pa_cons (pe_callTy call_int1 (by rfl) B.int (by decide +kernel) (pa_cons (pe_cmpR op_ge (pv 3) (pe_ix (ixLK (K := K)) (pv 7) (pe_int) (fun _ _ => rfl)) (nomark _)) (pa_nil))) (pa_cons (pe_op op_sub (pv 3) (pe_op op_mul (pe_ix (ixLK (K := K)) (pv 7) (pe_int) (fun _ _ => rfl)) (pe_callTy call_int1 (by rfl) B.int (by decide +kernel) (pa_cons (pe_cmpR op_ge (pv 3) (pe_ix (ixLK (K := K)) (pv 7) (pe_int) (fun _ _ => rfl)) (nomark _)) (pa_nil))))) (pa_nil)))) (pg_tup (by rfl) (pgs_cons (pg_name (i := 9) sc_law_sized_deed.nd rfl (.inr rfl)) (pgs_cons (pg_name (i := 10) sc_law_sized_deed.nd rfl (.inl rfl)) (pgs_nil)))))
      (pss_cons (ps_set (i := 4) sc_law_sized_deed.nd rfl (.inl rfl) (pe_lst (pa_cons (pe_ix (ixLK (K := K)) (pv 2) (pe_int) (fun _ _ => rfl)) (pa_cons (pe_ix (ixLK (K := K)) (pv 2) (pe_int) (fun _ _ => rfl)) (pa_nil)))))
      (pss_cons (ps_asg (pe_op (catAK (K := K)) (pe_slice (slAK (K := K)) (pe_ix (ixLK (K := K)) (pv 4) (pv 9) (fun _ _ => rfl)) (po_none) (po_some (pv 10))) (pe_slice (slAK (K := K)) (pe_ix (ixLK (K := K)) (pv 4) (pv 9) (fun _ _ => rfl)) (po_some (pe_op op_add (pv 10) (pe_int))) (po_none))) (pg_sub (pv 4) (pv 9) L2.set_list))
      (pss_cons (ps_set (i := 5) sc_law_sized_deed.nd rfl (.inl rfl) (pe_met (Pt := Pt) M D.tb (k := 7) hr rfl (qs_is _ _ _ _) (lamS_by (sc := defScope s_sdeed) (by decide +kernel)) (fun A2 outer2 s2 H2 E2 f2 c2 hr2 => OX_fewer.call (takes_of rfl rfl rfl rfl) (fun _ _ _ _ h => h) hr2 TP.cl (he := pv 1) (ha := pa_cons (pv 3) (pa_nil)))))
      (pss_one (ps_ret (pe_lst (pa_cons (pv 5) (pa_cons (pe_ifExp (pt_cmpR op_gt (pe_ix (ixLK (K := K)) (pv 7) (pv 9) (fun _ _ => rfl)) (pe_int) (nomark _)) (pe_op op_cat (pe_slice sl_list (pv 2) (po_none) (po_some (pe_int))) (pv 4)) (pe_str)) (pa_nil)))))))))))), ?_⟩
    obtain ⟨t, pm, hp, hu⟩ := id hl
    obtain ⟨a, d, x, y, rfl, ha, hd, hx, hy, ok⟩ := id hu
    have hTm : (Pt, QSz) ∈ [(Pt, QSz)] := List.mem_cons_self
    obtain ⟨okt, ndt⟩ := hd.ok
    have ft := ok_facts okt
    obtain ⟨_, kvs, ee, hdd, ht, _, _⟩ := id hd
    cases ee
    have few : p.f.length + p.g.length ≤ 6 := ok.few
    have ln : (namesT p.t).length = p.t.length := List.length_map _
    obtain ⟨rx, rfl, hrx⟩ := id hx
    obtain ⟨ry, rfl, hry⟩ := id hy
    have lx : (strV p.f).length = p.f.length := List.length_map _
    have ly : (strV p.g).length = p.g.length := List.length_map _
    have g0 : Good l [(Pt, QSz)] H H := Good.start hv hT
    have haN : ∀ {H' : Hp}, Good l [(Pt, QSz)] H H' → H' a = some (.lst [.ref d, .int (p.s : Int), .ref rx, .ref ry]) := fun g => g.kx.at_ hv ha (fun _ _ _ z => by cases z) fun _ z => by cases z
    dsimp only [tSeq]
    refine ⟨_, rfl, a, _, 0, _, rfl, rfl, SqL.of ha, atI_nat (j := 0) rfl, d, kvs, namesT p.t, rfl, .inl hdd, tabV_keys ht, by omega, fun ns p1 pn _ hp1 => ?_⟩
    have e1 := same_new (o := .lst (ns.map V.str)) hp1
    have g1 := g0.same e1
    have a1 : upd H p1 (.lst (ns.map V.str)) p1 = some (.lst (ns.map V.str)) := upd_same
    have n1 : p1 ≠ l := vat_ne hv hp1
    generalize upd H p1 (.lst (ns.map V.str)) = H1 at e1 g1 a1
    refine ⟨_, rfl, a, _, 2, _, rfl, rfl, SqL.of (haN g1), atI_nat (j := 2) rfl, rx, _, rfl, .inr (.inl (TeamV.rd (hx.kx hv g1.kx))), ?_⟩
    refine ⟨_, rfl, a, _, 3, _, rfl, rfl, SqL.of (haN g1), atI_nat (j := 3) rfl, ry, _, rfl, .inr (.inl (TeamV.rd (hy.kx hv g1.kx))), ?_⟩
    rw [lx, ly]
    refine ⟨by show 2 ≤ sizeLine; decide, fun p2 hp2 => ?_⟩
    have e2 := same_new (o := .lst [.int (p.f.length : Int), .int (p.g.length : Int)]) hp2
    have g2 := g1.same e2
    have a12 := e2 _ _ a1
    have a2 : upd H1 p2 (.lst [.int (p.f.length : Int), .int (p.g.length : Int)]) p2 = some (.lst [.int (p.f.length : Int), .int (p.g.length : Int)]) := upd_same
    have n2 : p2 ≠ l := vat_ne g1.vat hp2
    generalize upd H1 p2 (.lst [.int (p.f.length : Int), .int (p.g.length : Int)]) = H2 at e2 g2 a12 a2
    refine ⟨_, _, rfl, ?_⟩
    try dsimp only [tSeq]
    refine ⟨_, rfl, l, 2, rfl, g2.vat, by omega, by omega, fun c0 H3 c00 c01 k3 => ?_⟩
    have g3 := g2.draw k3
    have a13 := k3.1 _ _ a12 n1
    have a23 := k3.1 _ _ a2 n2
    refine ⟨rfl, _, rfl, ite2 (fun w1 => ?_) (fun w1 => ?_)⟩
    · -- more
      try dsimp only [tSeq, tAsg]
      refine ⟨_, rfl, l, 2, rfl, g3.vat, by omega, by omega, fun c1 H4 c10 c11 k4 => ?_⟩
      obtain ⟨k, rfl⟩ := Int.eq_ofNat_of_zero_le c10
      have k2 : k < 2 := by omega
      have g4 := g3.draw k4
      have a14 := k4.1 _ _ a13 n1
      have a24 := k4.1 _ _ a23 n2
      have lns : ns.length = p.t.length := by rw [pn.length_eq, ln]
      refine ⟨_, rfl, _, rfl, l, p1, ns.map V.str, rfl, g4.vat, a14, n1, by rw [List.length_map]; omega, by rw [List.length_map]; omega, fun v5 H5 hm5 k5 => ?_⟩
      obtain ⟨nm, hnm, rfl⟩ := List.mem_map.mp hm5
      have hnt : nm ∈ namesT p.t := pn.mem_iff.mp hnm
      have g5 := g4.draw k5
      have a25 := k5.1 _ _ a24 n2
      refine ⟨by show 2 ≤ sizeLine; decide, fun pt hpt => ?_⟩
      have e6 := same_new (o := .tup [.int (k : Int), .str nm]) hpt
      have g6 := g5.same e6
      have a26 := e6 _ _ a25
      have at6 : upd H5 pt (.tup [.int (k : Int), .str nm]) pt = some (.tup [.int (k : Int), .str nm]) := upd_same
      show (fun H' => _) (upd H5 pt (.tup [.int (k : Int), .str nm]))
      generalize upd H5 pt (.tup [.int (k : Int), .str nm]) = H6 at g6 a26 at6
      refine ⟨pt, _, rfl, SqT.of at6, rfl, ?_⟩
      refine ⟨_, _, rfl, ?_⟩
      dsimp only [gName]
      refine ⟨_, _, rfl, ?_⟩
      dsimp only [gName]
      refine ⟨rfl, ?_⟩
      try dsimp only [tSeq, tAsg, tLst, tCons, tNil]
      refine ⟨_, rfl, 2, rfl, a, _, rfl, SqL.of (haN g6), fun ps hps => ?_⟩
      have e7 := same_new (o := .lst [.ref d, .int (p.s : Int)]) hps
      have g7 := g6.same e7
      have a27 := e7 _ _ a26
      have aps : upd H6 ps (.lst [.ref d, .int (p.s : Int)]) ps = some (.lst [.ref d, .int (p.s : Int)]) := upd_same
      have nps : ps ≠ l := vat_ne g6.vat hps
      rw [show cutV [V.ref d, V.int (p.s : Int), V.ref rx, V.ref ry] none (some 2) = [V.ref d, .int (p.s : Int)] from rfl]
      generalize upd H6 ps (.lst [.ref d, .int (p.s : Int)]) = H7 at g7 a27 aps
      refine ev_teamCat (K := K) (l := p.f) (m := rpt nm (1 - k)) (fun Q q => ⟨_, rfl, a, _, 2, _, rfl, rfl, SqL.of (haN g7), atI_nat (j := 2) rfl, q _ _ (Same.refl _) (hx.kx hv g7.kx)⟩)
        (fun H8 e8 => ev_rpt (ev_is rfl rfl) (fun H9 _ Q q => ⟨_, rfl, _, _, rfl, rfl, q _ _ (Same.refl _) (congrArg V.int (by omega))⟩) (by omega)) (by unfold rpt; split <;> (simp; omega)) _ fun v8 H8 e8 hv8 => ?_
      have g8 := g7.same e8
      refine ev_teamCat (K := K) (l := p.g) (m := rpt nm k) (fun Q q => ⟨_, rfl, a, _, 3, _, rfl, rfl, SqL.of (haN g8), atI_nat (j := 3) rfl, q _ _ (Same.refl _) (hy.kx hv g8.kx)⟩)
        (fun H8 e8 => ev_rpt (ev_is rfl rfl) (fun H9 _ => ev_is rfl rfl) k2) (by unfold rpt; split <;> (simp; omega)) _ fun v9 H9 e9 hv9 => ?_
      have g9 := g8.same e9
      have e79 := e8.trans e9
      refine ⟨by show 2 ≤ sizeLine; decide, fun pl hpl => ?_⟩
      have e10 := same_new (o := .lst [v8, v9]) hpl
      refine ⟨ps, pl, _, _, rfl, rfl, e10 _ _ (e79 _ _ aps), upd_same, by show 4 ≤ sizeLine; decide, fun pd hpd => ?_⟩
      have e11 := same_new (o := .lst ([.ref d, .int (p.s : Int)] ++ [v8, v9])) hpd
      have g11 := g9.same (e10.trans e11)
      have apd : upd (upd H9 pl (.lst [v8, v9])) pd (.lst ([.ref d, .int (p.s : Int)] ++ [v8, v9])) pd = some (.lst [.ref d, .int (p.s : Int), v8, v9]) := upd_same
      have a211 := (e10.trans e11) _ _ (e79 _ _ a27)
      have hv8' := hv8.keep (e9.trans (e10.trans e11))
      have hv9' := hv9.keep (e10.trans e11)
      generalize upd (upd H9 pl (.lst [v8, v9])) pd (.lst ([.ref d, .int (p.s : Int)] ++ [v8, v9])) = H11 at g11 apd a211 hv8' hv9'
      dsimp only [gName]
      try dsimp only [tSeq, tAsg]
      refine ⟨g11.tabs, fun H12 e12 t12 => ?_⟩
      have g12 := g11.lam e12 t12
      have hp12 := hp.kx hv g12.kx
      have apd12 := e12 _ _ apd (fun _ z => by cases z)
      have a212 := e12 _ _ a211 (fun _ z => by cases z)
      have hv82 := hv8'.kx g11.vat (KX.ext e12)
      have hv92 := hv9'.kx g11.vat (KX.ext e12)
      have hd12 := hd.kx hv g12.kx
      obtain ⟨pa, dxp, _, _, _, _, _, rfl, hpa, _⟩ := id hp12
      refine ⟨_, rfl, pa, dxp, _, rfl, hpa, pf_no _ _ _ _, _, rfl, _, rfl, .ref pa, ⟨t, p.s, p.f, p.g⟩, k, nm, rfl, k2, hp12, (pm.map (fun e : Str × Row => e.1)).mem_iff.mpr hnt, fun hfew z H13 e13 hz => ?_, fun h6 H13 dd e13 hdd => ?_⟩
      · have hfew' : p.f.length + p.g.length < 6 := by
          have := hfew
          rw [show (⟨t, p.s, p.f, p.g⟩ : Pl).th.length = p.f.length + p.g.length from List.length_append] at this
          exact this
        have g13 := g12.same e13
        dsimp only [gName]
        try dsimp only [tRet, tLst, tCons, tNil]
        refine ⟨_, rfl, _, rfl, p2, [(p.f.length : Int), (p.g.length : Int)], rfl, SqL.of (e13 _ _ a212), _, _, rfl, rfl, _, rfl, ?_⟩
        refine ifT (decide_eq_true (by simp; omega)) ?_
        refine ⟨_, rfl, by show 2 ≤ sizeLine; decide, fun pz hpz => ?_⟩
        have e14 := same_new (o := .lst [z, .ref pd]) hpz
        refine q pz z (.ref pd) _ (g13.same e14) upd_same (.inr ⟨p.put k (p.team k ++ [nm]), t, ?_, ?_, ?_⟩)
        · have ck : k = 0 ∨ k = 1 := by omega
          rcases ck with rfl | rfl
          · exact pm
          · exact pm
        · have ck : k = 0 ∨ k = 1 := by omega
          rcases ck with rfl | rfl
          · exact hz.keep e14
          · exact hz.keep e14
        · have okm := ok.more (k := k) (x := nm) hnt (by rw [show p.th.length = p.f.length + p.g.length from List.length_append]; exact hfew')
          have e1314 := e13.trans e14
          rw [← Pl.put_more k2] at okm ⊢
          exact ⟨pd, d, v8, v9, rfl, e1314 _ _ apd12, hd12.keep e1314, hv82.keep e1314, hv92.keep e1314, okm⟩
      · have h6' : p.f.length + p.g.length = 6 := by
          have := h6
          rw [show (⟨t, p.s, p.f, p.g⟩ : Pl).th.length = p.f.length + p.g.length from List.length_append] at this
          exact this
        have e14 := same_new (o := .xd [(("limit" : Str), .int 6)]) hdd
        have g13 := g12.same (e13.trans e14)
        refine .inr ⟨rfl, dd, rfl, upd_same, ?_⟩
        dsimp only [gName]
        try dsimp only [tRet, tLst, tCons, tNil]
        refine ⟨_, rfl, _, rfl, p2, [(p.f.length : Int), (p.g.length : Int)], rfl, SqL.of ((e13.trans e14) _ _ a212), _, _, rfl, rfl, _, rfl, ?_⟩
        refine ifF (decide_eq_false (by simp; omega)) ?_
        refine ⟨by show 2 ≤ sizeLine; decide, fun pz hpz => ?_⟩
        have e15 := same_new (o := .lst [.str "many 6", .str "many 6"]) hpz
        exact q pz _ _ _ (g13.same e15) upd_same (.inl ⟨_, rfl, rfl⟩)
    · -- fewer
      try dsimp only [tNext]
      try dsimp only [tSeq, tAsg]
      refine ⟨_, rfl, _, rfl, p2, [(p.f.length : Int), (p.g.length : Int)], rfl, SqL.of a23, ?_⟩
      rw [show ([(p.f.length : Int), (p.g.length : Int)] : List Int).sum = ((p.th.length : Nat) : Int) by rw [show p.th.length = p.f.length + p.g.length from List.length_append]; simp]
      have lth : p.th.length = p.f.length + p.g.length := List.length_append
      have f1 := List.length_pos_iff.mpr ok.f
      refine ⟨l, _, rfl, g3.vat, by omega, by omega, fun c1 H4 c10 c11 k4 => ?_⟩
      obtain ⟨i, rfl⟩ := Int.eq_ofNat_of_zero_le c10
      have hi : i < p.th.length := by omega
      have g4 := g3.draw k4
      have a24 := k4.1 _ _ a23 n2
      dsimp only [gName]
      try dsimp only [tSeq, tAsg]
      have hsd : p.side i = if i < p.f.length then 0 else 1 := rfl
      have ix0 : ∀ {H' : Hp} {σ : L2.St}, σ[7]? = some (some (.ref p2)) → Same H4 H' → Ev (tOp (rIxL K) (tVar 7) (tC (V.int 0))) σ H' fun v _ => v = .int (p.f.length : Int) := fun hs e Q q => ⟨_, hs, p2, _, 0, _, rfl, rfl, SqL.of (e _ _ a24), atI_nat (j := 0) rfl, q _ _ (Same.refl _) rfl⟩
      dsimp only [tTup]
      rw [tCons]
      refine ev_side (i := i) (n := p.f.length) (ev_is rfl rfl) (fun H5 e5 => ix0 (by rfl) e5) _ fun v5 H5 e5 hv5 => ?_
      subst hv5
      rw [← hsd]
      refine ⟨_, rfl, ix0 (by rfl) e5 _ fun v6 H6 e6 hv6 => ?_⟩
      subst hv6
      have e46 := e5.trans e6
      refine ev_side (i := i) (n := p.f.length) (ev_is rfl rfl) (fun H7 e7 => ix0 (by rfl) (e46.trans e7)) _ fun v7 H7 e7 hv7 => ?_
      subst hv7
      rw [← hsd]
      have e47 := e46.trans e7
      have sl := p.side_lt i
      obtain ⟨spt, sm⟩ := Pl.spot_lt hi
      refine ⟨_, _, rfl, rfl, .inl ⟨by omega, by omega⟩, _, _, rfl, rfl, ?_⟩
      dsimp only [tNil]
      rw [show (i : Int) - (p.f.length : Int) * (p.side i : Int) = (p.spot i : Int) by unfold Pl.spot; rw [Int.natCast_sub sm, Int.natCast_mul, Int.mul_comm]]
      refine ⟨by show 2 ≤ sizeLine; decide, fun pt hpt => ?_⟩
      have e8 := same_new (o := .tup [.int (p.side i : Int), .int (p.spot i : Int)]) hpt
      have g8 := g4.same (e47.trans e8)
      have a28 := (e47.trans e8) _ _ a24
      have at8 : upd H7 pt (.tup [.int (p.side i : Int), .int (p.spot i : Int)]) pt = some (.tup [.int (p.side i : Int), .int (p.spot i : Int)]) := upd_same
      show (fun H' => _) (upd H7 pt (.tup [.int (p.side i : Int), .int (p.spot i : Int)]))
      generalize upd H7 pt (.tup [.int (p.side i : Int), .int (p.spot i : Int)]) = H8 at e8 g8 a28 at8
      refine ⟨pt, _, rfl, SqT.of at8, rfl, ?_⟩
      refine ⟨_, _, rfl, ?_⟩
      dsimp only [gName]
      refine ⟨_, _, rfl, ?_⟩
      dsimp only [gName]
      refine ⟨rfl, ?_⟩
      try dsimp only [tSeq, tAsg, tLst, tCons, tNil]
      refine ⟨_, rfl, a, _, 2, _, rfl, rfl, SqL.of (haN g8), atI_nat (j := 2) rfl, _, rfl, a, _, 3, _, rfl, rfl, SqL.of (haN g8), atI_nat (j := 3) rfl, ?_⟩
      refine ⟨by show 2 ≤ sizeLine; decide, fun pl hpl => ?_⟩
      have e9 := same_new (o := .lst [V.ref rx, .ref ry]) hpl
      have g9 := g8.same e9
      have a29 := e9 _ _ a28
      have apl : upd H8 pl (.lst [V.ref rx, .ref ry]) pl = some (.lst [V.ref rx, .ref ry]) := upd_same
      have npl : pl ≠ l := vat_ne g8.vat hpl
      have kk8 : KL l H H8 := ((KL.of hv (e1.trans e2)).trans (k3.trans k4)).trans (KL.of g4.vat (e47.trans e8))
      have plH : H pl = none := by
        cases e : H pl with
        | none => rfl
        | some o =>
          rw [kk8.1 _ _ e npl] at hpl
          cases hpl
      show (fun H' => _) (upd H8 pl (.lst [V.ref rx, .ref ry]))
      generalize upd H8 pl (.lst [V.ref rx, .ref ry]) = H9 at g9 a29 apl
      try dsimp only [gName]
      try dsimp only [tSeq, tAsg]
      have sc : p.side i = 0 ∨ p.side i = 1 := by omega
      have fewt : (p.team (p.side i)).length ≤ 6 := by
        unfold Pl.team
        split <;> omega
      have eT : ∀ {H' : Hp} {σ : L2.St}, σ[4]? = some (some (.ref pl)) → σ[9]? = some (some (.int (p.side i : Int))) → Same H9 H' → Ev (tOp (rIxL K) (tVar 4) (tVar 9)) σ H' fun v H1 => TeamV H1 v (p.team (p.side i)) := fun {H' σ} h4 h9 e Q q => by
        have g := g9.same e
        rcases sc with h | h
        · refine ⟨_, h4, _, h9, pl, _, _, .ref rx, rfl, rfl, SqL.of (e _ _ apl), atI_nat (j := p.side i) (by rw [h]; rfl), q _ _ (Same.refl _) ?_⟩
          rw [h]
          exact hx.kx hv g.kx
        · refine ⟨_, h4, _, h9, pl, _, _, .ref ry, rfl, rfl, SqL.of (e _ _ apl), atI_nat (j := p.side i) (by rw [h]; rfl), q _ _ (Same.refl _) ?_⟩
          rw [h]
          exact hy.kx hv g.kx
      refine ev_teamCat (K := K) (l := (p.team (p.side i)).take (p.spot i)) (m := (p.team (p.side i)).drop (p.spot i + 1)) (ev_teamHead (eT rfl rfl (Same.refl _)) (fun H3 _ => ev_is rfl rfl)) (fun H3 e3 => ev_teamTail (eT rfl rfl e3) (fun H4 _ Q q => ⟨_, rfl, _, _, rfl, rfl, q _ _ (Same.refl _) (by rw [Int.natCast_add]; rfl)⟩)) (by rw [List.length_take, List.length_drop]; omega) _ fun v10 H10 e10 hv10 => ?_
      have g10 := g9.same e10
      have apl10 := e10 _ _ apl
      have a210 := e10 _ _ a29
      refine ⟨_, rfl, _, rfl, pl, _, _, p.side i, rfl, rfl, apl10, ?_, ?_⟩
      · unfold L2.ixN
        rw [if_pos (by omega), if_pos (by show ((p.side i : Nat) : Int) < ((2 : Nat) : Int); omega), Int.toNat_natCast]
      have g11 := g10.mut (o := .lst (([V.ref rx, .ref ry] : List V).set (p.side i) v10)) plH apl10 npl
      have n2p : p2 ≠ pl := fun z => by
        rw [z, apl10] at a210
        cases a210
      have a211 : upd H10 pl (.lst (([V.ref rx, .ref ry] : List V).set (p.side i) v10)) p2 = some (.lst [.int (p.f.length : Int), .int (p.g.length : Int)]) := by rw [upd_ne n2p]; exact a210
      obtain ⟨w1, w2, hw, hw1, hw2⟩ : ∃ w1 w2, upd H10 pl (.lst (([V.ref rx, .ref ry] : List V).set (p.side i) v10)) pl = some (.lst [w1, w2]) ∧ TeamV (upd H10 pl (.lst (([V.ref rx, .ref ry] : List V).set (p.side i) v10))) w1 (p.less i).f ∧ TeamV (upd H10 pl (.lst (([V.ref rx, .ref ry] : List V).set (p.side i) v10))) w2 (p.less i).g := by
        unfold Pl.less Pl.put
        rcases sc with h | h
        · rw [if_pos h]
          exact ⟨v10, .ref ry, by rw [h]; exact upd_same, TeamV.mutL apl10 hv10, TeamV.mutL apl10 (hy.kx hv g10.kx)⟩
        · rw [if_neg (by omega)]
          exact ⟨.ref rx, v10, by rw [h]; exact upd_same, TeamV.mutL apl10 (hx.kx hv g10.kx), TeamV.mutL apl10 hv10⟩
      generalize upd H10 pl (.lst (([V.ref rx, .ref ry] : List V).set (p.side i) v10)) = H11 at g11 a211 hw hw1 hw2
      try dsimp only [tSeq, tAsg]
      refine ⟨g11.tabs, fun H12 e12 t12 => ?_⟩
      have g12 := g11.lam e12 t12
      have hp12 := hp.kx hv g12.kx
      have a212 := e12 _ _ a211 (fun _ z => by cases z)
      have hw12 := e12 _ _ hw (fun _ z => by cases z)
      have hw1' := hw1.kx g11.vat (KX.ext e12)
      have hw2' := hw2.kx g11.vat (KX.ext e12)
      have hd12 := hd.kx hv g12.kx
      obtain ⟨pa, dxp, _, _, _, _, _, rfl, hpa, _⟩ := id hp12
      refine ⟨_, rfl, pa, dxp, _, rfl, hpa, pf_no _ _ _ _, _, rfl, .ref pa, ⟨t, p.s, p.f, p.g⟩, i, rfl, hp12, hi, fun n1 z H13 e13 hz => ?_, fun n1 H13 e13 => ?_⟩
      · have n1' : (p.team (p.side i)).length ≠ 1 := n1
        have g13 := g12.same e13
        dsimp only [gName]
        try dsimp only [tRet, tLst, tCons, tNil]
        have lsz : ([.int (p.f.length : Int), .int (p.g.length : Int)] : List V)[p.side i]? = some (.int ((p.team (p.side i)).length : Int)) := by
          rcases sc with h | h
          · rw [h]
            rfl
          · rw [h]
            rfl
        refine ⟨_, rfl, _, rfl, _, rfl, p2, _, _, _, rfl, rfl, SqL.of (e13 _ _ a212), atI_nat (j := p.side i) lsz, _, _, rfl, rfl, _, rfl, ?_⟩
        refine ifT (decide_eq_true (by omega)) ?_
        refine ⟨_, rfl, 2, rfl, a, _, rfl, SqL.of (haN g13), fun ps hps => ⟨_, rfl, ?_⟩⟩
        rw [show cutV [V.ref d, V.int (p.s : Int), V.ref rx, V.ref ry] none (some 2) = [V.ref d, .int (p.s : Int)] from rfl]
        have e14 := same_new (o := .lst [V.ref d, .int (p.s : Int)]) hps
        refine ⟨ps, pl, _, _, rfl, rfl, upd_same, e14 _ _ (e13 _ _ hw12), by show 4 ≤ sizeLine; decide, fun pd hpd => ⟨by show 2 ≤ sizeLine; decide, fun pz hpz => ?_⟩⟩
        have e15 := same_new (o := .lst ([.ref d, .int (p.s : Int)] ++ [w1, w2])) hpd
        have e16 := same_new (o := .lst [z, .ref pd]) hpz
        have e1416 := e14.trans (e15.trans e16)
        have e1316 := e13.trans e1416
        obtain ⟨l1, l2⟩ := Pl.less_at (p := p) (t := t) (i := i)
        refine q pz z (.ref pd) _ (g13.same e1416) upd_same (.inr ⟨p.less i, t, by rw [l2]; exact pm, ?_, ?_⟩)
        · rw [← l1]
          exact hz.keep e1416
        · refine ⟨pd, d, w1, w2, rfl, ?_, by rw [l2]; exact hd12.keep e1316, hw1'.keep e1316, hw2'.keep e1316, ok.less hi n1'⟩
          refine e16 _ _ ?_
          have ss : (p.less i).s = p.s := by
            unfold Pl.less Pl.put
            split <;> rfl
          rw [ss]
          exact upd_same
      · have n1' : (p.team (p.side i)).length = 1 := n1
        refine .inl ⟨rfl, ?_⟩
        dsimp only [gName]
        try dsimp only [tRet, tLst, tCons, tNil]
        have lsz : ([.int (p.f.length : Int), .int (p.g.length : Int)] : List V)[p.side i]? = some (.int ((p.team (p.side i)).length : Int)) := by
          rcases sc with h | h
          · rw [h]
            rfl
          · rw [h]
            rfl
        refine ⟨_, rfl, _, rfl, _, rfl, p2, _, _, _, rfl, rfl, SqL.of (e13 _ _ a212), atI_nat (j := p.side i) lsz, _, _, rfl, rfl, _, rfl, ?_⟩
        refine ifF (decide_eq_false (by omega)) ?_
        refine ⟨by show 2 ≤ sizeLine; decide, fun pz hpz => ?_⟩
        have e15 := same_new (o := .lst [.str "operation", .str "operation"]) hpz
        exact q pz _ _ _ ((g12.same e13).same e15) upd_same (.inl ⟨_, rfl, rfl⟩)
end
end Tm

/-! names given anew, some of them; numbers that turn nothing. -/
namespace Tm
open PySem PySem.Spec PyProof.Rows L2 TmZ TmE TmD TmS
theorem inV_str (x : Str) (l : List Str) : inV (V.str x) (strV l) = decide (x ∈ l) := by
  unfold inV strV
  rw [List.any_map, Bool.eq_iff_iff, List.any_eq_true, decide_eq_true_eq]
  constructor
  · rintro ⟨y, hy, e⟩
    have e2 : (y == x) = true := e
    rw [← beq_iff_eq.mp e2]
    exact hy
  · intro hm
    exact ⟨x, hm, show (x == x) = true from beq_self_eq_true _⟩
theorem flat_strs : ∀ l : List Str, (strV l).all flatV = true
  | [] => rfl
  | y :: l => flat_strs l
theorem notInK {X : Cx} {K : PySem.W.Frag} (hK : X.K = K := by rfl) : OpR X (compareOp .NotIn) (rIn K true) := by subst hK; exact op_notIn_seq
/-! ### a zip of names -/
theorem zip_sub : ∀ {l ws : List Str}, ((l.zip ws).map (·.1)).Sublist l
  | [], _ => by simp
  | _ :: _, [] => by simp
  | x :: l, w :: ws => by
    rw [List.zip_cons_cons, List.map_cons]
    exact (zip_sub (l := l) (ws := ws)).cons₂ x
theorem zip_dictG {l ws : List Str} (nd : l.Nodup) : mergeK [] ((l.zip ws).map fun e => ((Sum.inr e.1 : L2.Key), V.str e.2)) = (l.zip ws).map fun e => ((Sum.inr e.1 : L2.Key), V.str e.2) := by
  refine mergeK_all ?_
  rw [List.map_map]
  have e : (l.zip ws).map ((fun kv : L2.Key × V => kv.1) ∘ fun e => ((Sum.inr e.1 : L2.Key), V.str e.2)) = ((l.zip ws).map (·.1)).map (Sum.inr : Str → L2.Key) := by
    rw [List.map_map]
    rfl
  rw [e]
  exact List.pairwise_map.mpr ((nd.sublist zip_sub).imp fun h e => h (Sum.inr.inj e))
theorem look_mm {ns : Nms} {x w : Str} (h : lookN ns x = some w) : (x, w) ∈ ns := by
  unfold lookN at h
  cases e : ns.find? fun e => decide (e.1 = x) with
  | none =>
    rw [e] at h
    cases h
  | some p =>
    rw [e] at h
    have h1 : p.2 = w := Option.some.inj h
    have h2 : p.1 = x := by simpa using List.find?_some e
    rw [← h1, ← h2]
    exact List.mem_of_find?_eq_some e
theorem look_none {ns : Nms} {x : Str} (h : lookN ns x = none) : x ∉ ns.map (·.1) := fun hm => by
  obtain ⟨p, hp, e⟩ := List.mem_map.mp hm
  unfold lookN at h
  rw [Option.map_eq_none_iff, List.find?_eq_none] at h
  have := h p hp
  simp [e] at this
theorem zip_inj : ∀ {l ws : List Str} {x y w : Str}, ws.Nodup → (x, w) ∈ l.zip ws → (y, w) ∈ l.zip ws → x = y
  | [], _, _, _, _, _, h, _ => by simp at h
  | _ :: _, [], _, _, _, _, h, _ => by simp at h
  | a :: l, b :: ws, x, y, w, nd, h, k => by
    rw [List.zip_cons_cons] at h k
    have nd' := List.nodup_cons.mp nd
    rcases List.mem_cons.mp h with h | h
    · rcases List.mem_cons.mp k with k | k
      · have e1 := congrArg Prod.fst h
        have e2 := congrArg Prod.fst k
        exact e1.trans e2.symm
      · have e1 : w = b := congrArg Prod.snd h
        rw [e1] at k
        exact absurd (List.of_mem_zip k).2 nd'.1
    · rcases List.mem_cons.mp k with k | k
      · have e1 : w = b := congrArg Prod.snd k
        rw [e1] at h
        exact absurd (List.of_mem_zip h).2 nd'.1
      · exact zip_inj nd'.2 h k
theorem ren_ndG {names ws fs : List Str} (nd : names.Nodup) (ndf : fs.Nodup) (hq : ∀ y ∈ names, y ∈ fs → y ∈ (ws.zip fs).map (·.1)) : (names.map (ren (ws.zip fs))).Nodup := by
  have inj : ∀ x ∈ names, ∀ y ∈ names, ren (ws.zip fs) x = ren (ws.zip fs) y → x = y := fun x hx y hy e => by
    unfold ren at e
    cases cx : lookN (ws.zip fs) x with
    | none =>
      cases cy : lookN (ws.zip fs) y with
      | none =>
        rw [cx, cy] at e
        exact e
      | some b =>
        rw [cx, cy] at e
        have e1 : x = b := e
        have hb := (List.of_mem_zip (look_mm cy)).2
        rw [← e1] at hb
        exact absurd (hq x hx hb) (look_none cx)
    | some a =>
      cases cy : lookN (ws.zip fs) y with
      | none =>
        rw [cx, cy] at e
        have e1 : a = y := e
        have hb := (List.of_mem_zip (look_mm cx)).2
        rw [e1] at hb
        exact absurd (hq y hy hb) (look_none cy)
      | some b =>
        rw [cx, cy] at e
        have e1 : a = b := e
        have h1 := look_mm cx
        rw [e1] at h1
        exact zip_inj ndf h1 (look_mm cy)
  exact List.pairwise_map.mpr (nd.imp_of_mem fun {a b} ha hb ne e => ne (inj a ha b hb e))
/-! ### numbers that turn nothing -/
theorem all_range (n : Nat) : AllN n (List.range n) := AllN.of (.refl _)
theorem turn_id {t : Tab} (ok : okTab t = true) : overT (backN (sizeT t) (List.range (sizeT t))) (gOfN (List.range (sizeT t))) t = t := by
  have h := all_range (sizeT t)
  have gd : ∀ {k : Nat}, k < sizeT t → (List.range (sizeT t)).getD k 0 = k := fun {k} hk => by
    rw [List.getD_eq_getElem?_getD, List.getElem?_range hk]
    rfl
  unfold overT
  conv => rhs; rw [← List.map_id t]
  refine List.map_congr_left fun e he => ?_
  have f := fine_of ok he
  show (e.1, overR _ _ e.2) = e
  have er : overR (backN (sizeT t) (List.range (sizeT t))) (gOfN (List.range (sizeT t))) e.2 = e.2 := by
    refine row_ext (by rw [over_len, h.back.len, f.len]) fun i hi => ?_
    rw [over_len, h.back.len] at hi
    obtain ⟨c, c1, c2, c3, _⟩ := h.pick f hi
    have ei : ixN (List.range (sizeT t)) i = i := by
      have := (h.ix hi)
      rw [gd this.2] at this
      exact this.1
    rw [ei] at c1 c3
    rw [c3, gd c2, ← c1]
  rw [er]
theorem ren_nil (t : Tab) : renT [] t = t := by
  unfold renT
  conv => rhs; rw [← List.map_id t]
  rfl
theorem newT_id {t : Tab} (ok : okTab t = true) (cs : Nms) : newT t cs (List.range (sizeT t)) = renT cs t := by
  unfold newT
  rw [turn_id ok]
theorem newT_nil (t : Tab) (ns : List Nat) : newT t [] ns = overT (backN (sizeT t) ns) (gOfN ns) t := ren_nil _
theorem nat_of : ∀ {xs : List V} {l : List Nat}, (∀ v ∈ xs, ∃ m ∈ l, v = V.int ((m : Nat) : Int)) → ∃ ns, xs = natV ns
  | [], _, _ => ⟨[], rfl⟩
  | v :: xs, l, h => by
    obtain ⟨m, _, rfl⟩ := h v List.mem_cons_self
    obtain ⟨ns, rfl⟩ := nat_of (xs := xs) fun u hu => h u (List.mem_cons_of_mem _ hu)
    exact ⟨m :: ns, rfl⟩
theorem perm_nat {l : List Nat} {ys : List V} (p : (natV l).Perm ys) : ∃ ns, ys = natV ns ∧ ns.Perm l := by
  obtain ⟨ns, rfl⟩ := nat_of (xs := ys) (l := l) fun v hv => by
    obtain ⟨m, hm, e⟩ := List.mem_map.mp (p.mem_iff.mpr hv)
    exact ⟨m, hm, e.symm⟩
  refine ⟨ns, rfl, ?_⟩
  have := p.map fun v : V => match v with | .int i => i.toNat | _ => 0
  unfold natV at this
  rw [List.map_map, List.map_map] at this
  have e : ∀ l : List Nat, l.map ((fun v : V => match v with | .int i => i.toNat | _ => 0) ∘ fun n : Nat => V.int (n : Int)) = l := fun l => by
    conv => rhs; rw [← List.map_id l]
    exact List.map_congr_left fun n _ => Int.toNat_natCast n
  rw [e, e] at this
  exact this.symm
theorem rgV_nat (a n : Nat) : rgV (a : Int) ((a + n : Nat) : Int) = natV ((List.range n).map fun i => a + i) := by
  unfold rgV natV
  rw [show (((a + n : Nat) : Int) - (a : Int)).toNat = n by omega, List.map_map]
  rfl
theorem rgV_nat0 (n : Nat) : rgV 0 (n : Int) = natV (List.range n) := by
  have := rgV_nat 0 n
  simp only [Nat.zero_add, List.map_id'] at this
  exact this
section
variable {K : PySem.W.Frag} {σ : L2.St} {H : Hp} {t1 t2 : TE} {E : XK}
theorem ev_numsS {l : Addr} {i n c : Nat} {Q : VK} (hi : σ[i]? = some (some (.ref l))) (hv : VatV H l) (h1 : Ev t1 σ H fun v _ => v = .int (n : Int)) (h2 : ∀ H1, Same H H1 → Ev t2 σ H1 fun v _ => v = .int (c : Int)) (hn : n ≤ c) (hc : c ≤ 100)
    (q : ∀ p H' ns, KL l H H' → TupD H' p ns → AllN n ns → Q (.ref p) H') :
    tCB (fun xs H Q => ∃ p ys, xs = [.ref p] ∧ SqL K H p ys ∧ ∀ (l : Addr) (o : Obj), o.dict = none → H l = none → Q (.ref l) (upd H l (.frz o (.tup ys)))) (tCons (tCall sp_someof [] E (tCons (tVar i) (tCons (tLstRg (tRg1 t1)) (tCons t2 tNil)))) tNil) σ H Q := by
  dsimp only [tCB, tCall, tCons, tNil]
  refine ⟨_, hi, h1 _ fun v H1 e1 ev => ⟨(n : Int), ev, RgOk.of_le (by omega) (by omega) (by omega) (by omega), fun a ha => ?_⟩⟩
  have hv1 := hv.keep e1
  have e2 : Same H1 (upd H1 a (.lst (rgV 0 (n : Int)))) := same_new ha
  have a2 : upd H1 a (.lst (rgV 0 (n : Int))) a = some (.lst (natV (List.range n))) := by rw [upd_same, rgV_nat0]
  have nal : a ≠ l := vat_ne hv1 ha
  generalize upd H1 a (.lst (rgV 0 (n : Int))) = H2 at e2 a2
  refine h2 H2 (e1.trans e2) _ fun u H3 e3 eu => ?_
  subst eu
  have hv3 := hv1.keep (e2.trans e3)
  refine ⟨l, a, c, natV (List.range n), rfl, hv3, e3 _ _ a2, nal, by omega, by rw [natV_len, List.length_range]; omega, fun p H4 ys zs hp npl k4 hp4 pm len => ?_⟩
  have lz := pm.length_eq
  rw [natV_len, List.length_range, Nat.min_eq_right hn] at len
  rw [natV_len, List.length_range, List.length_append] at lz
  have ez : zs = [] := List.eq_nil_of_length_eq_zero (by omega)
  subst ez
  rw [List.append_nil] at pm
  obtain ⟨ns, rfl, pn⟩ := perm_nat pm
  refine ⟨p, _, rfl, SqL.of hp4, fun r o ho hr => ?_⟩
  have k3 : KL l H H4 := (KL.of hv (e1.trans (e2.trans e3))).trans k4
  exact q r _ ns (k3.trans (KL.of k3.2 (same_new hr))) ⟨o, ho, upd_same⟩ (AllN.of pn)
end
theorem PlanV.okP {C CP : Addr} {H : Hp} {v : V} {p : Pl} (h : PlanV C CP H v p) : p.Ok ∧ okTab p.t = true ∧ (namesT p.t).Nodup := by
  obtain ⟨_, _, _, _, _, _, _, _, _, hk, _, _, _, _, ok⟩ := h
  exact ⟨ok, hk.ok.1, hk.ok.2.1⟩
theorem ren_nil_map (l : List Str) : l.map (ren []) = l := by
  conv => rhs; rw [← List.map_id l]
  rfl
end Tm

/-! _law_named_deed. -/
namespace Tm
open PySem PySem.Spec PyProof.Rows L2 LamX TmT TmZ TmE TmD TmS
local macro_rules | `(tactic| walk_at "x") => `(tactic| dsimp only [tNext, tRet, tSeq, tCall, tCB, tC, tCons, tNil, tAsg, tDrop, sFld])
section
variable {P : Program} {w : World} {K : PySem.W.Frag} {mg : Str → Option Value} {base : Heap} {C CP : Addr}
abbrev s_ndeed : Stmt := top 42
abbrev NN : List Str := ["_law_purse", "_law_plan", "_law_parts", "_law_some", "_law_fresh", "_law_change", "_law_due", "_law_part", "_law_size", "_law_names", "_law_numbers", "_law_name"]
theorem sc_law_named_deed : FnScope NN ["_law_purse", "_law_plan", "_law_parts"] (defScope s_ndeed) := ⟨rfl, rfl, rfl, by decide +kernel, rfl, by decide +kernel, by decide +kernel⟩
def freshQ : List Str := ["q", "new", "eightlet", "go"]
theorem paired_snocQ {α β : Type} {F : α → β → Prop} {xs : List α} {ys : List β} {x : α} {y : β} (h : Paired F xs ys) (k : F x y) : Paired F (xs ++ [x]) (ys ++ [y]) := by
  induction h with
  | nil => exact .cons k .nil
  | cons r _ ih => exact .cons r ih
theorem freshQ_ok : ∀ x ∈ freshQ, okName x = true := by decide +kernel
theorem freshQ_nd : freshQ.Nodup := by decide +kernel
def sp_ndeed (C CP : Addr) : Sp := fun vs H Q _ => ∃ (l : Addr) (v u : V) (q : Pl), vs = [.ref l, v, u] ∧ VatV H l ∧ LikeV C CP H v u q ∧ ∀ a told due H', KL l H H' → H' a = some (.lst [told, due]) → DueP C CP H' told due → Q (.ref a) H'
theorem ok_ndeed (B : Bt mg) (Bz : mg "zip" = none) (TP : Kp K CP) (O_law_coin : Ok P w K mg base "_law_coin" 1 ["_law_purse", "_law_total"] sp_draw) (O_law_pick : Ok P w K mg base "_law_pick" 2 ["_law_purse", "_law_items"] sp_pick) (O_law_some_of : Ok P w K mg base "_law_some_of" 2 ["_law_purse", "_law_items", "_law_size"] sp_someof)
    (O_law_turned_table : Ok P w K mg base "_law_turned_table" 1 ["_law_table", "_law_change", "_law_numbers"] sp_ttab) (OM_turned : OkM P w K mg base CP "turned" 9 ["self", "numbers"] (sp_pturn C CP)) (OM_renamed : OkM P w K mg base CP "renamed" 8 ["self", "names"] (sp_pren C CP))
    (D : Df K mg "_law_named_deed" s_ndeed ["_law_purse", "_law_plan", "_law_parts"]) : Ok P w K mg base "_law_named_deed" 10 ["_law_purse", "_law_plan", "_law_parts"] (sp_ndeed C CP) := by
  refine D.ok sc_law_named_deed (fun vs H Q E h => ?_) (fun f cdv A outer s H vs Q E hr h => ?_)
  · obtain ⟨l, v, u, q, rfl, _⟩ := h
    rfl
  · obtain ⟨l, v, u, p, rfl, hv, hl, q⟩ := h
    have hu := hu_of hr
    refine ⟨_, pss_cons (ps_asg (pe_tup (pa_cons (pe_callB (lenK (K := K)) (by rfl) B.len (by decide +kernel) (pa_cons (pe_dget hu (pe_ix (ixLK (K := K)) (pv 2) (pe_int) (fun _ _ => rfl)) (pe_ix (ixLK (K := K)) (pe_callB (call_sortedD rfl) (by rfl) B.sorted (by decide +kernel) (pa_cons (pe_ix (ixLK (K := K)) (pv 2) (pe_int) (fun _ _ => rfl)) (pa_nil))) (pe_int) (fun _ _ => rfl)) (fun _ _ => rfl)) (pa_nil))) (pa_cons (pe_callB (call_sortedD rfl) (by rfl) B.sorted (by decide +kernel) (pa_cons (pe_ix (ixLK (K := K)) (pv 2) (pe_int) (fun _ _ => rfl)) (pa_nil))) (pa_nil)))) (pg_tup (by rfl) (pgs_cons (pg_name (i := 8) sc_law_named_deed.nd rfl (.inl rfl)) (pgs_cons (pg_name (i := 9) sc_law_named_deed.nd rfl (.inr rfl)) (pgs_nil)))))
      (pss_cons (ps_if (pt_cmpR op_eq (O_law_coin.call hr (ha := pa_cons (pv 0) (pa_cons (pe_int) (pa_nil)))) (pe_int) (nomark _))
        (pss_cons (ps_set (i := 10) sc_law_named_deed.nd rfl (.inl rfl) (pe_callTy (cr_tupF (K := K)) (by rfl) B.tuple (by decide +kernel) (pa_cons (O_law_some_of.call hr (ha := pa_cons (pv 0) (pa_cons (pe_listRg rfl (by rfl) B.list (prg_1 (by rfl) B.range (pv 8))) (pa_cons (pv 8) (pa_nil))))) (pa_nil))))
      (pss_cons (ps_set (i := 6) sc_law_named_deed.nd rfl (.inl rfl) (pe_op op_cat (pe_lst (pa_cons (O_law_turned_table.call hr (ha := pa_cons (pe_ix (ixLK (K := K)) (pv 2) (pe_int) (fun _ _ => rfl)) (pa_cons (pe_dnewK) (pa_cons (pv 10) (pa_nil))))) (pa_cons (pe_ix (ixTK (K := K)) (pv 10) (pe_ix (ixLK (K := K)) (pv 2) (pe_int) (fun _ _ => rfl)) (fun _ _ => rfl)) (pa_nil)))) (pe_slice sl_list (pv 2) (po_some (pe_int)) (po_none))))
      (pss_one (ps_ret (pe_lst (pa_cons (OM_turned.call hr TP.cl (he := pv 1) (ha := pa_cons (pv 10) (pa_nil))) (pa_cons (pv 6) (pa_nil))))))))
        (pss_nil))
      (pss_cons (ps_set (i := 3) sc_law_named_deed.nd rfl (.inl rfl) (O_law_some_of.call hr (ha := pa_cons (pv 0) (pa_cons (pv 9) (pa_cons (O_law_coin.call hr (ha := pa_cons (pv 0) (pa_cons (pe_op op_add (pe_callB (lenK (K := K)) (by rfl) B.len (by decide +kernel) (pa_cons (pv 9) (pa_nil))) (pe_int)) (pa_nil)))) (pa_nil))))))
      (pss_cons (ps_setLc (i := 4) (own := [("_law_name", 11)]) (g := gName 11) (tt := _) rfl sc_law_named_deed.nd rfl rfl (sw_true rfl rfl rfl (by decide +kernel)) (piL (K := K) (pe_lst (pa_cons (pe_str) (pa_cons (pe_str) (pa_cons (pe_str) (pa_cons (pe_str) (pa_nil))))))) (blkOk_by (own := [("_law_name", 11)]) (N := NN) (sc := defScope s_ndeed) (by decide +kernel)) (fun _ _ _ _ _ => pg_name (i := 11) sc_law_named_deed.nd rfl (.inl rfl)) (fun _ _ _ _ _ => pts_one (pt_cmpR (notInK (K := K)) (pv 11) (pv 9) rfl)) (fun _ _ _ _ _ => pv 11))
      (pss_cons (ps_set (i := 5) sc_law_named_deed.nd rfl (.inr rfl) (pe_callTy (call_dictP rfl) (by rfl) B.dict (by decide +kernel) (pa_cons (pe_listZipL (K := K) (by rfl) B.list (by rfl) Bz (pa_cons (pv 3) (pa_cons (O_law_pick.call hr (ha := pa_cons (pv 0) (pa_cons (pe_lst (pa_cons (O_law_some_of.call hr (ha := pa_cons (pv 0) (pa_cons (pv 3) (pa_cons (pe_callB (lenK (K := K)) (by rfl) B.len (by decide +kernel) (pa_cons (pv 3) (pa_nil))) (pa_nil))))) (pa_cons (pv 4) (pa_nil)))) (pa_nil)))) (pa_nil)))) (pa_nil))))
      (pss_cons (ps_set (i := 6) sc_law_named_deed.nd rfl (.inl rfl) (pe_lst (pa_cons (O_law_turned_table.call hr (ha := pa_cons (pe_ix (ixLK (K := K)) (pv 2) (pe_int) (fun _ _ => rfl)) (pa_cons (pv 5) (pa_cons (pe_tupRg rfl (by rfl) B.tuple (prg_1 (by rfl) B.range (pv 8))) (pa_nil))))) (pa_cons (pe_ix (ixLK (K := K)) (pv 2) (pe_int) (fun _ _ => rfl)) (pa_nil)))))
      (pss_cons (ps_for PassesOwn.never rfl (piL (K := K) (pe_slice sl_list (pv 2) (po_some (pe_int)) (po_none))) (pg_name (i := 7) sc_law_named_deed.nd rfl (.inl rfl))
        (pss_one (ps_expr (pe_bm PySem.F.plainAttrs_list PySem.F.slot_list_append PySem.F.type_list_append mt_append (pv 6) (pa_cons (pe_callTy (tupleK (K := K)) (by rfl) B.tuple (by decide +kernel) (pa_cons (pe_lc (own := [("_law_name", 11)]) (g := gName 11) (tt := tYes) rfl sc_law_named_deed.nd (piT (K := K) (pv 7)) (blkOk_by (own := [("_law_name", 11)]) (N := NN) (sc := defScope s_ndeed) (by decide +kernel)) (fun _ _ _ _ _ => pg_name (i := 11) sc_law_named_deed.nd rfl (.inl rfl)) (fun _ _ _ _ _ => pts_nil) (fun _ _ _ _ _ => pe_dget2 hu (pv 5) (pv 11) (pv 11) ⟨rfl, rfl, rfl, rfl⟩)) (pa_nil))) (pa_nil))))))
      (pss_one (ps_ret (pe_lst (pa_cons (OM_renamed.call hr TP.cl (he := pv 1) (ha := pa_cons (pv 5) (pa_nil))) (pa_cons (pv 6) (pa_nil)))))))))))), ?_⟩
    obtain ⟨t, pm, hp, hu2⟩ := id hl
    obtain ⟨a, d, x, y, rfl, ha, hd, hx', hy, ok⟩ := id hu2
    obtain ⟨okt, ndt⟩ := hd.ok
    have ft := ok_facts okt
    obtain ⟨_, kvs, ee, hdd, ht, _, _⟩ := id hd
    cases ee
    have few : p.f.length + p.g.length ≤ 6 := ok.few
    have ln : (namesT p.t).length = p.t.length := List.length_map _
    obtain ⟨rx, rfl, hrx⟩ := id hx'
    obtain ⟨ry, rfl, hry⟩ := id hy
    have haN : ∀ {H' : Hp}, KL l H H' → H' a = some (.lst [.ref d, .int (p.s : Int), .ref rx, .ref ry]) := fun g => (KX.kl g).at_ hv ha (fun _ _ _ z => by cases z) fun _ z => by cases z
    dsimp only [tSeq, tAsg, tTup, tCons, tNil]
    refine ⟨_, rfl, a, _, 0, _, rfl, rfl, SqL.of ha, atI_nat (j := 0) rfl, _, rfl, a, _, 0, _, rfl, rfl, SqL.of ha, atI_nat (j := 0) rfl, d, kvs, namesT p.t, rfl, .inl hdd, tabV_keys ht, by omega, fun ys p3 py sy hp3 => ?_⟩
    have e3 := same_new (o := .lst (ys.map V.str)) hp3
    have a3 : upd H p3 (.lst (ys.map V.str)) p3 = some (.lst (ys.map V.str)) := upd_same
    generalize upd H p3 (.lst (ys.map V.str)) = H3 at e3 a3
    have lys : ys.length = p.t.length := by rw [py.length_eq, ln]
    have hy0 : 0 < ys.length := by omega
    have hm0 : ys[0] ∈ namesT p.t := py.mem_iff.mp (List.getElem_mem hy0)
    obtain ⟨rv, hrv, hrow⟩ := tab_look (ht.mono (tups_of e3)) ndt (row_in hm0)
    obtain ⟨b, rs, rfl, hb, hrs⟩ := id hrow
    have hg := DGet.k (k := (Sum.inr ys[0] : L2.Key)) (e3 _ _ hdd)
    rw [hrv] at hg
    refine ⟨p3, ys.map V.str, 0, .str ys[0], rfl, rfl, SqL.of a3, atI_nat (j := 0) (by rw [List.getElem?_map, List.getElem?_eq_getElem hy0]; rfl), d, _, rfl, hg, b, rs, rfl, .inr (SqT.of hb), ?_⟩
    have lrs : rs.length = sizeT p.t := by rw [Paired.length hrs]; exact (fine_of okt (row_in hm0)).len
    rw [lrs]
    have k3 : KL l H H3 := KL.of hv e3
    refine ⟨_, rfl, a, _, 0, _, rfl, rfl, SqL.of (haN k3), atI_nat (j := 0) rfl, d, kvs, namesT p.t, rfl, .inl (e3 _ _ hdd), tabV_keys ht, by omega, fun ns p4 pn _ hp4 => ⟨by show 2 ≤ sizeLine; decide, fun p5 hp5 => ?_⟩⟩
    have e4 := same_new (o := .lst (ns.map V.str)) hp4
    have a4 : upd H3 p4 (.lst (ns.map V.str)) p4 = some (.lst (ns.map V.str)) := upd_same
    have n4 : p4 ≠ l := vat_ne k3.2 hp4
    generalize upd H3 p4 (.lst (ns.map V.str)) = H4 at e4 a4 hp5
    have e5 := same_new (o := .tup [.int ((sizeT p.t : Nat) : Int), .ref p4]) hp5
    have a5 : upd H4 p5 (.tup [.int ((sizeT p.t : Nat) : Int), .ref p4]) p5 = some (.tup [.int ((sizeT p.t : Nat) : Int), .ref p4]) := upd_same
    show (fun H' => _) (upd H4 p5 (.tup [.int ((sizeT p.t : Nat) : Int), .ref p4]))
    generalize upd H4 p5 (.tup [.int ((sizeT p.t : Nat) : Int), .ref p4]) = H5 at e5 a5
    refine ⟨p5, _, rfl, SqT.of a5, rfl, _, _, rfl, ?_⟩
    dsimp only [gName]
    refine ⟨_, _, rfl, ?_⟩
    dsimp only [gName]
    refine ⟨rfl, ?_⟩
    have k5 : KL l H H5 := KL.of hv (e3.trans (e4.trans e5))
    have a45 := e5 _ _ a4
    have lns : ns.length = p.t.length := by rw [pn.length_eq, ln]
    have ndn : ns.Nodup := pn.symm.nodup ndt
    try dsimp only [tSeq]
    refine ⟨_, rfl, l, 2, rfl, k5.2, by omega, by omega, fun c0 H6 c00 c01 k56 => ?_⟩
    have k6 := k5.trans k56
    have a46 := k56.1 _ _ a45 n4
    refine ⟨rfl, _, rfl, ite2 (fun w1 => ?_) (fun w1 => ?_)⟩
    · -- turned
      try dsimp only [tSeq, tAsg]
      refine ev_numsS (l := l) (n := sizeT p.t) (c := sizeT p.t) rfl k6.2 (ev_is rfl rfl) (fun _ _ => ev_is rfl rfl) (Nat.le_refl _) (by omega) fun pn7 H7 nm k67 htd an => ?_
      have k7 := k6.trans k67
      have szt : sizeT t = sizeT p.t := size_perm okt pm
      have lsn : p.s < nm.length := by rw [an.len]; exact ok.s
      dsimp only [gName]
      try dsimp only [tSeq, tAsg, tLst, tCons, tNil]
      refine ⟨_, rfl, a, _, 0, _, rfl, rfl, SqL.of (haN k7), atI_nat (j := 0) rfl, fun pe hpe => ⟨_, rfl, ?_⟩⟩
      have e8 := same_new (o := .dK []) hpe
      have hd7 := hd.kx hv (KX.kl k7)
      have npe : pe ≠ d := fun z => by
        obtain ⟨_, _, e, h, _⟩ := id hd7
        cases e
        rw [z, h] at hpe
        cases hpe
      have htd8 := htd.keep e8
      refine ⟨d, pe, pn7, p.t, [], nm, rfl, hd7.keep e8, ⟨[], upd_same, .nil⟩, npe, htd8.rd, an, by rw [newT_nil]; exact (an.okT okt).1, by rw [ren_nil_map]; exact ndt, fun d2 H9 e9 new9 hd9 => ?_⟩
      have k9 := k7.trans (KL.of k7.2 (e8.trans e9))
      have htd9 := htd8.keep e9
      refine ⟨_, rfl, _, rfl, a, _, 1, _, rfl, rfl, SqL.of (haN k9), atI_nat (j := 1) rfl, pn7, natV nm, _, _, rfl, rfl, .inl htd9.rd, atI_nat (natV_at lsn), ?_⟩
      refine ⟨by show 2 ≤ sizeLine; decide, fun pl hpl => ?_⟩
      have e10 := same_new (o := .lst [V.ref d2, .int ((nm.getD p.s 0 : Nat) : Int)]) hpl
      have k10 := k9.trans (KL.of k9.2 e10)
      refine ⟨_, rfl, 2, rfl, a, _, rfl, SqL.of (haN k10), fun ps hps => ?_⟩
      rw [show cutV [V.ref d, V.int (p.s : Int), V.ref rx, V.ref ry] (some 2) none = [V.ref rx, .ref ry] from rfl]
      have e11 := same_new (o := .lst [V.ref rx, .ref ry]) hps
      refine ⟨pl, ps, _, _, rfl, rfl, e11 _ _ upd_same, upd_same, by show 4 ≤ sizeLine; decide, fun pd hpd => ?_⟩
      have e12 := same_new (o := .lst ([V.ref d2, .int ((nm.getD p.s 0 : Nat) : Int)] ++ [V.ref rx, .ref ry])) hpd
      have e1012 := e10.trans (e11.trans e12)
      have k12 := k9.trans (KL.of k9.2 e1012)
      have apd : upd (upd (upd H9 pl (.lst [V.ref d2, .int ((nm.getD p.s 0 : Nat) : Int)])) ps (.lst [V.ref rx, .ref ry])) pd (.lst ([V.ref d2, .int ((nm.getD p.s 0 : Nat) : Int)] ++ [V.ref rx, .ref ry])) pd = some (.lst [.ref d2, .int ((nm.getD p.s 0 : Nat) : Int), .ref rx, .ref ry]) := upd_same
      have hd12 := hd9.keep e1012
      have htd12 := htd9.keep e1012
      generalize upd (upd (upd H9 pl (.lst [V.ref d2, .int ((nm.getD p.s 0 : Nat) : Int)])) ps (.lst [V.ref rx, .ref ry])) pd (.lst ([V.ref d2, .int ((nm.getD p.s 0 : Nat) : Int)] ++ [V.ref rx, .ref ry])) = H12 at k12 apd hd12 htd12
      have hp12 := hp.kx hv (KX.kl k12)
      obtain ⟨pa, dxp, _, _, _, _, _, rfl, hpa, _⟩ := id hp12
      have okt1 := hp12.okP.2.1
      have an1 : AllN (sizeT t) nm := by rw [szt]; exact an
      dsimp only [gName]
      try dsimp only [tRet, tLst, tCons, tNil]
      refine ⟨_, rfl, pa, dxp, _, rfl, hpa, pf_no _ _ _ _, _, rfl, .ref pa, ⟨t, p.s, p.f, p.g⟩, pn7, nm, backN (sizeT t) nm, rfl, hp12, htd12, an1.turn okt1, (an1.okT okt1).1, (an1.okT okt1).2, fun z H13 t' e13 pm' hz => ?_⟩
      refine ⟨_, rfl, by show 2 ≤ sizeLine; decide, fun pz hpz => ?_⟩
      have e14 := same_new (o := .lst [z, .ref pd]) hpz
      have e1314 := e13.trans e14
      have pmn : t'.Perm (newT p.t [] nm) := by
        rw [newT_nil, ← szt]
        exact pm'.trans (pm.map _)
      obtain ⟨okz, oktz, _⟩ := hz.okP
      exact q pz z (.ref pd) _ (k12.trans (KL.of k12.2 e1314)) upd_same (.inr ⟨⟨newT p.t [] nm, nm.getD p.s 0, p.f, p.g⟩, t', pmn, hz.keep e14, pd, d2, .ref rx, .ref ry, rfl, e1314 _ _ apd, hd12.keep e1314, (hx'.kx hv (KX.kl k12)).keep e1314, (hy.kx hv (KX.kl k12)).keep e1314, Pl.Ok.perm okz oktz pmn.symm⟩)
    · try dsimp only [tNext]
      try dsimp only [tSeq, tAsg]
      have lnm : (ns.map V.str).length = ns.length := List.length_map _
      refine ⟨_, rfl, _, rfl, _, rfl, _, rfl, p4, _, rfl, .inl (SqL.of a46), _, _, rfl, rfl, l, _, rfl, k6.2, by omega, by omega, fun c1 H7 c10 c11 k67 => ?_⟩
      obtain ⟨cn, rfl⟩ := Int.eq_ofNat_of_zero_le c10
      have k7 := k6.trans k67
      have a47 := k67.1 _ _ a46 n4
      refine ⟨l, p4, cn, ns.map V.str, rfl, k7.2, a47, n4, by omega, by omega, fun p8 H8 xs8 zs8 hp8 n8 k78 a8 pm8 len8 => ?_⟩
      obtain ⟨ws, rfl, ndw, mw⟩ := strs_of pm8 ndn
      have lw : ws.length ≤ 6 := by
        rw [List.length_map] at len8
        omega
      have mwt : ∀ x ∈ ws, x ∈ namesT p.t := fun x hx => pn.mem_iff.mp (mw x hx)
      have k8 := k7.trans k78
      have a48 := k78.1 _ _ a47 n4
      clear pm8 len8 hp8
      dsimp only [gName]
      try dsimp only [tSeq, tAsg]
      refine lc_runL (K := K) (xs := freshQ.map V.str) (fun Q q => ⟨by show 4 ≤ sizeLine; decide, fun p9 hp9 => q _ _ (same_new hp9) ⟨p9, rfl, SqL.of upd_same⟩⟩) freshQ rfl (fun x => !decide (x ∈ ns)) (fun z v _ => v = V.str z) (by decide) (by intro _; rfl) (fun _ _ _ _ _ h => h)
        (fun i z x H9 hz hx9 e9 => ⟨fun Q q => ?_, fun _ H10 e10 => ?_⟩) (fun p9 H9 ys9 hp9 e9 a9 hP => ?_)
      · have ex : x = .str z := by
          rw [List.getElem?_map, hz] at hx9
          exact (Option.some.inj hx9).symm
        subst ex
        refine ⟨_, rfl, _, rfl, p4, strV ns, rfl, .inl (SqL.of (e9 _ _ a48)), rfl, flat_strs ns, _, rfl, ?_⟩
        rw [inV_str]
        exact q _ (Same.refl _)
      · have ex : x = .str z := by
          rw [List.getElem?_map, hz] at hx9
          exact (Option.some.inj hx9).symm
        subst ex
        exact ev_is rfl rfl
      rw [paired_fun hP] at a9
      have n9 : p9 ≠ l := vat_ne k8.2 hp9
      have k9 := k8.trans (KL.of k8.2 e9)
      have a89 := e9 _ _ a8
      dsimp only [gName]
      try dsimp only [tSeq, tAsg, tCB, tCons, tNil, tListZipL, tLst]
      have lwm : (ws.map V.str).length = ws.length := List.length_map _
      refine ⟨_, rfl, _, rfl, _, rfl, _, rfl, _, rfl, p8, _, rfl, .inl (SqL.of a89), l, p8, ws.length, ws.map V.str, by rw [lwm]; rfl, k9.2, a89, n8, by omega, by omega, fun p10 H10 xs10 zs10 hp10 n10 k910 a10 pm10 len10 => ?_⟩
      obtain ⟨us, rfl, ndus, mus⟩ := strs_of pm10 ndw
      have lus : us.length = ws.length := by
        rw [List.length_map, List.length_map] at len10
        omega
      have k10 := k9.trans k910
      have a99 := k910.1 _ _ a9 n9
      have a810 := k910.1 _ _ a89 n8
      refine ⟨_, rfl, by show 2 ≤ sizeLine; decide, fun p11 hp11 => ?_⟩
      have e11 := same_new (o := .lst [V.ref p10, .ref p9]) hp11
      have n11 : p11 ≠ l := vat_ne k10.2 hp11
      refine ⟨l, p11, [V.ref p10, .ref p9], rfl, k10.2.keep e11, upd_same, n11, by show 0 < 2; decide, by show 2 ≤ 1000; decide, fun v12 H12 hm12 k1112 => ?_⟩
      have k12 := (k10.trans (KL.of k10.2 e11)).trans k1112
      have a812 := k1112.1 _ _ (e11 _ _ a810) n8
      obtain ⟨q12, fs, rfl, a12, ndfs, okfs, hq⟩ : ∃ q12 fs, v12 = .ref q12 ∧ H12 q12 = some (.lst (strV fs)) ∧ fs.Nodup ∧ (∀ x ∈ fs, okName x = true) ∧ ∀ y ∈ namesT p.t, y ∈ fs → y ∈ (ws.zip fs).map (·.1) := by
        simp only [List.mem_cons, List.not_mem_nil, or_false] at hm12
        rcases hm12 with rfl | rfl
        · refine ⟨p10, us, rfl, k1112.1 _ _ (e11 _ _ a10) n10, ndus, fun x hx => ?_, fun y _ hy => ?_⟩
          · obtain ⟨e, he, ee⟩ := List.mem_map.mp (mwt x (mus x hx))
            rw [← ee]
            exact ft.2.2.2.2 e he
          · rw [zip_keys (by omega)]
            exact mus y hy
        · refine ⟨p9, _, rfl, k1112.1 _ _ (e11 _ _ a99) n9, freshQ_nd.sublist List.filter_sublist, fun x hx => freshQ_ok x (List.mem_filter.mp hx).1, fun y hy hf => ?_⟩
          have h1 := (List.mem_filter.mp hf).2
          have h2 := pn.mem_iff.mpr hy
          rw [decide_eq_true h2] at h1
          cases h1
      clear hm12 pm10 len10
      have k13 := k12
      refine ⟨p8, q12, _, _, rfl, SqL.of a812, SqL.of a12, fun H13 pz ts e13 new13 _ hz13 hpair => ?_⟩
      have e13 : Same H12 H13 := e13
      refine ⟨pz, ts, _, rfl, SqL.of hz13, zip_prs hpair, fun pd hpd => ?_⟩
      rw [zip_dictG ndw]
      have e14 := same_new (o := .dK ((ws.zip fs).map fun e => ((Sum.inr e.1 : L2.Key), V.str e.2))) hpd
      have hch : NmV (upd H13 pd (.dK ((ws.zip fs).map fun e => ((Sum.inr e.1 : L2.Key), V.str e.2)))) pd (ws.zip fs) := ⟨_, upd_same, zip_nms⟩
      have good : ∀ e ∈ ws.zip fs, e.1 ∈ namesT p.t ∧ okName e.2 = true := fun e he => ⟨mwt _ (List.of_mem_zip he).1, okfs _ (List.of_mem_zip he).2⟩
      have ndk : ((ws.zip fs).map (·.1)).Nodup := ndw.sublist zip_sub
      have fewn : (ws.zip fs).length ≤ 100 := by rw [List.length_zip]; omega
      have ndr : ((namesT p.t).map (ren (ws.zip fs))).Nodup := ren_ndG ndt ndfs hq
      have k14 := k12.trans (KL.of k12.2 (e13.trans e14))
      have npd : pd ≠ d := fun z => by
        have := (KX.kl (k12.trans (KL.of k12.2 e13))).at_ hv hdd (fun _ _ _ z => by cases z) fun _ z => by cases z
        rw [z, this] at hpd
        cases hpd
      generalize upd H13 pd (.dK ((ws.zip fs).map fun e => ((Sum.inr e.1 : L2.Key), V.str e.2))) = H14 at hch k14
      generalize ws.zip fs = cs at hch good ndk fewn ndr
      clear hpair hz13 new13 e13 e14 a812 a12 k1112 e11 a810 a99 k910 a10 a9 a89 e9 a48 a8 a47
      dsimp only [gName]
      try dsimp only [tSeq, tAsg, tLst, tCons, tNil]
      have hd14 := hd.kx hv (KX.kl k14)
      refine ⟨_, rfl, a, _, 0, _, rfl, rfl, SqL.of (haN k14), atI_nat (j := 0) rfl, _, rfl, _, rfl, (sizeT p.t : Int), rfl, RgOk.of_le (by omega) (by omega) (by omega) (by omega), fun pr hpr => ?_⟩
      have e15 := same_new (o := .tup (rgV 0 (sizeT p.t : Int))) hpr
      have apr : upd H14 pr (.tup (rgV 0 (sizeT p.t : Int))) pr = some (.tup (natV (List.range (sizeT p.t)))) := by rw [upd_same, rgV_nat0]
      have rn := renG_okT okt (fun e he => (good e he).2) ndr
      refine ⟨d, pd, pr, p.t, cs, List.range (sizeT p.t), rfl, hd14.keep e15, hch.keep e15, npd, .inl apr, all_range _, by rw [newT_id okt]; exact rn.1, ndr, fun d2 H16 e16 new16 hd16 => ?_⟩
      rw [newT_id okt] at hd16
      have e1416 := e15.trans e16
      have k16 := k14.trans (KL.of k14.2 e1416)
      have hch16 := hch.keep e1416
      refine ⟨_, rfl, a, _, 1, _, rfl, rfl, SqL.of (haN k16), atI_nat (j := 1) rfl, by show 2 ≤ sizeLine; decide, fun pu hpu => ?_⟩
      have e17 := same_new (o := .lst [V.ref d2, .int (p.s : Int)]) hpu
      have apu : upd H16 pu (.lst [V.ref d2, .int (p.s : Int)]) pu = some (.lst [V.ref d2, .int (p.s : Int)]) := upd_same
      have npu : pu ≠ l := vat_ne k16.2 hpu
      have puH : H pu = none := by
        cases e : H pu with
        | none => rfl
        | some o =>
          rw [k16.1 _ _ e npu] at hpu
          cases hpu
      have k17 := k16.trans (KL.of k16.2 e17)
      have hch17 := hch16.keep e17
      have hd17 := hd16.keep e17
      generalize upd H16 pu (.lst [V.ref d2, .int (p.s : Int)]) = H17 at apu k17 hch17 hd17
      clear e16 e15 e1416 hch16 hd16 apr hpr hpu new16
      dsimp only [gName]
      try dsimp only [tSeq, tAsg]
      refine ⟨_, rfl, 2, rfl, a, _, rfl, SqL.of (haN k17), fun ps hps => ?_⟩
      rw [show cutV [V.ref d, V.int (p.s : Int), V.ref rx, V.ref ry] (some 2) none = [V.ref rx, .ref ry] from rfl]
      have e18 := same_new (o := .lst [V.ref rx, .ref ry]) hps
      have aps : upd H17 ps (.lst [V.ref rx, .ref ry]) ps = some (.lst [V.ref rx, .ref ry]) := upd_same
      have apu18 := e18 _ _ apu
      have k18 := k17.trans (KL.of k17.2 e18)
      have hch18 := hch17.keep e18
      have hd18 := hd17.keep e18
      have nsu : ps ≠ pu := fun z => by
        rw [z, apu] at hps
        cases hps
      generalize upd H17 ps (.lst [V.ref rx, .ref ry]) = H18 at aps apu18 k18 hch18 hd18
      refine ⟨ps, rfl, ⟨_, SqL.of aps⟩, ?_⟩
      refine for_list (K := K) (xs := [V.ref rx, .ref ry]) (fun j σ3 H3 => ∃ (o7 o11 : Option V) (vs : List V), σ3 = [some (.ref l), some v, some (.ref a), some (.ref p8), some (.ref p9), some (.ref pd), some (.ref pu), o7, some (.int (sizeT p.t : Int)), some (.ref p4), none, o11] ∧ (∀ b o, H18 b = some o → b ≠ pu → H3 b = some o) ∧ KL l H H3 ∧ H3 pu = some (.lst ([V.ref d2, .int (p.s : Int)] ++ vs)) ∧ Paired (fun v f => TeamV H3 v (f.map (ren cs))) vs ([p.f, p.g].take j))
        ⟨_, _, [], rfl, fun b o h _ => h, k18, apu18, .nil⟩ (fun j σ3 H3 _ pv => by obtain ⟨_, _, _, _, e, _⟩ := pv; exact SqL.of (e _ _ aps nsu)) (fun j x σ3 H3 hx pv => ?_) (fun σ3 H3 pv => ?_)
      · obtain ⟨o7, o11, vs, rfl, kb, kl, hpu3, hP⟩ := pv
        obtain ⟨fj, hfj, hxj, l6⟩ : ∃ fj, [p.f, p.g][j]? = some fj ∧ TeamV H3 x fj ∧ fj.length ≤ 6 := by
          match j, hx with
          | 0, hx =>
            cases hx
            exact ⟨p.f, rfl, hx'.kx hv (KX.kl kl), by omega⟩
          | 1, hx =>
            cases hx
            exact ⟨p.g, rfl, hy.kx hv (KX.kl kl), by omega⟩
          | j + 2, hx => nomatch hx
        obtain ⟨r, rfl, hr0⟩ := id hxj
        obtain ⟨kvn, hdn, hpn⟩ := id hch18
        have npp : pd ≠ pu := fun z => by
          rw [z, apu18] at hdn
          cases hdn
        have hdn3 := kb _ _ hdn npp
        dsimp only [gName]
        refine ⟨_, rfl, .inl ⟨rfl, _, SqL.of hpu3⟩, ?_⟩
        dsimp only [tCB, tCons, tNil]
        refine lc_runT (K := K) (xs := strV fj) (ev_is rfl ⟨r, rfl, .inl hr0⟩) fj (by unfold strV; rw [List.length_map]) (fun _ => true) (fun z v _ => v = V.str (ren cs z)) (by omega) (by intro _; rfl) (fun _ _ _ _ _ h => h)
          (fun i z y H4 hi hy4 e4 => ⟨evt_yes, fun _ H5 e5 Q q => ?_⟩) (fun p5 H5 ys hp5 e5 hl' hP' => ?_)
        · have hz : y = .str z := by
            unfold strV at hy4
            rw [List.getElem?_map, hi] at hy4
            exact (Option.some.inj hy4).symm
          subst hz
          have hdn5 := (e4.trans e5) _ _ hdn3
          refine ⟨_, rfl, pd, rfl, .inl ⟨_, .inl hdn5⟩, _, rfl, _, rfl, _, DGet.k (k := Sum.inr z) hdn5, q _ _ (Same.refl _) ?_⟩
          rw [look_nm _ hpn]
          unfold ren
          cases lookN cs z <;> rfl
        · rw [filter_all] at hP'
          have ey : ys = strV (fj.map (ren cs)) := by
            rw [paired_fun hP']
            unfold strV
            rw [List.map_map]
            rfl
          subst ey
          refine ⟨p5, _, rfl, .inl ⟨SqL.of hl', fun r2 hr2 => ?_⟩⟩
          have e6 := same_new (o := .tup (strV (fj.map (ren cs)))) hr2
          have ar2 : upd H5 r2 (.tup (strV (fj.map (ren cs)))) r2 = some (.tup (strV (fj.map (ren cs)))) := upd_same
          have e36 := e5.trans e6
          have hpu6 := e36 _ _ hpu3
          have hP6 := Paired.mapP hP fun _ _ h => TeamV.keep h e36
          have kl6 := kl.trans (KL.of kl.2 e36)
          generalize upd H5 r2 (.tup (strV (fj.map (ren cs)))) = H6 at ar2 e36 hpu6 hP6 kl6
          have lvs : vs.length ≤ 2 := by
            rw [Paired.length hP, List.length_take]
            show min j 2 ≤ 2
            omega
          refine ⟨pu, _, .ref r2, rfl, rfl, hpu6, sz_lt (by rw [List.length_append]; show 2 + vs.length < _; omega), ?_⟩
          refine ⟨_, _, vs ++ [.ref r2], rfl, fun b o hb nb => ?_, ⟨fun b o hb nb => ?_, kl6.2.keepU npu⟩, by rw [upd_same, List.append_assoc], ?_⟩
          · rw [upd_ne nb]
            exact e36 _ _ (kb b o hb nb)
          · rw [upd_ne (fun z => by rw [z, puH] at hb; cases hb)]
            exact kl6.1 b o hb nb
          · have et : [p.f, p.g].take (j + 1) = [p.f, p.g].take j ++ [fj] := by
              rw [List.take_add_one, hfj]
              rfl
            rw [et]
            refine paired_snocQ (Paired.mapP hP6 fun _ _ h => TeamV.mutL hpu6 h) (TeamV.mutL hpu6 ⟨r2, rfl, .inl ar2⟩)
      · obtain ⟨o7, o11, vs, rfl, kb, kl, hpu3, hP⟩ := pv
        obtain ⟨w1, w2, rfl, hw1, hw2⟩ : ∃ w1 w2, vs = [w1, w2] ∧ TeamV H3 w1 (p.f.map (ren cs)) ∧ TeamV H3 w2 (p.g.map (ren cs)) := by
          have hP2 : Paired (fun v f => TeamV H3 v (f.map (ren cs))) vs [p.f, p.g] := hP
          cases hP2 with
          | cons h t =>
            cases t with
            | cons h' t =>
              cases t
              exact ⟨_, _, rfl, h, h'⟩
        have hp3 := hp.kx hv (KX.kl kl)
        obtain ⟨kvn, hdn, hpn⟩ := id hch18
        have npp : pd ≠ pu := fun z => by
          rw [z, apu18] at hdn
          cases hdn
        have hch3 : NmV H3 pd cs := ⟨kvn, kb _ _ hdn npp, hpn⟩
        have hd3 : DictV H3 (.ref d2) (renT cs p.t) := by
          obtain ⟨_, kv2, e2, h2, t2, nd2, ok2⟩ := id hd18
          cases e2
          have tu : TupS H18 H3 := fun b xs hb => kb _ _ hb (fun z => by rw [z, apu18] at hb; cases hb)
          exact ⟨d2, kv2, rfl, kb _ _ h2 (fun z => by rw [z, apu18] at h2; cases h2), t2.mono tu, nd2, ok2⟩
        have okt1 := hp3.okP.2.1
        have pmn : (namesT t).Perm (namesT p.t) := pm.map (fun e : Str × Row => e.1)
        have rn1 := renG_okT okt1 (fun e he => (good e he).2) ((pmn.map (ren cs)).symm.nodup ndr)
        obtain ⟨pa, dxp, _, _, _, _, _, rfl, hpa, _⟩ := id hp3
        dsimp only [tRet, tLst, tCons, tNil]
        refine ⟨_, rfl, pa, dxp, _, rfl, hpa, pf_no _ _ _ _, _, rfl, .ref pa, ⟨t, p.s, p.f, p.g⟩, pd, cs, rfl, hp3, hch3, fun e he => ⟨pmn.mem_iff.mpr (good e he).1, (good e he).2⟩, ndk, fewn, rn1.1, rn1.2.2, rn1.2.1, fun z H4 t' e4 pm' hz => ⟨_, rfl, by show 2 ≤ sizeLine; decide, fun pz hpz => ?_⟩⟩
        have e5 := same_new (o := .lst [z, .ref pu]) hpz
        have e45 := e4.trans e5
        have pmt : t'.Perm (renT cs p.t) := pm'.trans (pm.map _)
        obtain ⟨okz, oktz, _⟩ := hz.okP
        exact q pz z (.ref pu) _ (kl.trans (KL.of kl.2 e45)) upd_same (.inr ⟨⟨renT cs p.t, p.s, p.f.map (ren cs), p.g.map (ren cs)⟩, t', pmt, hz.keep e5, pu, d2, w1, w2, rfl, e45 _ _ hpu3, hd3.keep e45, hw1.keep e45, hw2.keep e45, Pl.Ok.perm okz oktz pmt.symm⟩)
end
end Tm

/-! _law_deed. -/
namespace Tm
open PySem PySem.Spec PyProof.Rows L2 LamX TmT TmZ TmE TmD TmS
local macro_rules | `(tactic| walk_at "x") => `(tactic| dsimp only [tNext, tRet, tSeq, tCall, tCB, tC, tCons, tNil, tAsg, tDrop, sFld])
section
variable {P : Program} {w : World} {K : PySem.W.Frag} {mg : Str → Option Value} {base : Heap} {C CP : Addr}
abbrev s_pdeed : Stmt := top 43
theorem sc_law_deed : FnScope ["_law_purse", "_law_plan", "_law_parts", "_law_way"] ["_law_purse", "_law_plan", "_law_parts"] (defScope s_pdeed) := ⟨rfl, rfl, rfl, by decide +kernel, rfl, by decide +kernel, by decide +kernel⟩
theorem ok_pdeed {T : List (Addr × Str)} (B : Bt mg) (TP : Kp K CP) (O_law_coin : Ok P w K mg base "_law_coin" 1 ["_law_purse", "_law_total"] sp_draw) (O_law_sized_deed : Ok P w K mg base "_law_sized_deed" 10 ["_law_purse", "_law_plan", "_law_parts"] (sp_sdeed C CP T)) (O_law_named_deed : Ok P w K mg base "_law_named_deed" 10 ["_law_purse", "_law_plan", "_law_parts"] (sp_ndeed C CP))
    (OM_exchanged : OkM P w K mg base CP "exchanged" 6 ["self"] (sp_exch C CP)) (OM_normal : OkM P w K mg base CP "normal" 6 ["self"] (fun vs H Q _ => ∃ (v : V) (p : Pl), vs = [v] ∧ PlanV C CP H v p ∧ ∀ z H', Same H H' → PlanV C CP H' z p.nrm → Q z H')) (O_law_normal_teams : Ok P w K mg base "_law_normal_teams" 1 ["_law_parts"] sp_nteams)
    (D : Df K mg "_law_deed" s_pdeed ["_law_purse", "_law_plan", "_law_parts"]) : Ok P w K mg base "_law_deed" 11 ["_law_purse", "_law_plan", "_law_parts"] (sp_sdeed C CP T) := by
  refine D.ok sc_law_deed (fun vs H Q E h => ?_) (fun f cdv A outer s H vs Q E hr h => ?_)
  · obtain ⟨l, v, u, q, rfl, _⟩ := h
    rfl
  · obtain ⟨l, v, u, p, rfl, hv, hT, hl, q⟩ := h
    refine ⟨_, pss_cons (ps_set (i := 3) sc_law_deed.nd rfl (.inl rfl) (O_law_coin.call hr (ha := pa_cons (pv 0) (pa_cons (pe_int) (pa_nil)))))
      (pss_cons (ps_if (pt_cmpR op_lt (pv 3) (pe_int) (nomark _))
        (pss_one (ps_ret (O_law_sized_deed.call hr (ha := pa_cons (pv 0) (pa_cons (pv 1) (pa_cons (pv 2) (pa_nil)))))))
        (pss_nil))
      (pss_cons (ps_if (pt_cmpR op_lt (pv 3) (pe_int) (nomark _))
        (pss_one (ps_ret (O_law_named_deed.call hr (ha := pa_cons (pv 0) (pa_cons (pv 1) (pa_cons (pv 2) (pa_nil)))))))
        (pss_nil))
      (pss_cons (ps_if (pt_cmpR op_eq (pv 3) (pe_int) (nomark _))
        (pss_one (ps_ret (pe_lst (pa_cons (OM_exchanged.call0 hr TP.cl (he := pv 1)) (pa_cons (pe_op op_cat (pe_slice sl_list (pv 2) (po_none) (po_some (pe_int))) (pe_rev41 (pv 2))) (pa_nil))))))
        (pss_nil))
      (pss_one (ps_ret (pe_lst (pa_cons (OM_normal.call0 hr TP.cl (he := pv 1)) (pa_cons (pe_op op_cat (pe_slice sl_list (pv 2) (po_none) (po_some (pe_int))) (O_law_normal_teams.call hr (ha := pa_cons (pv 2) (pa_nil)))) (pa_nil))))))))), ?_⟩
    dsimp only [tSeq]
    refine ⟨_, rfl, l, 7, rfl, hv, by omega, by omega, fun c0 H1 c00 c01 k1 => ?_⟩
    have g1 : Good l T H H1 := (Good.start hv hT).draw k1
    have hl1 := hl.kx hv g1.kx
    dsimp only [gName]
    try dsimp only [tSeq]
    refine ⟨_, rfl, _, _, rfl, rfl, _, rfl, ite2 (fun w1 => ?_) (fun w1 => ?_)⟩
    · try dsimp only [tRet, tCall, tCons, tNil]
      exact ⟨_, rfl, _, rfl, _, rfl, l, v, u, p, rfl, g1.vat, g1.tabs, hl1, fun a told due H' g ha hdue => q a told due H' (g1.trans g) ha hdue⟩
    try dsimp only [tNext]
    try dsimp only [tSeq]
    refine ⟨_, rfl, _, _, rfl, rfl, _, rfl, ite2 (fun w2 => ?_) (fun w2 => ?_)⟩
    · try dsimp only [tRet, tCall, tCons, tNil]
      exact ⟨_, rfl, _, rfl, _, rfl, l, v, u, p, rfl, g1.vat, hl1, fun a told due H' g ha hdue => q a told due H' (g1.draw g) ha hdue⟩
    try dsimp only [tNext]
    try dsimp only [tSeq]
    obtain ⟨t, pm, hp, hu⟩ := id hl1
    obtain ⟨a, d, x, y, rfl, ha, hd, hx, hy, ok⟩ := id hu
    obtain ⟨okp, okt1, _⟩ := hp.okP
    obtain ⟨pa, dxp, _, _, _, _, _, rfl, hpa, _⟩ := id hp
    refine ⟨_, rfl, rfl, _, rfl, ite2 (fun w3 => ?_) (fun w3 => ?_)⟩
    · try dsimp only [tRet, tLst, tCons, tNil]
      refine ⟨_, rfl, pa, dxp, _, rfl, hpa, pf_no _ _ _ _, .ref pa, ⟨t, p.s, p.f, p.g⟩, rfl, hp, fun z H2 e2 hz => ?_⟩
      have ha2 := e2 _ _ ha
      refine ⟨_, rfl, 2, rfl, a, _, rfl, SqL.of ha2, fun ps hps => ?_⟩
      rw [show cutV [V.ref d, V.int (p.s : Int), x, y] none (some 2) = [V.ref d, .int (p.s : Int)] from rfl]
      have e3 := same_new (o := .lst [V.ref d, .int (p.s : Int)]) hps
      refine ⟨_, rfl, a, _, _, _, _, rfl, SqL.of (e3 _ _ ha2), fun pr hpr => ?_⟩
      have e4 := same_new (o := .lst [y, x]) hpr
      refine ⟨ps, pr, _, _, rfl, rfl, e4 _ _ upd_same, upd_same, by show 4 ≤ sizeLine; decide, fun pd hpd => ⟨by show 2 ≤ sizeLine; decide, fun pz hpz => ?_⟩⟩
      have e5 := same_new (o := .lst ([V.ref d, .int (p.s : Int)] ++ [y, x])) hpd
      have e6 := same_new (o := .lst [z, .ref pd]) hpz
      have e26 := e3.trans (e4.trans (e5.trans e6))
      have e16 := e2.trans e26
      exact q pz z (.ref pd) _ (g1.same e16) upd_same (.inr ⟨⟨p.t, p.s, p.g, p.f⟩, t, pm, hz.keep e26, pd, d, y, x, rfl, e6 _ _ upd_same, hd.keep e16, hy.keep e16, hx.keep e16, ok.swap⟩)
    · try dsimp only [tNext]
      try dsimp only [tRet, tLst, tCons, tNil]
      refine ⟨_, rfl, pa, dxp, _, rfl, hpa, pf_no _ _ _ _, .ref pa, ⟨t, p.s, p.f, p.g⟩, rfl, hp, fun z H2 e2 hz => ?_⟩
      have ha2 := e2 _ _ ha
      refine ⟨_, rfl, 2, rfl, a, _, rfl, SqL.of ha2, fun ps hps => ?_⟩
      rw [show cutV [V.ref d, V.int (p.s : Int), x, y] none (some 2) = [V.ref d, .int (p.s : Int)] from rfl]
      have e3 := same_new (o := .lst [V.ref d, .int (p.s : Int)]) hps
      refine ⟨_, rfl, .ref a, p, rfl, (hu.keep e2).keep e3, fun pr x' y' H4 e4 new4 hpr hx' hy' => ?_⟩
      refine ⟨ps, pr, _, _, rfl, rfl, e4 _ _ upd_same, hpr, by show 4 ≤ sizeLine; decide, fun pd hpd => ⟨by show 2 ≤ sizeLine; decide, fun pz hpz => ?_⟩⟩
      have e5 := same_new (o := .lst ([V.ref d, .int (p.s : Int)] ++ [x', y'])) hpd
      have e6 := same_new (o := .lst [z, .ref pd]) hpz
      have e26 := e3.trans (e4.trans (e5.trans e6))
      have e16 := e2.trans e26
      exact q pz z (.ref pd) _ (g1.same e16) upd_same (.inr ⟨p.nrm, t, pm, hz.keep e26, pd, d, x', y', rfl, e6 _ _ upd_same, hd.keep e16, hx'.keep (e5.trans e6), hy'.keep (e5.trans e6), ok.nrm⟩)
end
end Tm

/-! _law_is_like. -/
namespace Tm
open PySem PySem.Spec PyProof.Rows L2 LamX TmT TmZ TmE TmD TmS
local macro_rules | `(tactic| walk_at "x") => `(tactic| dsimp only [tNext, tRet, tSeq, tCall, tCB, tC, tCons, tNil, tAsg, tDrop, sFld])
theorem sameT_perm {t t' s s' : Tab} (p : t.Perm t') (q : s.Perm s') : sameT t s = sameT t' s' := by
  unfold sameT
  rw [p.length_eq, q.length_eq]
  congr 1
  rw [Bool.eq_iff_iff, List.all_eq_true, List.all_eq_true]
  constructor
  · intro h x hx
    have := h x (p.mem_iff.mpr hx)
    rw [decide_eq_true_eq] at this ⊢
    exact q.mem_iff.mp this
  · intro h x hx
    have := h x (p.mem_iff.mp hx)
    rw [decide_eq_true_eq] at this ⊢
    exact q.mem_iff.mpr this
theorem eqv_perm {t t1 : Tab} {s : Nat} {f g : List Str} (pm : t.Perm t1) : (⟨t, s, f, g⟩ : Pl).eqv ⟨t1, s, f, g⟩ = true := by
  unfold Pl.eqv
  dsimp only
  rw [← sameT_perm (.refl t) pm, same_self, decide_eq_true rfl, decide_eq_true ⟨rfl, rfl⟩]
  rfl
theorem nrm_nrm (p : Pl) : p.nrm.nrm = p.nrm := by
  obtain ⟨h1, h2⟩ := nrm_idem p.f p.g
  unfold Pl.nrm
  dsimp only
  rw [h1, h2]
theorem nrm_exch (t : Tab) (s : Nat) (f g : List Str) : (⟨t, s, g, f⟩ : Pl).nrm = (⟨t, s, f, g⟩ : Pl).nrm := by
  obtain ⟨h1, h2⟩ := nrm_comm f g
  unfold Pl.nrm
  dsimp only
  rw [h1, h2]
theorem eqv_self (p : Pl) : p.eqv p = true := eqv_perm (t := p.t) (t1 := p.t) (s := p.s) (f := p.f) (g := p.g) (.refl _)
theorem shaped_strsL {l : List Str} (h : l.all PyData.strOk = true) : SeqAt.shaped (.list (l.map .str)) = true := by
  have h1 : PyData.canLay0 (.list (l.map .str)) = true := lay_team h
  have h2 : PyData.depth (.list (l.map .str)) ≤ 64 := by
    show PyData.depthAll (l.map .str) + 1 ≤ 64
    rw [depth_strs]
    decide
  unfold SeqAt.shaped
  rw [h1, decide_eq_true h2]
  rfl
theorem Pl.th_so {p : Pl} (h1 : p.f.all PyData.strOk = true) (h2 : p.g.all PyData.strOk = true) : (srtS p.th).all PyData.strOk = true := by
  rw [List.all_eq_true] at h1 h2 ⊢
  intro x hx
  rcases List.mem_append.mp ((srt_perm p.th).mem_iff.mp hx) with h | h
  · exact h1 x h
  · exact h2 x h
theorem iteFF {c : Bool} {A B : Prop} (hc : c = false) (h : B) : if c = true then A else B := by
  rw [hc, if_neg (by decide)]
  exact h
abbrev sp_pnrm (C CP : Addr) : Sp := fun vs H Q _ => ∃ (v : V) (p : Pl), vs = [v] ∧ PlanV C CP H v p ∧ ∀ z H', Same H H' → PlanV C CP H' z p.nrm → Q z H'
abbrev sp_pisn (C CP : Addr) : Sp := fun vs H Q _ => ∃ (v : V) (p : Pl), vs = [v] ∧ PlanV C CP H v p ∧ ∀ H', Same H H' → Q (.bl (decide (p.f = p.nrm.f ∧ p.g = p.nrm.g))) H'
section
variable {K : PySem.W.Frag} {C CP : Addr} {σ : L2.St} {H : Hp} {te ta tb : TE} {E : XK} {p r : Pl}
theorem ev_nrm (h : Ev te σ H fun v H1 => PlanV C CP H1 v p) : Ev (tMeth CP "normal" (sp_pnrm C CP) [] E0 te tNil) σ H fun v H1 => PlanV C CP H1 v p.nrm := fun Q q =>
  h _ fun v H1 e1 hv => by
    obtain ⟨a, dx, _, _, _, _, _, rfl, ha, _⟩ := id hv
    exact ⟨a, dx, _, rfl, ha, pf_no _ _ _ _, .ref a, p, rfl, hv, fun z H' e' hz => q _ _ (e1.trans e') hz⟩
theorem ev_exch (h : Ev te σ H fun v H1 => PlanV C CP H1 v p) : Ev (tMeth CP "exchanged" (sp_exch C CP) [] E0 te tNil) σ H fun v H1 => PlanV C CP H1 v ⟨p.t, p.s, p.g, p.f⟩ := fun Q q =>
  h _ fun v H1 e1 hv => by
    obtain ⟨a, dx, _, _, _, _, _, rfl, ha, _⟩ := id hv
    exact ⟨a, dx, _, rfl, ha, pf_no _ _ _ _, .ref a, p, rfl, hv, fun z H' e' hz => q _ _ (e1.trans e') hz⟩
theorem ev_isn (h : Ev te σ H fun v H1 => PlanV C CP H1 v p) : Ev (tMeth CP "is_normal" (sp_pisn C CP) [] E0 te tNil) σ H fun v _ => v = .bl (decide (p.f = p.nrm.f ∧ p.g = p.nrm.g)) := fun Q q =>
  h _ fun v H1 e1 hv => by
    obtain ⟨a, dx, _, _, _, _, _, rfl, ha, _⟩ := id hv
    exact ⟨a, dx, _, rfl, ha, pf_no _ _ _ _, .ref a, p, rfl, hv, fun H' e' => q _ _ (e1.trans e') rfl⟩
theorem ev_pcmp {neg : Bool} (h1 : Ev ta σ H fun v H1 => PlanV C CP H1 v p) (h2 : ∀ H1, Same H H1 → Ev tb σ H1 fun v H2 => PlanV C CP H2 v r) : Ev (tOp (rEqO CP (sp_peqG C CP) neg) ta tb) σ H fun v _ => v = .bl (if neg then !p.eqv r else p.eqv r) := fun Q q =>
  h1 _ fun v H1 e1 hv => h2 H1 e1 _ fun u H2 e2 hu => by
    have hv2 := hv.keep e2
    obtain ⟨a, dx, _, _, _, _, _, rfl, ha, _⟩ := id hv2
    obtain ⟨b, dy, _, _, _, _, _, rfl, hb, _⟩ := id hu
    exact ⟨a, b, dx, dy, _, _, rfl, rfl, ha, hb, .ref a, .ref b, p, r, rfl, hv2, hu, _, rfl, q _ _ (e1.trans e2) rfl⟩
theorem ev_srtThr (h : Ev te σ H fun v H1 => PlanV C CP H1 v p) : Ev (tCB (rSortTS K) (tCons (tProp CP (sp_pthreads C CP) [] E0 te) tNil)) σ H fun v H1 => ∃ a, v = .ref a ∧ H1 a = some (.lst (strV (srtS p.th))) := fun Q q =>
  h _ fun v H1 e1 hv => by
    obtain ⟨a, dx, k, tm, p1, p2, th, rfl, ha, hk, htm, h1, h2, hth, ok⟩ := id hv
    have few : p.f.length + p.g.length ≤ 6 := ok.few
    refine ⟨a, dx, _, rfl, ha, .ref a, p, rfl, hv, fun th hth => ⟨th, p.th, rfl, SqT.of hth, ?_, fun b hb => q _ _ (e1.trans (same_new hb)) ⟨b, rfl, upd_same⟩⟩⟩
    rw [show p.th.length = p.f.length + p.g.length from List.length_append]
    omega
end
section
variable {P : Program} {w : World} {K : PySem.W.Frag} {mg : Str → Option Value} {base : Heap} {C CP : Addr}
abbrev s_like : Stmt := top 44
theorem sc_law_is_like : FnScope ["_law_plan", "_law_parts", "_law_near"] ["_law_plan", "_law_parts"] (defScope s_like) := ⟨rfl, rfl, rfl, by decide +kernel, rfl, by decide +kernel, by decide +kernel⟩
def sp_like (C CP : Addr) : Sp := fun vs H Q _ => ∃ (v u : V) (q : Pl), vs = [v, u] ∧ LikeV C CP H v u q ∧ ∀ H', Same H H' → Q (.bl true) H'
theorem ok_like (B : Bt mg) (T : Kc K C) (TP : Kp K CP) (EQ : EqM K CP) (OS_peq : OkS P w K mg base CP "__eq__" 2 ["self", "other"] (sp_peqG C CP)) (OP_kind : OkP P w K mg base CP "kind" 1 (sp_pkind C CP)) (OP_start : OkP P w K mg base CP "start" 1 (sp_pstart C CP)) (OP_teams : OkP P w K mg base CP "teams" 1 (sp_pteams C CP)) (OP_threads : OkP P w K mg base CP "threads" 1 (sp_pthreads C CP)) (OP_operations : OkP P w K mg base C "operations" 1 (sp_ops C))
    (OM_exchanged : OkM P w K mg base CP "exchanged" 6 ["self"] (sp_exch C CP)) (OM_normal : OkM P w K mg base CP "normal" 6 ["self"] (sp_pnrm C CP)) (OM_is_normal : OkM P w K mg base CP "is_normal" 7 ["self"] (sp_pisn C CP)) (O_law_plan_of : Ok P w K mg base "_law_plan_of" 7 ["_law_parts"] (sp_planof C CP)) (O_law_normal_teams : Ok P w K mg base "_law_normal_teams" 1 ["_law_parts"] sp_nteams)
    (D : Df K mg "_law_is_like" s_like ["_law_plan", "_law_parts"]) : Ok P w K mg base "_law_is_like" 8 ["_law_plan", "_law_parts"] (sp_like C CP) := by
  refine D.ok sc_law_is_like (fun vs H Q E h => ?_) (fun f cdv A outer s H vs Q E hr h => ?_)
  · obtain ⟨v, u, q, rfl, _⟩ := h
    rfl
  · obtain ⟨v, u, p, rfl, hl, q⟩ := h
    have hu64 : (A.deeper (envOfC "_law_is_like" (defScope s_like) s.heap.objs.size f cdv)).units + 64 < cLine := by
      have := hr.un
      omega
    have hu65 : (A.deeper (envOfC "_law_is_like" (defScope s_like) s.heap.objs.size f cdv)).units + 65 < cLine := by
      have := hr.un
      omega
    refine ⟨_, pss_cons (ps_if (PW.pt (pw_or (pt_cmpR (op_neO OS_peq EQ (hr.mono (by decide))) (pv 0) (O_law_plan_of.call hr (ha := pa_cons (pv 1) (pa_nil))) (nomark _)) (pw_or (pt_cmpR (op_neD hu64) (OP_teams.get hr TP.cl (he := pv 0)) (pe_tup (pa_cons (pe_ix (ixLK (K := K)) (pv 1) (pe_int) (fun _ _ => rfl)) (pa_cons (pe_ix (ixLK (K := K)) (pv 1) (pe_int) (fun _ _ => rfl)) (pa_nil)))) (nomark _)) (pw_or1 (pt_cmpR op_ne (OP_start.get hr TP.cl (he := pv 0)) (pe_ix (ixLK (K := K)) (pv 1) (pe_int) (fun _ _ => rfl)) (nomark _))))))
        (pss_one (ps_ret (pe_bl)))
        (pss_nil))
      (pss_cons (ps_if (PW.pt (pw_or (pt_cmpR (op_neTab hu65) (OP_operations.get hr T.cl (he := OP_kind.get hr TP.cl (he := pv 0))) (pe_ix (ixLK (K := K)) (pv 1) (pe_int) (fun _ _ => rfl)) (nomark _)) (pw_or1 (pt_cmpR op_ne (OM_is_normal.call0 hr TP.cl (he := pv 0)) (pe_cmpR (op_eqD hu64) (pe_lst (pa_cons (pe_ix (ixLK (K := K)) (pv 1) (pe_int) (fun _ _ => rfl)) (pa_cons (pe_ix (ixLK (K := K)) (pv 1) (pe_int) (fun _ _ => rfl)) (pa_nil)))) (O_law_normal_teams.call hr (ha := pa_cons (pv 1) (pa_nil))) (nomark _)) (nomark _)))))
        (pss_one (ps_ret (pe_bl)))
        (pss_nil))
      (pss_cons (ps_set (i := 2) sc_law_is_like.nd rfl (.inl rfl) (OM_normal.call0 hr TP.cl (he := pv 0)))
      (pss_cons (ps_if (PW.pt (pw_or (pt_not (pt_val (OM_is_normal.call0 hr TP.cl (he := pv 2)))) (pw_or (pt_cmpR (op_neO OS_peq EQ (hr.mono (by decide))) (OM_normal.call0 hr TP.cl (he := pv 2)) (pv 2) (nomark _)) (pw_or1 (pt_cmpR (op_neO OS_peq EQ (hr.mono (by decide))) (pv 2) (OM_normal.call0 hr TP.cl (he := OM_exchanged.call0 hr TP.cl (he := pv 0))) (nomark _))))))
        (pss_one (ps_ret (pe_bl)))
        (pss_nil))
      (pss_one (ps_ret (pe_and (pe_cmpR (op_eqO OS_peq (hr.mono (by decide))) (OM_exchanged.call0 hr TP.cl (he := OM_exchanged.call0 hr TP.cl (he := pv 0))) (pv 0) (nomark _)) (pe_one (pe_cmpR (op_eqD hu64) (pe_callB (cr_sortTS (K := K)) (by rfl) B.sorted (by decide +kernel) (pa_cons (OP_threads.get hr TP.cl (he := pv 2)) (pa_nil))) (pe_callB (cr_sortTS (K := K)) (by rfl) B.sorted (by decide +kernel) (pa_cons (OP_threads.get hr TP.cl (he := pv 0)) (pa_nil))) (nomark _))))))))), ?_⟩
    obtain ⟨t, pm, hp, hu⟩ := id hl
    obtain ⟨a, d, x, y, rfl, ha, hd, hx, hy, ok⟩ := id hu
    obtain ⟨okp, okt1, _⟩ := hp.okP
    obtain ⟨pa, dxp, _, _, _, _, _, rfl, hpa, _⟩ := id hp
    have so := hp.so
    dsimp only [tSeq]
    refine ⟨_, rfl, _, rfl, a, d, x, y, p, rfl, ha, hd, hx, hy, ok, fun z t1 H1 e1 pm1 hz => ?_⟩
    have hp1 := hp.keep e1
    obtain ⟨b, dy, _, _, _, _, _, rfl, hb, _⟩ := id hz
    refine ⟨pa, b, dxp, dy, _, _, rfl, rfl, e1 _ _ hpa, hb, .ref pa, .ref b, ⟨t, p.s, p.f, p.g⟩, ⟨t1, p.s, p.f, p.g⟩, rfl, hp1, hz, _, rfl, _, rfl, ?_⟩
    refine ifF (by rw [eqv_perm (pm.trans pm1.symm)]; rfl) ?_
    refine ⟨_, rfl, pa, dxp, _, rfl, e1 _ _ hpa, .ref pa, ⟨t, p.s, p.f, p.g⟩, rfl, hp1, fun tm q1 q2 htm h1 h2 => ?_⟩
    have ha1 := e1 _ _ ha
    refine ⟨_, rfl, a, _, 2, _, rfl, rfl, SqL.of ha1, atI_nat (j := 2) rfl, _, rfl, a, _, 3, _, rfl, rfl, SqL.of ha1, atI_nat (j := 3) rfl, by show 2 ≤ sizeLine; decide, fun pt hpt => ?_⟩
    have e2 := same_new (o := .tup [x, y]) hpt
    have e12 := e1.trans e2
    refine ⟨.tuple [teamD p.f, teamD p.g], .tuple [teamD p.f, teamD p.g], .tup (SqT.of (e2 _ _ htm)) (.cons (h1.keep e2).dp (.cons (h2.keep e2).dp .nil)), .tup (SqT.of upd_same) (.cons (hx.keep e12).dp (.cons (hy.keep e12).dp .nil)), shaped_pair so.1 so.2, shaped_pair so.1 so.2, _, rfl, ?_⟩
    refine ifF (by rw [eqv_pair, decide_eq_true ⟨rfl, rfl⟩]; rfl) ?_
    have hp2 := hp.keep e12
    have ha2 := e12 _ _ ha
    generalize upd H1 pt (.tup [x, y]) = H2 at e12 hp2 ha2
    refine ⟨_, rfl, pa, dxp, _, rfl, e12 _ _ hpa, .ref pa, ⟨t, p.s, p.f, p.g⟩, rfl, hp2, _, rfl, a, _, 1, _, rfl, rfl, SqL.of ha2, atI_nat (j := 1) rfl, rfl, _, rfl, ?_⟩
    refine ifF (by rw [decide_eq_true rfl]; rfl) ?_
    try dsimp only [tNext]
    try dsimp only [tSeq]
    have okt := hd.ok.1
    have ndt := hd.ok.2
    refine ⟨_, rfl, pa, dxp, _, rfl, e12 _ _ hpa, .ref pa, ⟨t, p.s, p.f, p.g⟩, rfl, hp2, fun k hk => ?_⟩
    obtain ⟨ka, kdx, _, _, rfl, hka, _⟩ := id hk
    refine ⟨ka, kdx, _, rfl, hka, .ref ka, t, rfl, hk, fun q1 kvs hq1 hT => ?_⟩
    have e3 := same_new (o := .dK kvs) hq1
    have e13 := e12.trans e3
    have hd3 := hd.keep e13
    obtain ⟨_, kvd, ee, hdd, htd, _, _⟩ := id hd3
    cases ee
    refine ⟨_, rfl, a, _, 0, _, rfl, rfl, SqL.of (e3 _ _ ha2), atI_nat (j := 0) rfl, q1, d, kvs, kvd, t, p.t, rfl, rfl, upd_same, hdd, hT.mono (tups_of e3), htd, ndt, _, rfl, ?_⟩
    refine ifF (by rw [← sameT_perm (.refl t) pm, same_self]; rfl) ?_
    have hp3 := hp2.keep e3
    have ha3 := e3 _ _ ha2
    generalize upd H2 q1 (.dK kvs) = H3 at e13 hp3 ha3
    refine ⟨_, rfl, pa, dxp, _, rfl, e13 _ _ hpa, pf_no _ _ _ _, .ref pa, ⟨t, p.s, p.f, p.g⟩, rfl, hp3, fun H4 e4 => ?_⟩
    have e14 := e13.trans e4
    have ha4 := e14 _ _ ha
    refine ⟨_, rfl, a, _, 2, _, rfl, rfl, SqL.of ha4, atI_nat (j := 2) rfl, _, rfl, a, _, 3, _, rfl, rfl, SqL.of ha4, atI_nat (j := 3) rfl, by show 2 ≤ sizeLine; decide, fun pl hpl => ?_⟩
    have e5 := same_new (o := .lst [x, y]) hpl
    have apl : upd H4 pl (.lst [x, y]) pl = some (.lst [x, y]) := upd_same
    refine ⟨_, rfl, .ref a, p, rfl, hu.keep (e14.trans e5), fun bn x' y' H6 e6 _ hbn hx' hy' => ?_⟩
    have e16 := (e14.trans e5).trans e6
    have son := p.nrm.soF (okTab_so okt) ok.nrm
    refine ⟨.list [teamD p.f, teamD p.g], .list [teamD p.nrm.f, teamD p.nrm.g], .lst (SqL.of (e6 _ _ apl)) (.cons (hx.keep e16).dp (.cons (hy.keep e16).dp .nil)), .lst (SqL.of hbn) (.cons hx'.dp (.cons hy'.dp .nil)), shaped_pairL so.1 so.2, shaped_pairL son.1 son.2, ?_⟩
    refine ⟨rfl, _, rfl, ?_⟩
    refine ifF (by rw [eqv_pairL]; show (!decide (V.bl (decide (p.f = p.nrm.f ∧ p.g = p.nrm.g)) = V.bl (decide (p.f = p.nrm.f ∧ p.g = p.nrm.g)))) = false; rw [decide_eq_true rfl]; rfl) ?_
    try dsimp only [tNext]
    try dsimp only [tSeq, tAsg]
    refine ev_nrm (ev_is rfl (hp.keep e16)) _ fun n7 H7 e7 hn7 => ?_
    have e17 := e16.trans e7
    obtain ⟨nb, dyn, _, _, _, _, _, rfl, hnb, _⟩ := id hn7
    dsimp only [gName]
    try dsimp only [tSeq]
    refine ⟨_, rfl, nb, dyn, _, rfl, hnb, pf_no _ _ _ _, .ref nb, _, rfl, hn7, fun H8 e8 => ⟨_, rfl, ?_⟩⟩
    refine ifF (by rw [nrm_nrm, decide_eq_true ⟨rfl, rfl⟩]; rfl) ?_
    have hn8 := hn7.keep e8
    refine ⟨_, rfl, nb, dyn, _, rfl, e8 _ _ hnb, pf_no _ _ _ _, .ref nb, _, rfl, hn8, fun m9 H9 e9 hm9 => ?_⟩
    have hn9 := hn8.keep e9
    obtain ⟨ma, dym, _, _, _, _, _, rfl, hma, _⟩ := id hm9
    have e79 := e8.trans e9
    have e19 := e17.trans e79
    refine ⟨_, rfl, ma, nb, dym, dyn, _, _, rfl, rfl, hma, e79 _ _ hnb, .ref ma, .ref nb, _, _, rfl, hm9, hn9, _, rfl, _, rfl, ?_⟩
    refine ifF (by rw [nrm_nrm, eqv_self]; rfl) ?_
    refine ⟨_, rfl, _, rfl, pa, dxp, _, rfl, e19 _ _ hpa, pf_no _ _ _ _, .ref pa, ⟨t, p.s, p.f, p.g⟩, rfl, hp.keep e19, fun x10 H10 e10 hx10 => ?_⟩
    obtain ⟨xa, dxx, _, _, _, _, _, rfl, hxa, _⟩ := id hx10
    refine ⟨xa, dxx, _, rfl, hxa, pf_no _ _ _ _, .ref xa, _, rfl, hx10, fun y11 H11 e11 hy11 => ?_⟩
    obtain ⟨ya, dyy, _, _, _, _, _, rfl, hya, _⟩ := id hy11
    have e911 := e10.trans e11
    have e711 := e79.trans e911
    have e111 := e19.trans e911
    refine ⟨nb, ya, dyn, dyy, _, _, rfl, rfl, e711 _ _ hnb, hya, .ref nb, .ref ya, _, _, rfl, hn7.keep e711, hy11, _, rfl, _, rfl, ?_⟩
    refine ifF (by rw [nrm_exch, eqv_self]; rfl) ?_
    try dsimp only [tNext]
    try dsimp only [tRet]
    refine ⟨_, rfl, pa, dxp, _, rfl, e111 _ _ hpa, pf_no _ _ _ _, .ref pa, ⟨t, p.s, p.f, p.g⟩, rfl, hp.keep e111, fun x12 H12 e12' hx12 => ?_⟩
    obtain ⟨xb, dxb, _, _, _, _, _, rfl, hxb, _⟩ := id hx12
    refine ⟨xb, dxb, _, rfl, hxb, pf_no _ _ _ _, .ref xb, _, rfl, hx12, fun y13 H13 e13' hy13 => ?_⟩
    obtain ⟨yb, dyb, _, _, _, _, _, rfl, hyb, _⟩ := id hy13
    have e1113 := e12'.trans e13'
    have e713 := e711.trans e1113
    have e113 := e111.trans e1113
    refine ⟨_, rfl, yb, pa, dyb, dxp, _, _, rfl, rfl, hyb, e113 _ _ hpa, .ref yb, .ref pa, _, _, rfl, hy13, hp.keep e113, _, rfl, _, rfl, ?_⟩
    refine ifT (eqv_perm (.refl _)) ?_
    refine ev_srtThr (ev_is rfl (hn7.keep e713)) _ fun v14 H14 e14 hv14 => ?_
    obtain ⟨s1, rfl, hs1⟩ := hv14
    refine ev_srtThr (ev_is rfl (hp.keep (e113.trans e14))) _ fun v15 H15 e15 hv15 => ?_
    obtain ⟨s2, rfl, hs2⟩ := hv15
    have th1 := Pl.th_so so.1 so.2
    have pth : (⟨t, p.s, p.f, p.g⟩ : Pl).nrm.th.Perm (⟨t, p.s, p.f, p.g⟩ : Pl).th := nrm_perm p.f p.g
    rw [srt_congr pth] at hs1
    refine ⟨.list ((srtS (⟨t, p.s, p.f, p.g⟩ : Pl).th).map .str), .list ((srtS (⟨t, p.s, p.f, p.g⟩ : Pl).th).map .str), .lst (SqL.of (e15 _ _ hs1)) (dp_strs _), .lst (SqL.of hs2) (dp_strs _), shaped_strsL th1, shaped_strsL th1, ?_⟩
    rw [PyData.eqv, eqv_strsD, decide_eq_true rfl]
    exact q _ (e113.trans (e14.trans e15))
end
end Tm

/-! _law_right. -/
namespace Tm
open PySem PySem.Spec PyProof.Rows L2 LamX TmT TmZ TmE TmD TmS
local macro_rules | `(tactic| walk_at "x") => `(tactic| dsimp only [tNext, tRet, tSeq, tCall, tCB, tC, tCons, tNil, tAsg, tDrop, sFld])
theorem takes_no {X : Cx} : Takes X (fun _ _ _ _ => False) := fun u s' ⟨a, B, sI, pins, σ, H, cls, d, e, I, nb, up, sky, na, os, ag, w⟩ => w.elim
/-! ### a list of its own is written to -/
theorem tups_mutL {p : Addr} {H : Hp} {xs : List V} {o : HO} (hp : H p = some (.lst xs)) : TupS H (upd H p o) := fun a ys h => by
  rw [upd_ne (fun z => by rw [z, hp] at h; cases h)]
  exact h
theorem kind_mutL {C p : Addr} {H : Hp} {v : V} {t : Tab} {xs : List V} {o : HO} (hp : H p = some (.lst xs)) (h : KindV C H v t) : KindV C (upd H p o) v t := by
  obtain ⟨a, dx, d, kvs, e1, e2, e3, e4, e5⟩ := h
  exact ⟨a, dx, d, kvs, e1, by rw [upd_ne (fun z => by rw [z, hp] at e2; cases e2)]; exact e2, by rw [upd_ne (fun z => by rw [z, hp] at e3; cases e3)]; exact e3, e4.mono (tups_mutL hp), e5⟩
theorem dict_mutL {p : Addr} {H : Hp} {v : V} {t : Tab} {xs : List V} {o : HO} (hp : H p = some (.lst xs)) (h : DictV H v t) : DictV (upd H p o) v t := by
  obtain ⟨d, kvs, ev, hd, ht, nd, ok⟩ := h
  exact ⟨d, kvs, ev, by rw [upd_ne (fun z => by rw [z, hp] at hd; cases hd)]; exact hd, ht.mono (tups_mutL hp), nd, ok⟩
theorem plan_mutL {C CP p : Addr} {H : Hp} {v : V} {q : Pl} {xs : List V} {o : HO} (hp : H p = some (.lst xs)) (h : PlanV C CP H v q) : PlanV C CP (upd H p o) v q := by
  obtain ⟨a, dx, kk, tm, p1, p2, th, e1, e2, e3, e4, e5, e6, e7, e8⟩ := h
  exact ⟨a, dx, kk, tm, p1, p2, th, e1, by rw [upd_ne (fun z => by rw [z, hp] at e2; cases e2)]; exact e2, kind_mutL hp e3, by rw [upd_ne (fun z => by rw [z, hp] at e4; cases e4)]; exact e4, TeamV.mutL hp e5, TeamV.mutL hp e6, by rw [upd_ne (fun z => by rw [z, hp] at e7; cases e7)]; exact e7, e8⟩
theorem like_mutL {C CP p a : Addr} {H : Hp} {v : V} {q : Pl} {xs : List V} {o : HO} (hp : H p = some (.lst xs)) (n : a ≠ p) (h : LikeV C CP H v (.ref a) q) : LikeV C CP (upd H p o) v (.ref a) q := by
  obtain ⟨t, h1, h2, b, d, x, y, e1, e2, e3, e4, e5, e6⟩ := h
  cases e1
  exact ⟨t, h1, plan_mutL hp h2, a, d, x, y, rfl, by rw [upd_ne n]; exact e2, dict_mutL hp e3, TeamV.mutL hp e4, TeamV.mutL hp e5, e6⟩
/-- an elder plan and its record, in a list of their own -/
def EldP (C CP l pE : Addr) (H : Hp) (e : V) : Prop := ∃ (p r : Addr) (v : V) (q : Pl), e = .ref p ∧ p ≠ l ∧ p ≠ pE ∧ r ≠ pE ∧ H p = some (.lst [v, .ref r]) ∧ LikeV C CP H v (.ref r) q
theorem EldP.kx {C CP l pE : Addr} {H H' : Hp} {e : V} (v0 : VatV H l) (k : KX l H H') (h : EldP C CP l pE H e) : EldP C CP l pE H' e := by
  obtain ⟨p, r, v, q, rfl, n1, n2, n3, h1, h2⟩ := h
  exact ⟨p, r, v, q, rfl, n1, n2, n3, k _ _ h1 n1 (fun _ z => by cases z), h2.kx v0 k⟩
theorem EldP.mut {C CP l pE : Addr} {H : Hp} {e : V} {xs : List V} {o : HO} (hp : H pE = some (.lst xs)) (h : EldP C CP l pE H e) : EldP C CP l pE (upd H pE o) e := by
  obtain ⟨p, r, v, q, rfl, n1, n2, n3, h1, h2⟩ := h
  exact ⟨p, r, v, q, rfl, n1, n2, n3, by rw [upd_ne n2]; exact h1, like_mutL hp n3 h2⟩
/-- parts are never the list of the elder ones -/
theorem parts_ne {C CP l pE a : Addr} {H : Hp} {q : Pl} {es : List V} (hp : H pE = some (.lst es)) (he : ∀ e ∈ es, EldP C CP l pE H e) (h : PartsV H (.ref a) q) : a ≠ pE := fun z => by
  obtain ⟨b, d, x, y, e1, e2, _⟩ := h
  cases e1
  rw [z, hp] at e2
  have ee := HO.lst.inj (Option.some.inj e2)
  have hm : V.int (q.s : Int) ∈ es := by rw [ee]; simp
  obtain ⟨_, _, _, _, e3, _⟩ := he _ hm
  cases e3
theorem LikeV.parts {C CP : Addr} {H : Hp} {v u : V} {q : Pl} (h : LikeV C CP H v u q) : PartsV H u q := by
  obtain ⟨_, _, _, h⟩ := h
  exact h
theorem less_back (t : Tab) (s : Nat) (f g : List Str) (x : Str) : (⟨t, s, f ++ [x], g⟩ : Pl).less f.length = ⟨t, s, f, g⟩ := by
  have hs : (⟨t, s, f ++ [x], g⟩ : Pl).side f.length = 0 := if_pos (by show f.length < (f ++ [x]).length; simp)
  unfold Pl.less Pl.spot
  rw [hs, Nat.zero_mul, Nat.sub_zero]
  show (⟨t, s, (f ++ [x]).take f.length ++ (f ++ [x]).drop (f.length + 1), g⟩ : Pl) = _
  rw [List.take_left', List.drop_of_length_le (by simp), List.append_nil]
  rfl
section
variable {P : Program} {w : World} {K : PySem.W.Frag} {mg : Str → Option Value} {base : Heap} {C CP : Addr}
abbrev s_pright : Stmt := top 45
abbrev NRi : List Str := ["_law_purse", "_law_parts", "_law_turn", "_law_longer", "_law_plan", "_law_elder", "_law_one", "_law_record", "_law_told", "_law_due"]
theorem sc_law_right : FnScope NRi ["_law_purse"] (defScope s_pright) := ⟨rfl, rfl, rfl, by decide +kernel, rfl, by decide +kernel, by decide +kernel⟩
def sp_right (T : List (Addr × Str)) : Sp := fun vs H Q _ => ∃ (l : Addr), vs = [.ref l] ∧ VatV H l ∧ Tabs T H ∧ ∀ H', Good l T H H' → Q (.bl true) H'
theorem ok_pright {Tb : List (Addr × Str)} {CO CT : Addr} (B : Bt mg) (TP : Kp K CP) (TE : KcE K CP) (hS : PySem.W.kitOne K (.ref CP) (.type "str") = some false) (OS_peq : OkS P w K mg base CP "__eq__" 2 ["self", "other"] (sp_peqG C CP)) (OS_plen : OkS P w K mg base CP "__len__" 1 ["self"] (sp_plen C CP)) (OP_teams : OkP P w K mg base CP "teams" 1 (sp_pteams C CP)) (OP_threads : OkP P w K mg base CP "threads" 1 (sp_pthreads C CP))
    (OX_fewer : OkMX P w K mg base CP "fewer" 7 ["self", "thread"] (sp_fewer C CP CO)) (OX_more : OkMX P w K mg base CP "more" 7 ["self", "team", "name"] (sp_pmore C CP CT))
    (O_law_coin : Ok P w K mg base "_law_coin" 1 ["_law_purse", "_law_total"] sp_draw) (O_law_plan_drawn : Ok P w K mg base "_law_plan_drawn" 4 ["_law_purse", "_law_size", "_law_few", "_law_threads"] sp_pdrawn) (O_law_plan_of : Ok P w K mg base "_law_plan_of" 7 ["_law_parts"] (sp_planof C CP)) (O_law_deed : Ok P w K mg base "_law_deed" 11 ["_law_purse", "_law_plan", "_law_parts"] (sp_sdeed C CP Tb)) (O_law_is_like : Ok P w K mg base "_law_is_like" 8 ["_law_plan", "_law_parts"] (sp_like C CP))
    (D : Df K mg "_law_right" s_pright ["_law_purse"]) : Ok P w K mg base "_law_right" 12 ["_law_purse"] (sp_right Tb) := by
  refine D.ok sc_law_right (fun vs H Q E h => ?_) (fun f cdv A outer s H vs Q E hr h => ?_)
  · obtain ⟨l, rfl, _⟩ := h
    rfl
  · obtain ⟨l, rfl, hv, hT, q⟩ := h
    have hu70 : (A.deeper (envOfC "_law_right" (defScope s_pright) s.heap.objs.size f cdv)).units + 70 < cLine := by
      have := hr.un
      omega
    refine ⟨_, pss_cons (ps_set (i := 1) sc_law_right.nd rfl (.inl rfl) (O_law_plan_drawn.call hr (ha := pa_cons (pv 0) (pa_cons (pe_int) (pa_cons (pe_int) (pa_cons (pe_int) (pa_nil)))))))
      (pss_cons (ps_par (i := 4) (j := 5) (by rfl) sc_law_right.nd rfl rfl (by decide) rfl rfl (pa_cons (O_law_plan_of.call hr (ha := pa_cons (pv 1) (pa_nil))) (pa_cons (pe_lst (pa_nil)) (pa_nil))) (by rfl))
      (pss_cons (ps_for PassesOwn.never rfl (pi_range1 (by rfl) B.range (pa_cons (pe_op op_add (pe_int) (O_law_coin.call hr (ha := pa_cons (pv 0) (pa_cons (pe_int) (pa_nil))))) (pa_nil))) (pg_name (i := 2) sc_law_right.nd rfl (.inl rfl))
        (pss_cons (ps_expr (pe_bm PySem.F.plainAttrs_list PySem.F.slot_list_append PySem.F.type_list_append mt_append (pv 5) (pa_cons (pe_lst (pa_cons (pv 4) (pa_cons (pe_callTy call_list_of (by rfl) B.list (by decide +kernel) (pa_cons (pv 1) (pa_nil))) (pa_nil)))) (pa_nil))))
      (pss_cons (ps_asg (O_law_deed.call hr (ha := pa_cons (pv 0) (pa_cons (pv 4) (pa_cons (pv 1) (pa_nil))))) (pg_unl (by rfl) (pgs_cons (pg_name (i := 8) sc_law_right.nd rfl (.inl rfl)) (pgs_cons (pg_name (i := 9) sc_law_right.nd rfl (.inl rfl)) (pgs_nil)))))
      (pss_one (ps_if (pt_val (pe_callB (isiK (K := K)) (by rfl) B.isinstance (by decide +kernel) (pa_cons (pv 9) (pa_cons (pe_ty (n := "str") (by rfl) B.str (by decide +kernel)) (pa_nil)))))
        (pss_one (ps_if (pt_cmpR op_ne (pv 8) (pv 9) (nomark _))
        (pss_one (ps_ret (pe_bl)))
        (pss_nil)))
        (pss_one (ps_if (PW.pt (pw_or (pt_val (pe_callB (isiK (K := K)) (by rfl) B.isinstance (by decide +kernel) (pa_cons (pv 8) (pa_cons (pe_ty (n := "str") (by rfl) B.str (by decide +kernel)) (pa_nil))))) (pw_or1 (pt_not (pt_val (O_law_is_like.call hr (ha := pa_cons (pv 8) (pa_cons (pv 9) (pa_nil)))))))))
        (pss_one (ps_ret (pe_bl)))
        (pss_one (ps_par (i := 4) (j := 1) (by rfl) sc_law_right.nd rfl rfl (by decide) rfl rfl (pa_cons (pv 8) (pa_cons (pv 9) (pa_nil))) (by rfl))))))))))
      (pss_cons (ps_for PassesOwn.never rfl (pi_list (pv 5)) (pg_unl (by rfl) (pgs_cons (pg_name (i := 6) sc_law_right.nd rfl (.inl rfl)) (pgs_cons (pg_name (i := 7) sc_law_right.nd rfl (.inl rfl)) (pgs_nil))))
        (pss_one (ps_if (PW.pt (pw_or (pt_not (pt_val (O_law_is_like.call hr (ha := pa_cons (pv 6) (pa_cons (pv 7) (pa_nil)))))) (pw_or1 (pt_cmpR op_ne (pe_cmpR (op_eqO OS_peq (hr.mono (by decide))) (pv 6) (pv 4) (nomark _)) (pe_cmpR (op_eqParts hu70) (pv 7) (pv 1) (nomark _)) (nomark _)))))
        (pss_one (ps_ret (pe_bl)))
        (pss_nil))))
      (pss_cons (ps_set (i := 3) sc_law_right.nd rfl (.inl rfl) (pe_ifExp (pt_cmpR op_lt (pe_callB (call_lenO OS_plen (hr.mono (by decide))) (by rfl) B.len (by decide +kernel) (pa_cons (pv 4) (pa_nil))) (pe_int) (nomark _)) (OX_more.call (E := E0) takes_no (fun _ _ _ _ h => h) hr TP.cl (he := pv 4) (ha := pa_cons (pe_int) (pa_cons (pe_ix (ixTK (K := K)) (OP_threads.get hr TP.cl (he := pv 4)) (pe_int) (fun _ _ => rfl)) (pa_nil)))) (pv 4)))
      (pss_one (ps_ret (pe_or (pe_cmpR (op_eqO OS_peq (hr.mono (by decide))) (pv 3) (pv 4) (nomark _)) (pe_one (pe_cmpR (op_eqO OS_peq (hr.mono (by decide))) (OX_fewer.call (E := E0) takes_no (fun _ _ _ _ h => h) hr TP.cl (he := pv 3) (ha := pa_cons (pe_callB (lenK (K := K)) (by rfl) B.len (by decide +kernel) (pa_cons (pe_ix (ixTK (K := K)) (OP_teams.get hr TP.cl (he := pv 4)) (pe_int) (fun _ _ => rfl)) (pa_nil))) (pa_nil))) (pv 4) (nomark _)))))))))), ?_⟩
    dsimp only [tSeq]
    refine ⟨_, rfl, l, 4, 3, 6, rfl, hv, by omega, by omega, by omega, by omega, by omega, by omega, fun a d v1 v2 p H1 k1 ha1 _ ndl hd1 hv1 hv2 ok _ _ _ => ?_⟩
    have g1 : Good l Tb H H1 := (Good.start hv hT).draw k1
    dsimp only [gName]
    try dsimp only [tSeq]
    refine ⟨_, rfl, a, d, v1, v2, p, rfl, ha1, hd1, hv1, hv2, ok, fun z t1 H2 e2 pm hz => ⟨by show 0 ≤ sizeLine; decide, fun pE hpE => ?_⟩⟩
    have hl2 : LikeV C CP H2 z (.ref a) p := ⟨t1, pm, hz, a, d, v1, v2, rfl, e2 _ _ ha1, hd1.keep e2, hv1.keep e2, hv2.keep e2, ok⟩
    have g2 := g1.same e2
    have e3 := same_new (o := .lst []) hpE
    have a3 : upd H2 pE (.lst []) pE = some (.lst []) := upd_same
    have g3 : Good l Tb H2 (upd H2 pE (.lst [])) := (Good.start g2.vat g2.tabs).same e3
    have nE : pE ≠ l := vat_ne g2.vat hpE
    have hl3 := hl2.keep e3
    generalize upd H2 pE (.lst []) = H3 at e3 a3 g3 hl3
    refine ⟨_, _, rfl, ?_⟩
    try dsimp only [tSeq]
    refine ⟨_, rfl, l, 7, rfl, g3.vat, by omega, by omega, fun c H4 c0 c1 k4 => ?_⟩
    obtain ⟨cn, rfl⟩ := Int.eq_ofNat_of_zero_le c0
    have g4 := g3.draw k4
    have a4 := k4.1 _ _ a3 nE
    refine ⟨_, _, rfl, rfl, ((3 + cn : Nat) : Int), by rw [Int.natCast_add]; rfl, by omega, by omega, ?_⟩
    refine for_range (lo := 0) (fun j σ2 H2' => ∃ (o2 o6 o7 o8 o9 : Option V) (v : V) (b : Addr) (q : Pl) (es : List V), σ2 = [some (.ref l), some (.ref b), o2, none, some v, some (.ref pE), o6, o7, o8, o9] ∧ Good l Tb H2 H2' ∧ LikeV C CP H2' v (.ref b) q ∧ H2' pE = some (.lst es) ∧ es.length ≤ j ∧ ∀ e ∈ es, EldP C CP l pE H2' e)
      ⟨_, _, _, _, _, z, a, p, [], rfl, g4, hl3.kx g3.vat (KX.kl k4), a4, Nat.le_refl 0, fun e he => nomatch he⟩ (fun j σ2 H5 hj pv => ?_) (fun σ2 H5 pv => ?_)
    · obtain ⟨o2, o6, o7, o8, o9, v, b, r, es, rfl, g, hl, hpE2, les, eld⟩ := pv
      have hj9 : j < 3 + cn := by omega
      obtain ⟨t, pmt, hp, hu⟩ := id hl
      obtain ⟨_, db, xb, yb, eb, hb, hdb, hxb, hyb, okb⟩ := id hu
      cases eb
      try dsimp only [gName]
      try dsimp only [tSeq]
      refine ⟨_, rfl, .inl ⟨rfl, _, SqL.of hpE2⟩, _, rfl, _, rfl, b, _, rfl, .inl (SqL.of hb), fun rc hrc => ?_⟩
      have e6 := same_new (o := .lst [V.ref db, .int (r.s : Int), xb, yb]) hrc
      refine ⟨by show 2 ≤ sizeLine; decide, fun pr hpr => ?_⟩
      have e7 := same_new (o := .lst [v, V.ref rc]) hpr
      have e67 := e6.trans e7
      have b7 : upd (upd H5 rc (.lst [V.ref db, .int (r.s : Int), xb, yb])) pr (.lst [v, V.ref rc]) pr = some (.lst [v, V.ref rc]) := upd_same
      have r7 := e7 _ _ (upd_same (H := H5) (a := rc) (o := .lst [V.ref db, .int (r.s : Int), xb, yb]))
      have hpE7 := e67 _ _ hpE2
      have nrE : rc ≠ pE := fun z => by rw [z, hpE2] at hrc; cases hrc
      have npE : pr ≠ pE := fun z => by rw [z, e6 _ _ hpE2] at hpr; cases hpr
      have npl : pr ≠ l := vat_ne (g.same e6).vat hpr
      have g7 := g.same e67
      have hl7 := hl.keep e67
      have eld7 : ∀ e ∈ es, EldP C CP l pE (upd (upd H5 rc (.lst [V.ref db, .int (r.s : Int), xb, yb])) pr (.lst [v, V.ref rc])) e := fun e he => (eld e he).kx g.vat (KX.same e67)
      have hlr : LikeV C CP (upd (upd H5 rc (.lst [V.ref db, .int (r.s : Int), xb, yb])) pr (.lst [v, V.ref rc])) v (.ref rc) r := ⟨t, pmt, hp.keep e67, rc, db, xb, yb, rfl, r7, hdb.keep e67, hxb.keep e67, hyb.keep e67, okb⟩
      generalize upd (upd H5 rc (.lst [V.ref db, .int (r.s : Int), xb, yb])) pr (.lst [v, V.ref rc]) = H7 at e67 b7 hpE7 g7 hl7 eld7 hlr
      have nbE : b ≠ pE := parts_ne hpE2 eld hu
      refine ⟨pE, es, .ref pr, rfl, rfl, hpE7, sz_lt (by omega), ?_⟩
      have g8 : Good l Tb H2 (upd H7 pE (.lst (es ++ [.ref pr]))) := g7.mut hpE hpE7 nE
      have hl8 : LikeV C CP (upd H7 pE (.lst (es ++ [.ref pr]))) v (.ref b) r := like_mutL hpE7 nbE hl7
      have eld8 : ∀ e ∈ es ++ [.ref pr], EldP C CP l pE (upd H7 pE (.lst (es ++ [.ref pr]))) e := fun e he => by
        rcases List.mem_append.mp he with h | h
        · exact (eld7 e h).mut hpE7
        · rw [List.mem_singleton.mp h]
          exact ⟨pr, rc, v, r, rfl, npl, npE, nrE, by rw [upd_ne npE]; exact b7, like_mutL hpE7 nrE hlr⟩
      have hpE8 : upd H7 pE (.lst (es ++ [.ref pr])) pE = some (.lst (es ++ [.ref pr])) := upd_same
      have l8 : (es ++ [V.ref pr]).length ≤ j + 1 := by rw [List.length_append]; show es.length + 1 ≤ _; omega
      generalize upd H7 pE (.lst (es ++ [.ref pr])) = H8 at g8 hl8 eld8 hpE8
      generalize es ++ [V.ref pr] = es8 at eld8 hpE8 l8
      refine ⟨_, rfl, _, rfl, _, rfl, l, v, .ref b, r, rfl, g8.vat, g8.tabs, hl8, fun a9 told due H9 g9 ha9 hdue => ?_⟩
      have g59 := g8.trans g9
      have hpE9 := g9.kx _ _ hpE8 nE (fun ps z => by cases z)
      have eld9 : ∀ e ∈ es8, EldP C CP l pE H9 e := fun e he => (eld8 e he).kx g8.vat g9.kx
      have hl9 := hl8.kx g8.vat g9.kx
      refine ⟨a9, _, rfl, SqL.of ha9, rfl, ?_⟩
      refine ⟨_, _, rfl, ?_⟩
      try dsimp only [gName]
      refine ⟨_, _, rfl, ?_⟩
      try dsimp only [gName]
      refine ⟨rfl, ?_⟩
      rcases hdue with ⟨x9, rfl, rfl⟩ | ⟨r', hlk⟩
      · refine ⟨_, rfl, .str x9, .ty "str", _, _, true, rfl, .ty "str", .base (.str x9), kit_ty (by decide +kernel), _, rfl, ?_⟩
        refine ifT rfl ?_
        refine ⟨_, rfl, _, rfl, rfl, _, rfl, ?_⟩
        refine ifF (by simp) ?_
        try dsimp only [tNext]
        exact ⟨_, _, _, _, _, v, b, r, es8, rfl, g59, hl9, hpE9, l8, eld9⟩
      · obtain ⟨ta, pma, hpa, hua⟩ := id hlk
        obtain ⟨da, _, _, _, rfl, hda, _⟩ := id hua
        obtain ⟨pa, dxp, _, _, _, _, _, rfl, hpa2, _⟩ := id hpa
        refine ⟨_, rfl, .ref da, .ty "str", _, _, false, rfl, .ty "str", .base (.lst hda), kit_ty (by decide +kernel), _, rfl, ?_⟩
        refine ifF rfl ?_
        refine ⟨_, rfl, .ref pa, .ty "str", _, _, false, rfl, .ty "str", .base (.ins hpa2 TP.cl TE.cla TE.cg TE.ct TE.mr), hS, _, rfl, ?_⟩
        refine ifF rfl ?_
        refine ⟨_, rfl, _, rfl, .ref pa, .ref da, r', rfl, hlk, fun H10 e10 => ⟨_, rfl, ?_⟩⟩
        refine ifF rfl ?_
        refine ⟨_, rfl, _, rfl, ?_⟩
        refine ⟨_, _, rfl, ?_⟩
        exact ⟨_, _, _, _, _, .ref pa, da, r', es8, rfl, g59.same e10, hlk.keep e10, e10 _ _ hpE9, l8, fun e he => (eld9 e he).kx g59.vat (KX.same e10)⟩
    · obtain ⟨o2, o6, o7, o8, o9, v, b, r, es, rfl, g, hl, hpE2, les, eld⟩ := pv
      try dsimp only [tSeq]
      refine ⟨_, rfl, pE, rfl, ⟨_, SqL.of hpE2⟩, ?_⟩
      refine for_list (K := K) (xs := es) (fun j σ3 H3 => ∃ (o2 o6 o7 o8 o9 : Option V), σ3 = [some (.ref l), some (.ref b), o2, none, some v, some (.ref pE), o6, o7, o8, o9] ∧ Same H5 H3)
        ⟨_, _, _, _, _, rfl, Same.refl _⟩ (fun j σ3 H3 _ pv => by obtain ⟨_, _, _, _, _, _, e⟩ := pv; exact SqL.of (e _ _ hpE2)) (fun j x σ3 H3 hx pv => ?_) (fun σ3 H3 pv => ?_)
      · obtain ⟨o2, o6, o7, o8, o9, rfl, e3⟩ := pv
        obtain ⟨p1, r1, v1, q1, rfl, n1, n2, n3, hp1, hl1⟩ := eld x (List.mem_of_getElem? hx)
        refine ⟨p1, _, rfl, SqL.of (e3 _ _ hp1), rfl, ?_⟩
        refine ⟨_, _, rfl, ?_⟩
        try dsimp only [gName]
        refine ⟨_, _, rfl, ?_⟩
        try dsimp only [gName]
        refine ⟨rfl, ?_⟩
        refine ⟨_, rfl, _, rfl, v1, .ref r1, q1, rfl, hl1.keep e3, fun H4' e4 => ⟨_, rfl, ?_⟩⟩
        refine ifF rfl ?_
        have e34 := e3.trans e4
        obtain ⟨ta, pma, hpa, hua⟩ := hl1.keep e34
        obtain ⟨tb, pmb, hpb, hub⟩ := hl.keep e34
        obtain ⟨pa, dxa, _, _, _, _, _, rfl, hpa2, _⟩ := id hpa
        obtain ⟨pb, dxb, _, _, _, _, _, rfl, hpb2, _⟩ := id hpb
        refine ⟨_, rfl, _, rfl, pa, pb, dxa, dxb, _, _, rfl, rfl, hpa2, hpb2, .ref pa, .ref pb, _, _, rfl, hpa, hpb, _, rfl, ?_⟩
        refine ⟨_, rfl, _, rfl, q1, r, hua, hub, rfl, _, rfl, ?_⟩
        refine ifF ?_ ?_
        · have ee : (⟨ta, q1.s, q1.f, q1.g⟩ : Pl).eqv ⟨tb, r.s, r.f, r.g⟩ = q1.eqv r := by
            unfold Pl.eqv
            dsimp only
            rw [sameT_perm pma pmb]
          rw [ee]
          simp
        · try dsimp only [tNext]
          exact ⟨_, _, _, _, _, rfl, e34⟩
      · obtain ⟨o2, o6, o7, o8, o9, rfl, e3⟩ := pv
        have hl3' := hl.keep e3
        have g3' := (g1.same e2).trans (g.same e3)
        obtain ⟨t, pmt, hp, hu⟩ := id hl3'
        obtain ⟨okp, okt1, _⟩ := hp.okP
        obtain ⟨pa, dxp, _, _, _, _, _, rfl, hpa, _⟩ := id hp
        try dsimp only [tSeq, tAsg]
        have lth : (⟨t, r.s, r.f, r.g⟩ : Pl).th.length = r.f.length + r.g.length := List.length_append
        have few6 : r.f.length + r.g.length ≤ 6 := okp.few
        refine ⟨_, rfl, pa, dxp, _, rfl, hpa, .ref pa, _, rfl, hp, _, rfl, by omega, _, _, rfl, rfl, _, rfl, ?_⟩
        by_cases hfew : (⟨t, r.s, r.f, r.g⟩ : Pl).th.length < 6
        · refine ifT (decide_eq_true (by omega)) ?_
          obtain ⟨x0, f', hf⟩ : ∃ x0 f', r.f = x0 :: f' := by
            cases e : r.f with
            | nil => exact absurd e okp.f
            | cons x0 f' => exact ⟨x0, f', rfl⟩
          refine ⟨_, rfl, pa, dxp, _, rfl, hpa, pf_no _ _ _ _, _, rfl, pa, dxp, _, rfl, hpa, .ref pa, _, rfl, hp, fun th hth => ?_⟩
          have h0 : (strV (⟨t, r.s, r.f, r.g⟩ : Pl).th)[0]? = some (.str x0) := by
            show (strV (r.f ++ r.g))[0]? = _
            rw [hf]
            rfl
          refine ⟨th, _, _, _, rfl, rfl, SqT.of hth, atI_nat (j := 0) h0, .ref pa, ⟨t, r.s, r.f, r.g⟩, 0, x0, rfl, by decide, hp, okp.all x0 (List.mem_append_left _ (by show x0 ∈ r.f; rw [hf]; exact List.mem_cons_self)), fun _ z4 H4 e4 hz4 => ?_, fun h6 => absurd h6 (by omega)⟩
          have hp4 := hp.keep e4
          obtain ⟨za, dxz, _, _, _, _, _, rfl, hza, _⟩ := id hz4
          dsimp only [gName]
          try dsimp only [tRet]
          have ne : ((⟨t, r.s, r.f, r.g⟩ : Pl).put 0 ((⟨t, r.s, r.f, r.g⟩ : Pl).team 0 ++ [x0])).eqv ⟨t, r.s, r.f, r.g⟩ = false := by
            show (sameT t t && (decide (r.s = r.s) && decide (r.f ++ [x0] = r.f ∧ r.g = r.g))) = false
            rw [decide_eq_false (p := r.f ++ [x0] = r.f ∧ r.g = r.g) (fun h => by have := congrArg List.length h.1; simp at this)]
            simp
          refine ⟨_, rfl, _, rfl, za, pa, dxz, dxp, _, _, rfl, rfl, hza, e4 _ _ hpa, .ref za, .ref pa, _, _, rfl, hz4, hp4, _, rfl, _, rfl, ?_⟩
          refine ifF (by rw [ne]; rfl) ?_
          refine ⟨_, rfl, za, dxz, _, rfl, hza, pf_no _ _ _ _, _, rfl, pa, dxp, _, rfl, e4 _ _ hpa, .ref pa, _, rfl, hp4, fun tm q1 q2 htm h1 h2 => ?_⟩
          obtain ⟨q1a, rfl, hq1⟩ := id h1
          refine ⟨tm, _, _, _, rfl, rfl, SqT.of htm, atI_nat (j := 0) rfl, q1a, _, rfl, .inr (.inl hq1), .ref za, _, r.f.length, by show [V.ref za, V.int ((strV r.f).length : Int)] = _; rw [show (strV r.f).length = r.f.length from List.length_map _], hz4, ?_, fun n1 z5 H6 e6 hz5 => ?_, fun h1 => ?_⟩
          · show r.f.length < ((r.f ++ [x0]) ++ r.g).length
            simp
          · have hz5' : PlanV C CP H6 z5 ⟨t, r.s, r.f, r.g⟩ := by
              have := less_back t r.s r.f r.g x0
              rw [← this]
              exact hz5
            obtain ⟨ya, dxy, _, _, _, _, _, rfl, hya, _⟩ := id hz5'
            have e46 := e4.trans e6
            refine ⟨_, rfl, ya, pa, dxy, dxp, _, _, rfl, rfl, hya, e46 _ _ hpa, .ref ya, .ref pa, _, _, rfl, hz5', hp.keep e46, _, rfl, ?_⟩
            exact cast (by rw [eqv_self]; rfl) (q _ (g3'.same e46))
          · have hl1 : (r.f ++ [x0]).length = 1 := by
              have hs : (⟨t, r.s, r.f ++ [x0], r.g⟩ : Pl).side r.f.length = 0 := if_pos (by show r.f.length < (r.f ++ [x0]).length; simp)
              have h1' : ((⟨t, r.s, r.f ++ [x0], r.g⟩ : Pl).team ((⟨t, r.s, r.f ++ [x0], r.g⟩ : Pl).side r.f.length)).length = 1 := h1
              rw [hs] at h1'
              exact h1'
            rw [hf] at hl1
            simp at hl1
        · refine ifF (decide_eq_false (by omega)) ?_
          refine ⟨_, rfl, ?_⟩
          dsimp only [gName]
          try dsimp only [tRet]
          refine ⟨_, rfl, _, rfl, pa, pa, dxp, dxp, _, _, rfl, rfl, hpa, hpa, .ref pa, .ref pa, _, _, rfl, hp, hp, _, rfl, _, rfl, ?_⟩
          refine ifT (eqv_self _) ?_
          exact q _ g3'
end
end Tm

/-! the law itself (k12). -/
namespace Tm
open PySem PySem.Spec PyProof.Rows L2 LamX TmT TmZ TmE TmD TmS
local macro_rules | `(tactic| walk_at "x") => `(tactic| dsimp only [tNext, tRet, tSeq, tCall, tCB, tC, tCons, tNil, tAsg, tDrop, sFld])
theorem sq_good {K : PySem.W.Frag} {l a : Addr} {T : List (Addr × Str)} {H H1 H2 : Hp} {xs : List V} (h : SqL K H a xs) (hl : H l = none) (e : Same H H1) (g : Good l T H1 H2) : SqL K H2 a xs := by
  rcases h with (h | ⟨o, h⟩) | h
  · exact .inl (.inl (g.kx _ _ (e _ _ h) (fun z => by rw [z, hl] at h; cases h) (fun ps z => by cases z)))
  · exact .inl (.inr ⟨o, g.kx _ _ (e _ _ h) (fun z => by rw [z, hl] at h; cases h) (fun ps z => by cases z)⟩)
  · exact .inr h
def PairTV (H : Hp) (v : V) (f g : List Str) : Prop := ∃ a x y, v = .ref a ∧ H a = some (.tup [x, y]) ∧ TeamV H x f ∧ TeamV H y g
theorem PairTV.keep {H H' : Hp} {v : V} {f g : List Str} (h : PairTV H v f g) (e : Same H H') : PairTV H' v f g := by
  obtain ⟨a, x, y, e1, e2, e3, e4⟩ := h
  exact ⟨a, x, y, e1, e _ _ e2, e3.keep e, e4.keep e⟩
def pairD (f g : List Str) : PyData := .tuple [teamD f, teamD g]
theorem PairTV.dp {K : PySem.W.Frag} {H : Hp} {v : V} {f g : List Str} (h : PairTV H v f g) : Dp K H v (pairD f g) := by
  obtain ⟨a, x, y, rfl, e2, e3, e4⟩ := h
  exact .tup (SqT.of e2) (.cons e3.dp (.cons e4.dp .nil))
section
variable {K : PySem.W.Frag} {C CP CO CT : Addr} {σ : L2.St} {H : Hp} {te tn t1 t2 t3 : TE} {E : XK} {p : Pl}
theorem ev_team2 {a b : Str} : Ev (tTup (tCons (tC (.str a)) (tCons (tC (.str b)) tNil))) σ H fun v H1 => TeamV H1 v [a, b] := fun Q q =>
  ⟨by show 2 ≤ sizeLine; decide, fun r hr => q _ _ (same_new hr) ⟨r, rfl, .inl upd_same⟩⟩
theorem ev_team3 {a b c : Str} : Ev (tTup (tCons (tC (.str a)) (tCons (tC (.str b)) (tCons (tC (.str c)) tNil)))) σ H fun v H1 => TeamV H1 v [a, b, c] := fun Q q =>
  ⟨by show 3 ≤ sizeLine; decide, fun r hr => q _ _ (same_new hr) ⟨r, rfl, .inl upd_same⟩⟩
theorem ev_team4 {a b c d : Str} : Ev (tTup (tCons (tC (.str a)) (tCons (tC (.str b)) (tCons (tC (.str c)) (tCons (tC (.str d)) tNil))))) σ H fun v H1 => TeamV H1 v [a, b, c, d] := fun Q q =>
  ⟨by show 4 ≤ sizeLine; decide, fun r hr => q _ _ (same_new hr) ⟨r, rfl, .inl upd_same⟩⟩
theorem ev_pairT {f g : List Str} (h1 : Ev t1 σ H fun v H1 => TeamV H1 v f) (h2 : ∀ H1, Same H H1 → Ev t2 σ H1 fun v H2 => TeamV H2 v g) : Ev (tTup (tCons t1 (tCons t2 tNil))) σ H fun v H1 => PairTV H1 v f g := fun Q q =>
  h1 _ fun v H1 e1 hv => h2 H1 e1 _ fun u H2 e2 hu => ⟨by show 2 ≤ sizeLine; decide, fun r hr => by
    have e3 := same_new (o := .tup [v, u]) hr
    exact q _ _ (e1.trans (e2.trans e3)) ⟨r, v, u, rfl, upd_same, (hv.keep e2).keep e3, hu.keep e3⟩⟩
theorem ev_row1 {a b : Int} : Ev (tTup (tCons (tTup (tCons (tC (.int a)) (tCons (tC (.int b)) tNil))) tNil)) σ H fun v H1 => RowV H1 v [(a, b)] := fun Q q =>
  ⟨by show 2 ≤ sizeLine; decide, fun r hr => ⟨by show 1 ≤ sizeLine; decide, fun s hs => by
    have e1 := same_new (o := .tup [V.int a, .int b]) hr
    have e2 := same_new (o := .tup [V.ref r]) hs
    exact q _ _ (e1.trans e2) ⟨s, [.ref r], rfl, upd_same, .cons ⟨r, rfl, e2 _ _ upd_same⟩ .nil⟩⟩⟩
theorem ev_dict3 {a b c : Str} {r1 r2 r3 : Row} (h1 : ∀ H1, Ev t1 σ H1 fun v H2 => RowV H2 v r1) (h2 : ∀ H1, Ev t2 σ H1 fun v H2 => RowV H2 v r2) (h3 : ∀ H1, Ev t3 σ H1 fun v H2 => RowV H2 v r3) (nd : [a, b, c].Nodup) (ok : okTab [(a, r1), (b, r2), (c, r3)] = true) :
    Ev (tDisp [(tC (.str a), t1), (tC (.str b), t2), (tC (.str c), t3)]) σ H fun v H1 => DictV H1 v [(a, r1), (b, r2), (c, r3)] := fun Q q => by
  intro p hp
  refine h1 _ _ fun v1 H1 e1 hv1 => h2 _ _ fun v2 H2 e2 hv2 => h3 _ _ fun v3 H3 e3 hv3 => ?_
  have e13 := e1.trans (e2.trans e3)
  refine ⟨e13 _ _ upd_same, [(Sum.inr a, v1), (Sum.inr b, v2), (Sum.inr c, v3)], rfl, by show 3 ≤ 15; decide, ?_⟩
  have hm : mergeK [] [((Sum.inr a : L2.Key), v1), (Sum.inr b, v2), (Sum.inr c, v3)] = [(Sum.inr a, v1), (Sum.inr b, v2), (Sum.inr c, v3)] := mergeK_all (by
    show [(Sum.inr a : L2.Key), Sum.inr b, Sum.inr c].Nodup
    exact List.pairwise_map.mpr (nd.imp fun h e => h (Sum.inr.inj e)))
  rw [hm]
  have ne : ∀ z o, H z = some o → z ≠ p := fun z o hz e => by
    rw [e, hp] at hz
    cases hz
  have tu : TupS H3 (upd H3 p (.dK [(Sum.inr a, v1), (Sum.inr b, v2), (Sum.inr c, v3)])) := fun z xs hz => by
    have : z ≠ p := fun e => by
      have h2 := e13 _ _ (upd_same (H := H) (a := p) (o := .dK []))
      rw [e, h2] at hz
      cases hz
    rw [upd_ne this]
    exact hz
  refine q _ _ (fun z o hz => ?_) ⟨p, _, rfl, upd_same, .cons ⟨rfl, (hv1.mono (tups_of (e2.trans e3))).mono tu⟩ (.cons ⟨rfl, (hv2.mono (tups_of e3)).mono tu⟩ (.cons ⟨rfl, hv3.mono tu⟩ .nil)), nd, ok⟩
  rw [upd_ne (ne z o hz)]
  exact same_new hp _ _ hz |> e13 _ _
theorem ev_teams (h : Ev te σ H fun v H1 => PlanV C CP H1 v p) : Ev (tProp CP (sp_pteams C CP) [] E0 te) σ H fun v H1 => PairTV H1 v p.f p.g := fun Q q =>
  h _ fun v H1 e1 hv => by
    obtain ⟨a, dx, k, tm, p1, p2, th, rfl, ha, _⟩ := id hv
    exact ⟨a, dx, _, rfl, ha, .ref a, p, rfl, hv, fun tm p1 p2 h1 h2 h3 => q _ _ e1 ⟨tm, p1, p2, rfl, h1, h2, h3⟩⟩
theorem ev_thr (h : Ev te σ H fun v H1 => PlanV C CP H1 v p) : Ev (tProp CP (sp_pthreads C CP) [] E0 te) σ H fun v H1 => TeamV H1 v p.th := fun Q q =>
  h _ fun v H1 e1 hv => by
    obtain ⟨a, dx, k, tm, p1, p2, th, rfl, ha, _⟩ := id hv
    exact ⟨a, dx, _, rfl, ha, .ref a, p, rfl, hv, fun th h1 => q _ _ e1 ⟨th, rfl, .inl h1⟩⟩
theorem ev_fewer {i : Nat} (h : Ev te σ H fun v H1 => PlanV C CP H1 v p) (hi : i < p.th.length) (n1 : (p.team (p.side i)).length ≠ 1) : Ev (tMeth CP "fewer" (sp_fewer C CP CO) [] E0 te (tCons (tC (.int (i : Int))) tNil)) σ H fun v H1 => PlanV C CP H1 v (p.less i) := fun Q q =>
  h _ fun v H1 e1 hv => by
    obtain ⟨a, dx, _, _, _, _, _, rfl, ha, _⟩ := id hv
    exact ⟨a, dx, _, rfl, ha, pf_no _ _ _ _, .ref a, p, i, rfl, hv, hi, fun _ z H' e' hz => q _ _ (e1.trans e') hz, fun h1 => absurd h1 n1⟩
theorem ev_more {k : Nat} {x : Str} (h : Ev te σ H fun v H1 => PlanV C CP H1 v p) (k2 : k < 2) (hx : x ∈ namesT p.t) (few : p.th.length < 6) : Ev (tMeth CP "more" (sp_pmore C CP CT) [] E0 te (tCons (tC (.int (k : Int))) (tCons (tC (.str x)) tNil))) σ H fun v H1 => PlanV C CP H1 v (p.put k (p.team k ++ [x])) := fun Q q =>
  h _ fun v H1 e1 hv => by
    obtain ⟨a, dx, _, _, _, _, _, rfl, ha, _⟩ := id hv
    exact ⟨a, dx, _, rfl, ha, pf_no _ _ _ _, .ref a, p, k, x, rfl, k2, hv, hx, fun _ z H' e' hz => q _ _ (e1.trans e') hz, fun h6 => absurd h6 (by omega)⟩
end
def tabL : Tab := [("b", [(0, 1)]), ("a", [(0, 2)]), ("c", [(0, 3)])]
def firL : List Str := ["c", "a", "b"]
def secL : List Str := ["b", "a"]
theorem nrm_l1 : nrmF firL secL = (["a", "b"] : List Str) ∧ nrmG firL secL = (["a", "b", "c"] : List Str) := by decide +kernel
theorem nrm_l2 : nrmF ["c", "b"] secL = (["a", "b"] : List Str) ∧ nrmG ["c", "b"] secL = (["b", "c"] : List Str) := by decide +kernel
theorem nrm_l3 : nrmF firL ["b", "a", "a"] = (["a", "a", "b"] : List Str) ∧ nrmG firL ["b", "a", "a"] = (["a", "b", "c"] : List Str) := by decide +kernel
def dueL : PyData := .list [pairD ["a", "b"] ["a", "b", "c"], pairD ["a", "b"] ["b", "c"], pairD ["a", "a", "b"] ["a", "b", "c"]]
theorem due_l : SeqAt.shaped dueL = true ∧ PyData.eqv dueL dueL = true := by decide +kernel
theorem tab_l : okTab tabL = true ∧ sizeT tabL = 1 := by decide +kernel
theorem less_l (t : Tab) : (⟨t, 0, firL, secL⟩ : Pl).less 1 = ⟨t, 0, ["c", "b"], secL⟩ ∧ (⟨t, 0, firL, secL⟩ : Pl).less 4 = ⟨t, 0, firL, ["b"]⟩ ∧ (⟨t, 0, firL, secL⟩ : Pl).put 1 ((⟨t, 0, firL, secL⟩ : Pl).team 1 ++ [("a" : Str)]) = ⟨t, 0, firL, ["b", "a", "a"]⟩ := ⟨rfl, rfl, rfl⟩
end Tm

/-! the law itself (k12), its function. -/
namespace Tm
open PySem PySem.Spec PyProof.Rows L2 LamX TmT TmZ TmE TmD TmS
local macro_rules | `(tactic| walk_at "x") => `(tactic| dsimp only [tNext, tRet, tSeq, tCall, tCB, tC, tCons, tNil, tAsg, tDrop, sFld])
section
variable {P : Program} {w : World} {K : PySem.W.Frag} {mg : Str → Option Value} {base : Heap} {C CP : Addr}
abbrev s_law : Stmt := top 46
abbrev NLaw : List Str := ["_law_script", "_law_spot", "_law_kind", "_law_plan", "_law_told", "_law_due", "_law_purse", "_law_turn"]
theorem sc_law : FnScope NLaw ["_law_script"] (defScope s_law) := ⟨rfl, rfl, rfl, by decide +kernel, rfl, by decide +kernel, by decide +kernel⟩
def sp_law (K : PySem.W.Frag) (T : List (Addr × Str)) : Sp := fun vs H Q _ => ∃ (a : Addr) (xs : List Int), vs = [.ref a] ∧ SqL K H a (xs.map V.int) ∧ xs.length ≤ 63 ∧ Tabs T H ∧ ∀ H', Q (.bl true) H'
theorem fn_law {CO CT : Addr} {f : Addr} {fd : FuncData} {Tb : List (Addr × Str)} (B : Bt mg) (TP : Kp K CP) (OC_Kind : OkC P w K mg base "Kind" C 5 ["self", "operations"] (sp_init C)) (OC_Plan : OkC P w K mg base "Plan" CP 4 ["self", "kind", "start", "first", "second"] (sp_pinit C CP))
    (OP_teams : OkP P w K mg base CP "teams" 1 (sp_pteams C CP)) (OP_threads : OkP P w K mg base CP "threads" 1 (sp_pthreads C CP)) (OM_normal : OkM P w K mg base CP "normal" 6 ["self"] (sp_pnrm C CP)) (OX_fewer : OkMX P w K mg base CP "fewer" 7 ["self", "thread"] (sp_fewer C CP CO)) (OX_more : OkMX P w K mg base CP "more" 7 ["self", "team", "name"] (sp_pmore C CP CT))
    (O_law_purse_of : Ok P w K mg base "_law_purse_of" 1 ["_law_script", "_law_at"] (sp_vat K)) (O_law_right : Ok P w K mg base "_law_right" 12 ["_law_purse"] (sp_right Tb))
    (F : Fun K "law" "law" s_law f fd) : FnOk P w K mg base CX0 13 f fd ["_law_script"] (sp_law K Tb) := by
  refine F.ok sc_law (fun vs H Q E h => ?_) (fun cdv A outer s H vs Q E hr h => ?_)
  · obtain ⟨a, xs, rfl, _⟩ := h
    rfl
  · obtain ⟨a, xs, rfl, hs, hlen, hT, q⟩ := h
    have hu64 : (A.deeper (envOfC "law" (defScope s_law) s.heap.objs.size f cdv)).units + 64 < cLine := by
      have := hr.un
      omega
    refine ⟨_, pss_cons (ps_for PassesOwn.never rfl (pi_range1 (by rfl) B.range (pa_cons (pe_callB (call_max2 rfl) (by rfl) B.max (by decide +kernel) (pa_cons (pe_int) (pa_cons (pe_callB (call_min2 rfl) (by rfl) B.min (by decide +kernel) (pa_cons (pe_int) (pa_cons (pe_callB (lenK (K := K)) (by rfl) B.len (by decide +kernel) (pa_cons (pv 0) (pa_nil))) (pa_nil)))) (pa_nil)))) (pa_nil))) (pg_name (i := 1) sc_law.nd rfl (.inl rfl))
        (pss_cons (ps_set (i := 6) sc_law.nd rfl (.inl rfl) (O_law_purse_of.call hr (ha := pa_cons (pv 0) (pa_cons (pv 1) (pa_nil)))))
      (pss_one (ps_for PassesOwn.never rfl (pi_range1 (by rfl) B.range (pa_cons (pe_int) (pa_nil))) (pg_name (i := 7) sc_law.nd rfl (.inl rfl))
        (pss_one (ps_if (pt_not (pt_val (O_law_right.call hr (ha := pa_cons (pv 6) (pa_nil)))))
        (pss_one (ps_ret (pe_bl)))
        (pss_nil)))))))
      (pss_cons (ps_set (i := 2) sc_law.nd rfl (.inl rfl) (OC_Kind.make hr (ha := pa_cons (pe_disp (pps_cons (pe_str) (pe_tup (pa_cons (pe_tup (pa_cons (pe_int) (pa_cons (pe_int) (pa_nil)))) (pa_nil))) (pps_cons (pe_str) (pe_tup (pa_cons (pe_tup (pa_cons (pe_int) (pa_cons (pe_int) (pa_nil)))) (pa_nil))) (pps_cons (pe_str) (pe_tup (pa_cons (pe_tup (pa_cons (pe_int) (pa_cons (pe_int) (pa_nil)))) (pa_nil))) (pps_nil)))) (by rfl) (by rfl) (fun z => by cases z) (by decide)) (pa_nil))))
      (pss_cons (ps_set (i := 3) sc_law.nd rfl (.inl rfl) (OC_Plan.make hr (ha := pa_cons (pv 2) (pa_cons (pe_int) (pa_cons (pe_tup (pa_cons (pe_str) (pa_cons (pe_str) (pa_cons (pe_str) (pa_nil))))) (pa_cons (pe_tup (pa_cons (pe_str) (pa_cons (pe_str) (pa_nil)))) (pa_nil)))))))
      (pss_cons (ps_set (i := 4) sc_law.nd rfl (.inl rfl) (pe_lst (pa_cons (OP_teams.get hr TP.cl (he := OM_normal.call0 hr TP.cl (he := pv 3))) (pa_cons (OP_teams.get hr TP.cl (he := OM_normal.call0 hr TP.cl (he := OX_fewer.call (E := E0) takes_no (fun _ _ _ _ h => h) hr TP.cl (he := pv 3) (ha := pa_cons (pe_int) (pa_nil))))) (pa_cons (OP_teams.get hr TP.cl (he := OM_normal.call0 hr TP.cl (he := OX_more.call (E := E0) takes_no (fun _ _ _ _ h => h) hr TP.cl (he := pv 3) (ha := pa_cons (pe_int) (pa_cons (pe_str) (pa_nil)))))) (pa_nil))))))
      (pss_cons (ps_set (i := 5) sc_law.nd rfl (.inl rfl) (pe_lst (pa_cons (pe_tup (pa_cons (pe_tup (pa_cons (pe_str) (pa_cons (pe_str) (pa_nil)))) (pa_cons (pe_tup (pa_cons (pe_str) (pa_cons (pe_str) (pa_cons (pe_str) (pa_nil))))) (pa_nil)))) (pa_cons (pe_tup (pa_cons (pe_tup (pa_cons (pe_str) (pa_cons (pe_str) (pa_nil)))) (pa_cons (pe_tup (pa_cons (pe_str) (pa_cons (pe_str) (pa_nil)))) (pa_nil)))) (pa_cons (pe_tup (pa_cons (pe_tup (pa_cons (pe_str) (pa_cons (pe_str) (pa_cons (pe_str) (pa_nil))))) (pa_cons (pe_tup (pa_cons (pe_str) (pa_cons (pe_str) (pa_cons (pe_str) (pa_nil))))) (pa_nil)))) (pa_nil))))))
      (pss_one (ps_ret (pe_and (pe_cmpR (op_eqD hu64) (pv 4) (pv 5) (nomark _)) (pe_one (pe_cmpR (op_eqD hu64) (OP_threads.get hr TP.cl (he := OX_fewer.call (E := E0) takes_no (fun _ _ _ _ h => h) hr TP.cl (he := pv 3) (ha := pa_cons (pe_int) (pa_nil)))) (pe_tup (pa_cons (pe_str) (pa_cons (pe_str) (pa_cons (pe_str) (pa_cons (pe_str) (pa_nil)))))) (nomark _)))))))))), ?_⟩
    refine ⟨_, rfl, a, _, rfl, .inl hs, _, _, rfl, _, _, rfl, ?_⟩
    rw [List.length_map]
    obtain ⟨m, hm, hm4⟩ : ∃ m : Nat, (if (if (xs.length : Int) < 5 then (xs.length : Int) else 5) > 1 then (if (xs.length : Int) < 5 then (xs.length : Int) else 5) else 1) = (m : Int) ∧ m ≤ 5 := by
      refine ⟨(if (if (xs.length : Int) < 5 then (xs.length : Int) else 5) > 1 then (if (xs.length : Int) < 5 then (xs.length : Int) else 5) else 1).toNat, ?_, ?_⟩
      · repeat' split
        all_goals omega
      · repeat' split
        all_goals omega
    refine ⟨_, rfl, ?_⟩
    rw [hm]
    refine ⟨by omega, by omega, ?_⟩
    refine for_range (lo := 0) (fun i σ' H' => ∃ o1 o6 o7 : Option V, σ' = [some (.ref a), o1, none, none, none, none, o6, o7] ∧ SqL K H' a (xs.map V.int) ∧ Tabs Tb H') ⟨none, none, none, rfl, hs, hT⟩ (fun i σ' H' hi p => ?_) (fun σ' H' p => ?_)
    · obtain ⟨o1, o6, o7, rfl, hs', hT'⟩ := p
      dsimp only [gName]
      dsimp only [tSeq]
      refine ⟨_, rfl, _, rfl, a, xs, i, ?_, hs', by omega, fun l x y z hl => ?_⟩
      · show [V.ref a, V.int ((0 : Int) + (i : Int))] = _
        rw [Int.zero_add]
      · have e1 : Same H' (upd H' l (.lst [.int x, .int y, .int z])) := same_new hl
        have g1 : Good l Tb (upd H' l (.lst [.int x, .int y, .int z])) (upd H' l (.lst [.int x, .int y, .int z])) := Good.start ⟨x, y, z, upd_same⟩ (hT'.ext e1)
        generalize hH1 : upd H' l (.lst [.int x, .int y, .int z]) = H1 at e1 g1
        refine ⟨2, rfl, by omega, by omega, ?_⟩
        refine for_range (lo := 0) (fun j σ2 H2 => ∃ o1 o7 : Option V, σ2 = [some (.ref a), o1, none, none, none, none, some (.ref l), o7] ∧ Good l Tb H1 H2) ⟨_, _, rfl, g1⟩ (fun j σ2 H2 hj p => ?_) (fun σ2 H2 p => ?_)
        · obtain ⟨o1, o7, rfl, g⟩ := p
          try dsimp only [gName]
          refine ⟨_, rfl, l, rfl, g.vat, g.tabs, fun H3 g3 => ⟨_, rfl, ifF rfl ?_⟩⟩
          exact ⟨_, _, rfl, g.trans g3⟩
        · obtain ⟨o1, o7, rfl, g⟩ := p
          exact ⟨_, _, _, rfl, sq_good hs' hl e1 g, g.tabs⟩
    · obtain ⟨o1, o6, o7, rfl, hs', hT'⟩ := p
      try dsimp only [tNext]
      try dsimp only [tSeq, tAsg]
      refine ev_mk (C := C) (t := tabL) (ev_dict3 (fun _ => ev_row1) (fun _ => ev_row1) (fun _ => ev_row1) (by decide +kernel) tab_l.1) _ fun vk H1 e1 hk => ?_
      obtain ⟨t, hk, pm⟩ := hk
      have szt : sizeT t = 1 := by rw [size_perm tab_l.1 pm, tab_l.2]
      have nmt : (namesT t).Perm ["b", "a", "c"] := pm.map (fun e : Str × Row => e.1)
      have okp : Pl.Ok ⟨t, 0, firL, secL⟩ := ⟨by show 0 < sizeT t; omega, (fun z => nomatch z), (fun z => nomatch z), by show 3 + 2 ≤ 6; decide, fun x hx => nmt.mem_iff.mpr (by
        have : ∀ x ∈ firL ++ secL, x ∈ (["b", "a", "c"] : List Str) := by decide +kernel
        exact this x hx)⟩
      dsimp only [gName]
      try dsimp only [tSeq, tAsg]
      refine ev_plan (C := C) (p := ⟨t, 0, firL, secL⟩) (ev_is rfl hk) (fun H2 _ => ev_c rfl) (fun H2 _ => ev_team3) (fun H2 _ => ev_team2) okp _ fun vp H2 e2 hp => ?_
      have hp' := hp
      dsimp only [gName]
      try dsimp only [tSeq, tAsg, tLst]
      obtain ⟨l1, l4, m1⟩ := less_l t
      have ha : ("a" : Str) ∈ namesT t := nmt.mem_iff.mpr (by decide +kernel)
      rw [tCons]
      refine ev_teams (C := C) (ev_nrm (ev_is rfl hp)) _ fun w1 H3 e3 h1 => ?_
      rw [tCons]
      refine ev_teams (C := C) (ev_nrm (ev_fewer (i := 1) (ev_is rfl (hp.keep e3)) (by show 1 < 5; decide) (by show 3 ≠ 1; decide))) _ fun w2 H4 e4 h2 => ?_
      rw [tCons]
      refine ev_teams (C := C) (ev_nrm (ev_more (k := 1) (x := "a") (ev_is rfl ((hp.keep e3).keep e4)) (by decide) ha (by show 5 < 6; decide))) _ fun w3 H5 e5 h3 => ?_
      rw [l1] at h2
      rw [m1] at h3
      have h1' : PairTV H3 w1 ["a", "b"] ["a", "b", "c"] := by
        have e : PairTV H3 w1 (nrmF firL secL) (nrmG firL secL) := h1
        rw [nrm_l1.1, nrm_l1.2] at e
        exact e
      have h2' : PairTV H4 w2 ["a", "b"] ["b", "c"] := by
        have e : PairTV H4 w2 (nrmF ["c", "b"] secL) (nrmG ["c", "b"] secL) := h2
        rw [nrm_l2.1, nrm_l2.2] at e
        exact e
      have h3' : PairTV H5 w3 ["a", "a", "b"] ["a", "b", "c"] := by
        have e : PairTV H5 w3 (nrmF firL ["b", "a", "a"]) (nrmG firL ["b", "a", "a"]) := h3
        rw [nrm_l3.1, nrm_l3.2] at e
        exact e
      have hp5 := ((hp.keep e3).keep e4).keep e5
      have j1 := (h1'.keep e4).keep e5
      have j2 := h2'.keep e5
      clear h1 h2 h3 h1' h2' hp hp'
      refine ⟨by show 3 ≤ sizeLine; decide, fun pt hpt => ?_⟩
      have e6 := same_new (o := .lst [w1, w2, w3]) hpt
      have apt : upd H5 pt (.lst [w1, w2, w3]) pt = some (.lst [w1, w2, w3]) := upd_same
      have j16 := j1.keep e6
      have j26 := j2.keep e6
      have j36 := h3'.keep e6
      have hp6 := hp5.keep e6
      generalize upd H5 pt (.lst [w1, w2, w3]) = H6 at apt j16 j26 j36 hp6
      dsimp only [gName]
      try dsimp only [tSeq, tAsg, tLst]
      rw [tCons]
      refine ev_pairT ev_team2 (fun _ _ => ev_team3) _ fun d1 H7 e7 k1 => ?_
      rw [tCons]
      refine ev_pairT ev_team2 (fun _ _ => ev_team2) _ fun d2 H8 e8 k2 => ?_
      rw [tCons]
      refine ev_pairT ev_team3 (fun _ _ => ev_team3) _ fun d3 H9 e9 k3 => ?_
      have e69 := e7.trans (e8.trans e9)
      refine ⟨by show 3 ≤ sizeLine; decide, fun pd hpd => ?_⟩
      have e10 := same_new (o := .lst [d1, d2, d3]) hpd
      have e610 := e69.trans e10
      have apd : upd H9 pd (.lst [d1, d2, d3]) pd = some (.lst [d1, d2, d3]) := upd_same
      have c1 := k1.keep ((e8.trans e9).trans e10)
      have c2 := k2.keep (e9.trans e10)
      have c3 := k3.keep e10
      have apt10 := e610 _ _ apt
      have hp10 := hp6.keep e610
      have b1 := j16.keep e610
      have b2 := j26.keep e610
      have b3 := j36.keep e610
      generalize upd H9 pd (.lst [d1, d2, d3]) = H10 at apd c1 c2 c3 apt10 hp10 b1 b2 b3
      dsimp only [gName]
      try dsimp only [tRet]
      refine ⟨_, rfl, _, rfl, dueL, dueL, .lst (SqL.of apt10) (.cons b1.dp (.cons b2.dp (.cons b3.dp .nil))), .lst (SqL.of apd) (.cons c1.dp (.cons c2.dp (.cons c3.dp .nil))), due_l.1, due_l.1, _, rfl, ?_⟩
      refine ifT due_l.2 ?_
      refine ev_thr (C := C) (ev_fewer (i := 4) (ev_is rfl hp10) (by show 4 < 5; decide) (by show 2 ≠ 1; decide)) _ fun w4 H11 e11 h4 => ?_
      rw [l4] at h4
      refine ev_team4 _ fun w5 H12 e12 h5 => ?_
      have so4 : SeqAt.shaped (teamD ["c", "a", "b", "b"]) = true ∧ PyData.eqv (teamD ["c", "a", "b", "b"]) (teamD ["c", "a", "b", "b"]) = true := by decide +kernel
      have h4' : TeamV H11 w4 ["c", "a", "b", "b"] := h4
      refine ⟨teamD ["c", "a", "b", "b"], teamD ["c", "a", "b", "b"], (h4'.keep e12).dp, h5.dp, so4.1, so4.1, ?_⟩
      rw [so4.2]
      exact q _
end
end Tm

set_option maxHeartbeats 2000000
namespace TmH
open PySem PySem.Spec PyProof.Rows L2 LamX He Tm
section
variable {P : Program} {w : World} {K : PySem.W.Frag} {h : Heap} {mg : Str → Option Value}
theorem mkDf (X : K.In h) (G : h.Ns mainGlobals mg) (c : SaysY fa ds tf exP h K) (x : Str) (st : Stmt) (ps : List Str) (i : Nat) (hi : ds[i]? = some ⟨fun K => ga K x, x, x, st⟩) (hf : Fa.glo x ∈ fa)
    (hb : ∀ (kV doc pm : Value) (an : Option Addr) (cdv ct : Value) (us : List Value), us.length = ps.length → bindArgs (PySem.W.fnOf x x (defArgs st) (defBody st) (defScope st) .none kV doc pm an cdv ct) ⟨us, []⟩ = pure (ps.zip us)) : Df K mg x st ps := by
  have F := c.def_ i hi
  obtain ⟨fd, f⟩ := F.fun_
  exact ⟨_, fd, glo_ok X G (c.fact hf), F.kp, f, f.binds hb⟩
theorem mkDfM (c : SaysY fa ds tf exP h K) (m q : Str) (st : Stmt) (ps : List Str) (i : Nat) (hi : ds[i]? = some ⟨fun K => ma K (ga K "Kind") m, m, q, st⟩) (hf : Fa.meth "Kind" m ∈ fa)
    (hb : ∀ (kV doc pm : Value) (an : Option Addr) (cdv ct : Value) (us : List Value), us.length = ps.length → bindArgs (PySem.W.fnOf m q (defArgs st) (defBody st) (defScope st) .none kV doc pm an cdv ct) ⟨us, []⟩ = pure (ps.zip us)) : DfM K (ga K "Kind") m q st ps := by
  obtain ⟨fd, f⟩ := (c.def_ i hi).fun_
  exact ⟨_, fd, meth_ok (c.fact hf), f, f.binds hb⟩
theorem mkBt (X : K.In h) (G : h.Ns mainGlobals mg) (c : SaysY fa ds tf exP h K) : Bt mg := by
  have f : ∀ x, Fa.free x ∈ fa → mg x = none := fun x hx => free_ok X G (c.fact hx)
  refine ⟨f _ ?_, f _ ?_, f _ ?_, f _ ?_, f _ ?_, f _ ?_, f _ ?_, f _ ?_, f _ ?_, f _ ?_, f _ ?_, f _ ?_, f _ ?_, f _ ?_, f _ ?_⟩ <;> (unfold fa; simp)
theorem mkInt (X : K.In h) (G : h.Ns mainGlobals mg) (c : SaysY fa ds tf exP h K) {x : Str} {i : Int} (hf : Fa.int x i ∈ fa) : GV mg x (.int i) := by
  obtain ⟨t, e⟩ := int_ok X G (c.fact hf)
  exact ⟨_, e, t, rfl⟩
theorem mkStr (X : K.In h) (G : h.Ns mainGlobals mg) (c : SaysY fa ds tf exP h K) {x z : Str} (hf : Fa.str x z ∈ fa) : GV mg x (.str z) := by
  obtain ⟨t, e⟩ := str_ok X G (c.fact hf)
  exact ⟨_, e, t, rfl⟩
theorem mkDfS (c : SaysY fa ds tf exP h K) (m q : Str) (st : Stmt) (ps : List Str) (i : Nat) (hi : ds[i]? = some ⟨fun K => ma K (ga K "Kind") m, m, q, st⟩) (hf : Fa.meth "Kind" m ∈ fa)
    (hb : ∀ (kV doc pm : Value) (an : Option Addr) (cdv ct : Value) (us : List Value), us.length = ps.length → bindArgs (PySem.W.fnOf m q (defArgs st) (defBody st) (defScope st) .none kV doc pm an cdv ct) ⟨us, []⟩ = pure (ps.zip us)) : DfS K (ga K "Kind") m q st ps := by
  obtain ⟨fd, F⟩ := (c.def_ i hi).fun_
  have m1 := meth_ok (c.fact hf)
  exact ⟨_, fd, ⟨m1.at_, m1.fn⟩, F, F.binds hb⟩
theorem mkDfP (c : SaysY fa ds tf exP h K) (m q : Str) (st : Stmt) (i : Nat) (hi : ds[i]? = some ⟨fun K => getP K m, m, q, st⟩) (hp : propB K m = true)
    (hb : ∀ (kV doc pm : Value) (an : Option Addr) (cdv ct : Value) (us : List Value), us.length = (["self"] : List Str).length → bindArgs (PySem.W.fnOf m q (defArgs st) (defBody st) (defScope st) .none kV doc pm an cdv ct) ⟨us, []⟩ = pure ((["self"] : List Str).zip us)) : DfP K (ga K "Kind") m q st := by
  obtain ⟨x1, e1⟩ := ba hp
  obtain ⟨x2, e2⟩ := ba e1
  obtain ⟨x3, x4⟩ := ba e2
  obtain ⟨fd, F⟩ := (c.def_ i hi).fun_
  refine ⟨ma K (ga K "Kind") m, getP K m, fd, ⟨eqO_ok x1, eqO_ok x2, of_decide_eq_true x3, ?_⟩, F, F.binds hb⟩
  unfold getP
  split at x4
  · rename_i g rest e
    exact ⟨rest, by rw [e]⟩
  · cases x4
theorem mkDfMC (c : SaysY fa ds tf exP h K) (cl m q : Str) (st : Stmt) (ps : List Str) (i : Nat) (hi : ds[i]? = some ⟨fun K => ma K (ga K cl) m, m, q, st⟩) (hf : Fa.meth cl m ∈ fa)
    (hb : ∀ (kV doc pm : Value) (an : Option Addr) (cdv ct : Value) (us : List Value), us.length = ps.length → bindArgs (PySem.W.fnOf m q (defArgs st) (defBody st) (defScope st) .none kV doc pm an cdv ct) ⟨us, []⟩ = pure (ps.zip us)) : DfM K (ga K cl) m q st ps := by
  obtain ⟨fd, f⟩ := (c.def_ i hi).fun_
  exact ⟨_, fd, meth_ok (c.fact hf), f, f.binds hb⟩
theorem mkDfSC (c : SaysY fa ds tf exP h K) (cl m q : Str) (st : Stmt) (ps : List Str) (i : Nat) (hi : ds[i]? = some ⟨fun K => ma K (ga K cl) m, m, q, st⟩) (hf : Fa.meth cl m ∈ fa)
    (hb : ∀ (kV doc pm : Value) (an : Option Addr) (cdv ct : Value) (us : List Value), us.length = ps.length → bindArgs (PySem.W.fnOf m q (defArgs st) (defBody st) (defScope st) .none kV doc pm an cdv ct) ⟨us, []⟩ = pure (ps.zip us)) : DfS K (ga K cl) m q st ps := by
  obtain ⟨fd, F⟩ := (c.def_ i hi).fun_
  have m1 := meth_ok (c.fact hf)
  exact ⟨_, fd, ⟨m1.at_, m1.fn⟩, F, F.binds hb⟩
theorem mkDfPC (c : SaysY fa ds tf exP h K) (cl m q : Str) (st : Stmt) (i : Nat) (hi : ds[i]? = some ⟨fun K => getPC K cl m, m, q, st⟩) (hp : propC K cl m = true)
    (hb : ∀ (kV doc pm : Value) (an : Option Addr) (cdv ct : Value) (us : List Value), us.length = (["self"] : List Str).length → bindArgs (PySem.W.fnOf m q (defArgs st) (defBody st) (defScope st) .none kV doc pm an cdv ct) ⟨us, []⟩ = pure ((["self"] : List Str).zip us)) : DfP K (ga K cl) m q st := by
  obtain ⟨x1, e1⟩ := ba hp
  obtain ⟨x2, e2⟩ := ba e1
  obtain ⟨x3, x4⟩ := ba e2
  obtain ⟨fd, F⟩ := (c.def_ i hi).fun_
  refine ⟨ma K (ga K cl) m, getPC K cl m, fd, ⟨eqO_ok x1, eqO_ok x2, of_decide_eq_true x3, ?_⟩, F, F.binds hb⟩
  unfold getPC
  split at x4
  · rename_i g rest e
    exact ⟨rest, by rw [e]⟩
  · cases x4
theorem excB_ok {C : Addr} (e : excB K C = true) : ∃ nm q N bs bm sn sub ab col dd k0 k1 k2 k3 k5, K.lookup C = some (excClassObj nm q C N bs bm true sn sub ab col dd k0 k1 k2 k3 k5 "OverflowError.__new__") ∧ PySem.TooX.refsOE bm = true := by
  unfold excB at e
  split at e
  · rename_i dd cd sl q
    split at e
    · rename_i C' bm k0 k1 k2 k3 n k5 m1 m2
      obtain ⟨a1, e⟩ := ba e
      obtain ⟨a2, e⟩ := ba e
      obtain ⟨a3, e⟩ := ba e
      obtain ⟨a4, a5⟩ := ba e
      have b1 := of_decide_eq_true a1
      have b2 := of_decide_eq_true a2
      subst b1 b2
      obtain ⟨nm, bs, mro, N, qn, hdc, sn, sub, ab, col, dl⟩ := cd
      dsimp only at m1 a3 a4
      subst m1
      have b3 : dl = false := by
        cases dl
        · rfl
        · cases a3
      subst a4 b3
      obtain ⟨sll⟩ := sl
      dsimp only at m2
      subst m2
      exact ⟨nm, qn, N, bs, bm, sn, sub, ab, col, dd, k0, k1, k2, k3, k5, q, a5⟩
    · cases e
  · cases e
theorem mkToo (X : K.In h) (G : h.Ns mainGlobals mg) (c : SaysY fa ds tf exP h K) (e : numB K = true) : PySem.TooX.TooTxt K mg (CN K) (FN K) := by
  obtain ⟨a1, e⟩ := ba e
  obtain ⟨a2, e⟩ := ba e
  obtain ⟨a3, e⟩ := ba e
  obtain ⟨a4, e⟩ := ba e
  obtain ⟨a5, e⟩ := ba e
  obtain ⟨a6, e⟩ := ba e
  obtain ⟨a7, e⟩ := ba e
  obtain ⟨a8, e⟩ := ba e
  obtain ⟨a9, e⟩ := ba e
  obtain ⟨b1, e⟩ := ba e
  obtain ⟨b2, e⟩ := ba e
  obtain ⟨b3, b4⟩ := ba e
  obtain ⟨oc, od, kV, doc, pm, an, cdv, ct, osl, l, ci⟩ := (c.def_ 34 (d := ⟨fun K => FN K, "__init__", "TooMany.__init__", inClass (top 8) 0⟩) rfl).ex
  have ek : kV = .none := by
    unfold noKw at b4
    rw [show K.lookup (FN K) = _ from l] at b4
    dsimp only at b4
    cases kV <;> first | rfl | cases b4
  subst ek
  exact { gC := glo_ok X G (c.fact (by unfold fa; simp)), cls := excB_ok a1, sa := eqO_ok a2, ga := eqO_ok a3, gg := eqO_ok a4, noN := eqO_ok a5, iC := eqO_ok a6, tC := of_decide_eq_true a7, kC := a8, exC := of_decide_eq_true a9, tyC := of_decide_eq_true b1, hdC := b2, te := of_decide_eq_true b3,
          fn := ⟨oc, od, doc, pm, an, cdv, ct, osl, _, _, _, _, _, _, l, ci⟩ }
theorem mkErr (X : K.In h) (G : h.Ns mainGlobals mg) (c : SaysY fa ds tf exP h K) {x : Str} (hf : Fa.glo x ∈ fa) (e : errB K (ga K x) = true) : ErrC K mg x (ga K x) := by
  obtain ⟨a1, e⟩ := ba e
  obtain ⟨a2, e⟩ := ba e
  obtain ⟨a3, a4⟩ := ba e
  exact ⟨glo_ok X G (c.fact hf), a1, ⟨_, _, _, _, PySem.F.excBase_ValueError, a2⟩, of_decide_eq_true a3, of_decide_eq_true a4⟩
theorem facts (X : K.In h) (G : h.Ns mainGlobals mg) (c : SaysY fa ds tf exP h K) {f : Addr} (hfa : mg ("law" : Str) = some (.ref f)) :
    ∃ fd : FuncData, (∀ (s : Shared) (u : Value), BindsTo s fd ⟨[u], []⟩ [("_law_script", u)]) ∧ ∀ base : Heap, K.In base → base.Ns mainGlobals mg → TabB base mg (cT K ("_law_sized_deed", none)).1 (cT K ("_law_sized_deed", none)).2 → FnOk P w K mg base CX0 13 f fd ["_law_script"] (sp_law K [((cT K ("_law_sized_deed", none)).2, QSz)]) := by
  have B := mkBt X G c
  have d_is_number_in : Df K mg "is_number_in" s_num ["value", "least", "most"] := mkDf X G c "is_number_in" s_num ["value", "least", "most"] 0 rfl (by unfold fa; simp) fun _ _ _ _ _ _ us hl => match us, hl with | [_, _, _], _ => rfl
  have d_need_number : Df K mg "need_number" s_need ["value", "least", "most"] := mkDf X G c "need_number" s_need ["value", "least", "most"] 1 rfl (by unfold fa; simp) fun _ _ _ _ _ _ us hl => match us, hl with | [_, _, _], _ => rfl
  have d_is_name : Df K mg "is_name" s_name ["value"] := mkDf X G c "is_name" s_name ["value"] 2 rfl (by unfold fa; simp) fun _ _ _ _ _ _ us hl => match us, hl with | [_], _ => rfl
  have d_need_kind : Df K mg "need_kind" s_needkind ["value"] := mkDf X G c "need_kind" s_needkind ["value"] 3 rfl (by unfold fa; simp) fun _ _ _ _ _ _ us hl => match us, hl with | [_], _ => rfl
  have d_is_pair : Df K mg "_is_pair" s_pair ["value", "size"] := mkDf X G c "_is_pair" s_pair ["value", "size"] 4 rfl (by unfold fa; simp) fun _ _ _ _ _ _ us hl => match us, hl with | [_, _], _ => rfl
  have d_is_row : Df K mg "_is_row" s_row ["value", "size"] := mkDf X G c "_is_row" s_row ["value", "size"] 5 rfl (by unfold fa; simp) fun _ _ _ _ _ _ us hl => match us, hl with | [_, _], _ => rfl
  have d_is_table : Df K mg "_is_table" s_table ["value"] := mkDf X G c "_is_table" s_table ["value"] 6 rfl (by unfold fa; simp) fun _ _ _ _ _ _ us hl => match us, hl with | [_], _ => rfl
  have d_is_state_tuple : Df K mg "_is_state_tuple" s_statet ["value", "many", "size"] := mkDf X G c "_is_state_tuple" s_statet ["value", "many", "size"] 7 rfl (by unfold fa; simp) fun _ _ _ _ _ _ us hl => match us, hl with | [_, _, _], _ => rfl
  have d_kind_over : Df K mg "_kind_over" s_over ["kind", "states", "numbers"] := mkDf X G c "_kind_over" s_over ["kind", "states", "numbers"] 8 rfl (by unfold fa; simp) fun _ _ _ _ _ _ us hl => match us, hl with | [_, _, _], _ => rfl
  have d_is_team : Df K mg "_is_team" s_team ["value", "kind"] := mkDf X G c "_is_team" s_team ["value", "kind"] 9 rfl (by unfold fa; simp) fun _ _ _ _ _ _ us hl => match us, hl with | [_, _], _ => rfl
  have d_law_purse_of : Df K mg "_law_purse_of" s_purse ["_law_script", "_law_at"] := mkDf X G c "_law_purse_of" s_purse ["_law_script", "_law_at"] 10 rfl (by unfold fa; simp) fun _ _ _ _ _ _ us hl => match us, hl with | [_, _], _ => rfl
  have d_law_coin : Df K mg "_law_coin" s_coin ["_law_purse", "_law_total"] := mkDf X G c "_law_coin" s_coin ["_law_purse", "_law_total"] 11 rfl (by unfold fa; simp) fun _ _ _ _ _ _ us hl => match us, hl with | [_, _], _ => rfl
  have d_law_pick : Df K mg "_law_pick" s_lpick ["_law_purse", "_law_items"] := mkDf X G c "_law_pick" s_lpick ["_law_purse", "_law_items"] 12 rfl (by unfold fa; simp) fun _ _ _ _ _ _ us hl => match us, hl with | [_, _], _ => rfl
  have d_law_some_of : Df K mg "_law_some_of" s_someof ["_law_purse", "_law_items", "_law_size"] := mkDf X G c "_law_some_of" s_someof ["_law_purse", "_law_items", "_law_size"] 13 rfl (by unfold fa; simp) fun _ _ _ _ _ _ us hl => match us, hl with | [_, _, _], _ => rfl
  have d_law_table_drawn : Df K mg "_law_table_drawn" s_tdrawn ["_law_purse", "_law_size", "_law_few"] := mkDf X G c "_law_table_drawn" s_tdrawn ["_law_purse", "_law_size", "_law_few"] 14 rfl (by unfold fa; simp) fun _ _ _ _ _ _ us hl => match us, hl with | [_, _, _], _ => rfl
  have d_law_plan_drawn : Df K mg "_law_plan_drawn" s_pdrawn ["_law_purse", "_law_size", "_law_few", "_law_threads"] := mkDf X G c "_law_plan_drawn" s_pdrawn ["_law_purse", "_law_size", "_law_few", "_law_threads"] 15 rfl (by unfold fa; simp) fun _ _ _ _ _ _ us hl => match us, hl with | [_, _, _, _], _ => rfl
  have d_law_plan_of : Df K mg "_law_plan_of" s_planof ["_law_parts"] := mkDf X G c "_law_plan_of" s_planof ["_law_parts"] 16 rfl (by unfold fa; simp) fun _ _ _ _ _ _ us hl => match us, hl with | [_], _ => rfl
  have d_law_normal_teams : Df K mg "_law_normal_teams" s_nteams ["_law_parts"] := mkDf X G c "_law_normal_teams" s_nteams ["_law_parts"] 17 rfl (by unfold fa; simp) fun _ _ _ _ _ _ us hl => match us, hl with | [_], _ => rfl
  have d_law_turned_table : Df K mg "_law_turned_table" s_ttab ["_law_table", "_law_change", "_law_numbers"] := mkDf X G c "_law_turned_table" s_ttab ["_law_table", "_law_change", "_law_numbers"] 18 rfl (by unfold fa; simp) fun _ _ _ _ _ _ us hl => match us, hl with | [_, _, _], _ => rfl
  have d_law_tried : Df K mg "_law_tried" s_met ["_law_call"] := mkDf X G c "_law_tried" s_met ["_law_call"] 19 rfl (by unfold fa; simp) fun _ _ _ _ _ _ us hl => match us, hl with | [_], _ => rfl
  have d_law_named_deed : Df K mg "_law_named_deed" s_ndeed ["_law_purse", "_law_plan", "_law_parts"] := mkDf X G c "_law_named_deed" s_ndeed ["_law_purse", "_law_plan", "_law_parts"] 21 rfl (by unfold fa; simp) fun _ _ _ _ _ _ us hl => match us, hl with | [_, _, _], _ => rfl
  have d_law_deed : Df K mg "_law_deed" s_pdeed ["_law_purse", "_law_plan", "_law_parts"] := mkDf X G c "_law_deed" s_pdeed ["_law_purse", "_law_plan", "_law_parts"] 22 rfl (by unfold fa; simp) fun _ _ _ _ _ _ us hl => match us, hl with | [_, _, _], _ => rfl
  have d_law_is_like : Df K mg "_law_is_like" s_like ["_law_plan", "_law_parts"] := mkDf X G c "_law_is_like" s_like ["_law_plan", "_law_parts"] 23 rfl (by unfold fa; simp) fun _ _ _ _ _ _ us hl => match us, hl with | [_, _], _ => rfl
  have d_law_right : Df K mg "_law_right" s_pright ["_law_purse"] := mkDf X G c "_law_right" s_pright ["_law_purse"] 24 rfl (by unfold fa; simp) fun _ _ _ _ _ _ us hl => match us, hl with | [_], _ => rfl
  have gb : Gb mg := ⟨mkInt X G c (by unfold fa; simp), mkInt X G c (by unfold fa; simp), mkInt X G c (by unfold fa; simp), mkInt X G c (by unfold fa; simp), mkStr X G c (by unfold fa; simp)⟩
  have T : Kc K (ga K "Kind") := ⟨cls_ok (c.fact (f := .cls "Kind") (by unfold fa; simp)), noat_ok (c.fact (f := .noat "Kind" "_table") (by unfold fa; simp)), noat_ok (c.fact (f := .noat "Kind" "_size") (by unfold fa; simp))⟩
  have gC : mg "Kind" = some (.ref (ga K "Kind")) := glo_ok X G (c.fact (by unfold fa; simp))
  have di : DfC K mg "Kind" (ga K "Kind") "Kind.__init__" s_init ["self", "operations"] := by
    obtain ⟨fd, F⟩ := (c.def_ 26 (d := ⟨fun K => ma K (ga K "Kind") "__init__", "__init__", "Kind.__init__", s_init⟩) rfl).fun_
    exact ⟨_, fd, gC, mkr_ok (c.fact (f := .mkr "Kind") (by unfold fa; simp)), F, F.binds fun _ _ _ _ _ _ us hl => match us, hl with | [_, _], _ => rfl⟩
  have m_renamed : DfM K (ga K "Kind") "renamed" "Kind.renamed" s_renamed ["self", "names"] := mkDfM c "renamed" "Kind.renamed" s_renamed ["self", "names"] 27 rfl (by unfold fa; simp) fun _ _ _ _ _ _ us hl => match us, hl with | [_, _], _ => rfl
  have m_turned : DfM K (ga K "Kind") "turned" "Kind.turned" s_turned ["self", "numbers"] := mkDfM c "turned" "Kind.turned" s_turned ["self", "numbers"] 28 rfl (by unfold fa; simp) fun _ _ _ _ _ _ us hl => match us, hl with | [_, _], _ => rfl
  have m_is_renaming : DfM K (ga K "Kind") "_is_renaming" "Kind._is_renaming" s_isren ["self", "names"] := mkDfM c "_is_renaming" "Kind._is_renaming" s_isren ["self", "names"] 29 rfl (by unfold fa; simp) fun _ _ _ _ _ _ us hl => match us, hl with | [_, _], _ => rfl
  have m_contains : DfIn K (ga K "Kind") "Kind.__contains__" s_cont ["self", "x"] := by
    obtain ⟨fd, F⟩ := (c.def_ 30 (d := ⟨fun K => ma K (ga K "Kind") "__contains__", "__contains__", "Kind.__contains__", s_cont⟩) rfl).fun_
    have m := meth_ok (c.fact (f := .meth "Kind" "__contains__") (by unfold fa; simp))
    exact ⟨_, fd, ⟨m.at_, m.fn⟩, F, F.binds fun _ _ _ _ _ _ us hl => match us, hl with | [_, _], _ => rfl⟩
  have m_eq : DfS K (ga K "Kind") "__eq__" "Kind.__eq__" s_keq ["self", "other"] := mkDfS c "__eq__" "Kind.__eq__" s_keq ["self", "other"] 31 rfl (by unfold fa; simp) fun _ _ _ _ _ _ us hl => match us, hl with | [_, _], _ => rfl
  obtain ⟨x1, e1⟩ := ba c.more
  obtain ⟨x2, e2⟩ := ba e1
  obtain ⟨Px1, Pe1⟩ := ba e2
  obtain ⟨Px2, Pe2⟩ := ba Pe1
  obtain ⟨Px3, Pe3⟩ := ba Pe2
  obtain ⟨Px4, Pe4⟩ := ba Pe3
  obtain ⟨Px5, Pe5⟩ := ba Pe4
  obtain ⟨z1, ze1⟩ := ba Pe5
  obtain ⟨z2, ze2⟩ := ba ze1
  obtain ⟨z3, ze3⟩ := ba ze2
  obtain ⟨z4, ze4⟩ := ba ze3
  obtain ⟨y1, f1⟩ := ba ze4
  obtain ⟨y2, f2⟩ := ba f1
  obtain ⟨y3, f3⟩ := ba f2
  obtain ⟨y4, f4⟩ := ba f3
  obtain ⟨y5, y6⟩ := ba f4
  have EQ : EqM K (ga K "Kind") := ⟨eqO_ok y1, of_decide_eq_true y2⟩
  have TE : KcE K (ga K "Kind") := ⟨of_decide_eq_true y3, eqO_ok y4, eqO_ok y5, of_decide_eq_true y6, of_decide_eq_true y2⟩
  have p_operations : DfP K (ga K "Kind") "operations" "Kind.operations" s_ops := mkDfP c "operations" "Kind.operations" s_ops 32 rfl x1 fun _ _ _ _ _ _ us hl => match us, hl with | [_], _ => rfl
  have p_size : DfP K (ga K "Kind") "size" "Kind.size" s_size := mkDfP c "size" "Kind.size" s_size 33 rfl x2 fun _ _ _ _ _ _ us hl => match us, hl with | [_], _ => rfl
  have PC : Kp K (ga K "Plan") := ⟨cls_ok (c.fact (f := .cls "Plan") (by unfold fa; simp)), noat_ok (c.fact (f := .noat "Plan" "_kind") (by unfold fa; simp)), noat_ok (c.fact (f := .noat "Plan" "_start") (by unfold fa; simp)), noat_ok (c.fact (f := .noat "Plan" "_teams") (by unfold fa; simp)), noat_ok (c.fact (f := .noat "Plan" "_threads") (by unfold fa; simp))⟩
  have PG : mg "Plan" = some (.ref (ga K "Plan")) := glo_ok X G (c.fact (by unfold fa; simp))
  have PI : DfC K mg "Plan" (ga K "Plan") "Plan.__init__" s_pinit ["self", "kind", "start", "first", "second"] := by
    obtain ⟨fd, F⟩ := (c.def_ 35 (d := ⟨fun K => ma K (ga K "Plan") "__init__", "__init__", "Plan.__init__", s_pinit⟩) rfl).fun_
    exact ⟨_, fd, PG, mkr_ok (c.fact (f := .mkr "Plan") (by unfold fa; simp)), F, F.binds fun _ _ _ _ _ _ us hl => match us, hl with | [_, _, _, _, _], _ => rfl⟩
  have Pm_team_of : DfM K (ga K "Plan") "team_of" "Plan.team_of" s_teamof ["self", "thread"] := mkDfMC c "Plan" "team_of" "Plan.team_of" s_teamof ["self", "thread"] 36 rfl (by unfold fa; simp) fun _ _ _ _ _ _ us hl => match us, hl with | [_, _], _ => rfl
  have Pm_fewer : DfM K (ga K "Plan") "fewer" "Plan.fewer" s_fewer ["self", "thread"] := mkDfMC c "Plan" "fewer" "Plan.fewer" s_fewer ["self", "thread"] 37 rfl (by unfold fa; simp) fun _ _ _ _ _ _ us hl => match us, hl with | [_, _], _ => rfl
  have Pm_more : DfM K (ga K "Plan") "more" "Plan.more" s_pmore ["self", "team", "name"] := mkDfMC c "Plan" "more" "Plan.more" s_pmore ["self", "team", "name"] 38 rfl (by unfold fa; simp) fun _ _ _ _ _ _ us hl => match us, hl with | [_, _, _], _ => rfl
  have Pm_exchanged : DfM K (ga K "Plan") "exchanged" "Plan.exchanged" s_exch ["self"] := mkDfMC c "Plan" "exchanged" "Plan.exchanged" s_exch ["self"] 39 rfl (by unfold fa; simp) fun _ _ _ _ _ _ us hl => match us, hl with | [_], _ => rfl
  have Pm_normal : DfM K (ga K "Plan") "normal" "Plan.normal" s_normal ["self"] := mkDfMC c "Plan" "normal" "Plan.normal" s_normal ["self"] 40 rfl (by unfold fa; simp) fun _ _ _ _ _ _ us hl => match us, hl with | [_], _ => rfl
  have Pm_is_normal : DfM K (ga K "Plan") "is_normal" "Plan.is_normal" s_isnorm ["self"] := mkDfMC c "Plan" "is_normal" "Plan.is_normal" s_isnorm ["self"] 41 rfl (by unfold fa; simp) fun _ _ _ _ _ _ us hl => match us, hl with | [_], _ => rfl
  have Pm_renamed : DfM K (ga K "Plan") "renamed" "Plan.renamed" s_pren ["self", "names"] := mkDfMC c "Plan" "renamed" "Plan.renamed" s_pren ["self", "names"] 42 rfl (by unfold fa; simp) fun _ _ _ _ _ _ us hl => match us, hl with | [_, _], _ => rfl
  have Pm_turned : DfM K (ga K "Plan") "turned" "Plan.turned" s_pturn ["self", "numbers"] := mkDfMC c "Plan" "turned" "Plan.turned" s_pturn ["self", "numbers"] 43 rfl (by unfold fa; simp) fun _ _ _ _ _ _ us hl => match us, hl with | [_, _], _ => rfl
  have Pm_with_team : DfM K (ga K "Plan") "_with_team" "Plan._with_team" s_wteam ["self", "team", "names"] := mkDfMC c "Plan" "_with_team" "Plan._with_team" s_wteam ["self", "team", "names"] 44 rfl (by unfold fa; simp) fun _ _ _ _ _ _ us hl => match us, hl with | [_, _, _], _ => rfl
  have Pm_len : DfS K (ga K "Plan") "__len__" "Plan.__len__" s_plen ["self"] := mkDfSC c "Plan" "__len__" "Plan.__len__" s_plen ["self"] 45 rfl (by unfold fa; simp) fun _ _ _ _ _ _ us hl => match us, hl with | [_], _ => rfl
  have Pm_eq : DfS K (ga K "Plan") "__eq__" "Plan.__eq__" s_peq ["self", "other"] := mkDfSC c "Plan" "__eq__" "Plan.__eq__" s_peq ["self", "other"] 46 rfl (by unfold fa; simp) fun _ _ _ _ _ _ us hl => match us, hl with | [_, _], _ => rfl
  obtain ⟨Py1, Pf1⟩ := ba Px5
  obtain ⟨Py2, Pf2⟩ := ba Pf1
  obtain ⟨Py3, Pf3⟩ := ba Pf2
  obtain ⟨Py4, Pf4⟩ := ba Pf3
  obtain ⟨Py5, Py6⟩ := ba Pf4
  have PEQ : EqM K (ga K "Plan") := ⟨eqO_ok Py1, of_decide_eq_true Py2⟩
  have PTE : KcE K (ga K "Plan") := ⟨of_decide_eq_true Py3, eqO_ok Py4, eqO_ok Py5, of_decide_eq_true Py6, of_decide_eq_true Py2⟩
  have Pp_kind : DfP K (ga K "Plan") "kind" "Plan.kind" s_pkind := mkDfPC c "Plan" "kind" "Plan.kind" s_pkind 47 rfl Px1 fun _ _ _ _ _ _ us hl => match us, hl with | [_], _ => rfl
  have Pp_start : DfP K (ga K "Plan") "start" "Plan.start" s_pstart := mkDfPC c "Plan" "start" "Plan.start" s_pstart 48 rfl Px2 fun _ _ _ _ _ _ us hl => match us, hl with | [_], _ => rfl
  have Pp_teams : DfP K (ga K "Plan") "teams" "Plan.teams" s_pteams := mkDfPC c "Plan" "teams" "Plan.teams" s_pteams 49 rfl Px3 fun _ _ _ _ _ _ us hl => match us, hl with | [_], _ => rfl
  have Pp_threads : DfP K (ga K "Plan") "threads" "Plan.threads" s_pthreads := mkDfPC c "Plan" "threads" "Plan.threads" s_pthreads 50 rfl Px4 fun _ _ _ _ _ _ us hl => match us, hl with | [_], _ => rfl
  have i_MAX_THREADS : GV mg "MAX_THREADS" (.int 6) := mkInt X G c (by unfold fa; simp)
  have TX := mkToo X G c z1
  have ER : ErrC K mg "InvalidOperation" (CO K) := mkErr X G c (by unfold fa; simp) z2
  obtain ⟨w1, wf⟩ := ba z3
  obtain ⟨w2, w3⟩ := ba wf
  have MC : MetC K (CO K) (CN K) := ⟨of_decide_eq_true w1, of_decide_eq_true w2, of_decide_eq_true w3⟩
  have hS : PySem.W.kitOne K (.ref (ga K "Plan")) (.type "str") = some false := of_decide_eq_true z4
  have Bs : mg "set" = none := free_ok X G (c.fact (f := .free "set") (by unfold fa; simp))
  have Bz : mg "zip" = none := free_ok X G (c.fact (f := .free "zip") (by unfold fa; simp))
  have B_sum : mg "sum" = none := free_ok X G (c.fact (f := .free "sum") (by unfold fa; simp))
  have Br : mg "repr" = none := free_ok X G (c.fact (f := .free "repr") (by unfold fa; simp))
  have FA := c.def_ 25 (d := ⟨fun K => ga K "law", "law", "law", s_law⟩) rfl
  obtain ⟨oc, od, kV, doc, pm, an, cdv, ct, osl, l, ci⟩ := FA.ex
  have FL := fun_mk (st := s_law) l ci FA.kp
  have hl := hfa.symm.trans (glo_ok X G (c.fact (f := .glo "law") (by unfold fa; simp)))
  have ef : f = ga K "law" := by
    cases hl
    rfl
  refine ⟨PySem.W.fnOf "law" "law" (defArgs s_law) (defBody s_law) (defScope s_law) .none kV doc pm an cdv ct, fun s u => .of_eq rfl, fun base _ _ tb => ?_⟩
  rw [ef]
  have FC := c.def_ 20 (d := ⟨fun K => ga K "_law_sized_deed", "_law_sized_deed", "_law_sized_deed", s_sdeed⟩) rfl
  have dc : DfL K mg base "_law_sized_deed" s_sdeed ["_law_purse", "_law_plan", "_law_parts"] (cT K ("_law_sized_deed", none)).1 (cT K ("_law_sized_deed", none)).2 := by
    obtain ⟨oc, od, kV, doc, pm, an, cdv, ct, osl, l, ci⟩ := FC.ex
    obtain ⟨cc, ecc⟩ := codeIn_ref ci
    subst ecc
    have ec : codeOf K ("_law_sized_deed", none) = cc := codeOf_eq (p := ("_law_sized_deed", none)) l rfl
    refine ⟨⟨_, oc, od, kV, doc, pm, an, ct, osl, glo_ok X G (c.fact (by unfold fa; simp)), FC.kp, ?_, ?_, ?_⟩, tb⟩
    · rw [show (cT K ("_law_sized_deed", none)).1 = cc from ec]
      exact l
    · rw [show (cT K ("_law_sized_deed", none)).1 = cc from ec]
      exact ci
    · exact .all fun us hl => match us, hl with | [_, _, _], _ => rfl
  have o_num := ok_num (P := P) (w := w) (base := base) B d_is_number_in
  have o_need := ok_need o_num d_need_number
  have o_name := ok_name (P := P) (w := w) (base := base) B gb d_is_name
  have o_pair := ok_pair B gb o_num d_is_pair
  have o_row := ok_row B gb o_pair d_is_row
  have o_table := ok_table B gb o_name o_row d_is_table
  have o_init := ok_init B T o_table di
  have o_cont := ok_cont (P := P) (w := w) (mg := mg) (base := base) B T m_contains
  have o_size := ok_size (P := P) (w := w) (mg := mg) (base := base) T p_size
  have o_ops := ok_ops (P := P) (w := w) (mg := mg) (base := base) B T p_operations
  have o_eq := ok_keq (P := P) (w := w) (mg := mg) (base := base) B T TE gC m_eq
  have o_needkind := ok_needkind (P := P) (w := w) (mg := mg) (base := base) B T TE gC d_need_kind
  have o_over := ok_over B T o_init o_ops d_kind_over
  have o_statet := ok_statet B o_num d_is_state_tuple
  have o_kturned := ok_turned B Bs T o_statet o_over m_turned
  have o_isren := ok_isrenB B T o_name o_cont m_is_renaming
  have o_renB := ok_renamedB B T o_init o_isren m_renamed
  have o_team := ok_team B o_cont d_is_team
  have o_pinit := ok_pinit B i_MAX_THREADS T PC o_needkind o_num o_size o_team PI
  have o_pkind := ok_pkind (C := ga K "Kind") (P := P) (w := w) (mg := mg) (base := base) PC Pp_kind
  have o_pstart := ok_pstart (C := ga K "Kind") (P := P) (w := w) (mg := mg) (base := base) PC Pp_start
  have o_pteams := ok_pteams (C := ga K "Kind") (P := P) (w := w) (mg := mg) (base := base) PC Pp_teams
  have o_pthr := ok_pthreads (C := ga K "Kind") (P := P) (w := w) (mg := mg) (base := base) PC Pp_threads
  have o_plen := ok_plen (C := ga K "Kind") (P := P) (w := w) (mg := mg) (base := base) B PC Pm_len
  have o_peq := ok_peqG B PC PTE PG o_eq Pm_eq
  have o_teamof := ok_teamof (C := ga K "Kind") B PC o_need Pm_team_of
  have o_wteam := ok_wteam PC o_pinit Pm_with_team
  have o_exch := ok_exch PC o_pinit Pm_exchanged
  have o_fewer := ok_fewer B ER PC o_teamof o_wteam Pm_fewer
  have o_more := ok_pmore B TX i_MAX_THREADS PC o_need o_cont o_wteam Pm_more
  have o_normal := ok_normal B PC o_pinit Pm_normal
  have o_isnorm := ok_isnorm B PC o_normal o_pteams Pm_is_normal
  have o_pturn := ok_pturn PC T o_kturned o_pinit Pm_turned
  have o_pren := ok_pren B PC T o_renB o_pinit Pm_renamed
  have o_purse := ok_purse (P := P) (w := w) (base := base) B d_law_purse_of
  have o_coin := ok_coin (P := P) (w := w) (base := base) B d_law_coin
  have o_pick := ok_pick B o_coin d_law_pick
  have o_someof := ok_someof B o_coin d_law_some_of
  have o_tdrawn := ok_tdrawn B o_coin o_someof o_pick d_law_table_drawn
  have o_pdrawn := ok_pdrawn B o_coin o_pick o_tdrawn d_law_plan_drawn
  have o_planof := ok_planof o_init o_pinit d_law_plan_of
  have o_nteams := ok_nteams (P := P) (w := w) (base := base) B d_law_normal_teams
  have o_ttab := ok_ttab (P := P) (w := w) (base := base) B d_law_turned_table
  have o_sdeed := ok_sdeed B B_sum PC (MetT.mk MC ER.mg ⟨_, TX⟩ d_law_tried Br) o_coin o_pick o_fewer o_more dc
  have o_ndeed := ok_ndeed B Bz PC o_coin o_pick o_someof o_ttab o_pturn o_pren d_law_named_deed
  have o_deed := ok_pdeed B PC o_coin o_sdeed o_ndeed o_exch o_normal o_nteams d_law_deed
  have o_like := ok_like B T PC PEQ o_peq o_pkind o_pstart o_pteams o_pthr o_ops o_exch o_normal o_isnorm o_planof o_nteams d_law_is_like
  have o_right := ok_pright B PC PTE hS o_peq o_plen o_pteams o_pthr o_fewer o_more o_coin o_pdrawn o_planof o_deed o_like d_law_right
  exact fn_law B PC o_init o_pinit o_pteams o_pthr o_normal o_fewer o_more o_purse o_right FL
end
end TmH
open PySem PySem.W PySem.Calls PyProof.Rows
theorem PySem.Challenge.cw_teamtells_k12_whole_histories_of_plans_holds : PySem.Challenge.rw_teamtells_k12_whole_histories_of_plans.Holds := by
  w_on; o_law
  refine HandSHeadRun.head_any (r := OpenLaw.row PySem.Challenge.rw_teamtells_k12_whole_histories_of_plans) (q := view (OpenLaw.row PySem.Challenge.rw_teamtells_k12_whole_histories_of_plans).prog [46]) (H := TmH.hk) (ob := TmH.ob) (M := 6000) (loose := TmH.loose) (d := HandSHeadRun.topDef (OpenLaw.row PySem.Challenge.rw_teamtells_k12_whole_histories_of_plans).prog 46) (kwd := []) TmH.ob_eq
    (by kernel_rfl) (fun s => by kernel_rfl) TmH.run (by kernel_rfl) (by kernel_rfl) (by kernel_rfl) (by rfl) (by first | assumption | decide +kernel) (by decide +kernel) ⟨rfl, rfl, rfl, rfl, rfl, by decide +kernel⟩ ?hw ?hc
  case hw => w_witness2
  case hc =>
    refine LamX.walk_ofTsE (l := PySem.Challenge.rw_teamtells_k12_whole_histories_of_plans) (n := 63) (k := 13) (x := "_law_script") (CX := fun _ => L2.CX0) rfl (by decide) (by kernel_rfl) ⟨rfl, by decide, by decide⟩ ?F (fun _ _ _ _ _ z => z)
    intro w mg fa h Y G hmg0
    obtain ⟨K, KX, c⟩ := Y
    have hmg : mg ("law" : PySem.Str) = some (.ref fa) := by
      have e : (HandSHeadRun.topDef (OpenLaw.row PySem.Challenge.rw_teamtells_k12_whole_histories_of_plans).prog 46).name = ("law" : PySem.Str) := by kernel_rfl
      rw [← e]
      exact hmg0
    obtain ⟨fd, hb, hF⟩ := TmH.facts (P := (PySem.Challenge.rw_teamtells_k12_whole_histories_of_plans).prog) (w := w) KX G c hmg
    have mem : (("_law_sized_deed", none) : He.Defn) ∈ TmH.tf := List.mem_cons_self
    refine ⟨K, KX, fd, [He.cT K ("_law_sized_deed", none)], Tm.sp_law K [((He.cT K ("_law_sized_deed", none)).2, Tm.QSz)], fun p hp => ?_, fun p hp => ?_, fun p hp => ?_, hb, fun H a ns hl _ hT hS => ?_, fun base k1 k2 tb => hF base k1 k2 (tb _ List.mem_cons_self)⟩
    · rw [List.mem_singleton.mp hp]
      exact c.empty _ mem
    · rw [List.mem_singleton.mp hp]
      exact c.out _ mem
    · rw [List.mem_singleton.mp hp]
      exact codeHd_of_K KX (c.hd _ mem)
    · refine ⟨a, ns, rfl, hS, hl, fun p hp => ?_, fun _ => rfl⟩
      rw [List.mem_singleton.mp hp]
      exact LamX.TabS.nil (hT _ List.mem_cons_self)

