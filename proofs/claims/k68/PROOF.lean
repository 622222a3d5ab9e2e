import PyProof.Rows.All
import Wide.All
import OpenK.AllK
import Wide.FinOn
import KE.KStateDown
import HandS.ForMost
import HandS.ForExc
import HandS.More
import HandS.Defaults
import HandS.Head0
import HandS.Head1
import HandS.Head2
import HandS.HeadEnd
import HandS.HeadHook1
import HandS.HeadHook2
import HandS.EndBits
import HandS.ExcInit
import HandS.ExcField
import HandS.IsInst
import HandS.Wide
import HandS.WideBits
import HandS.Flow
import HandS.TryMany
import HandS.Small
import HandS.Strs
import HandS.SetFor
import HandS.SortInts
import HandS.TupLe
import HandS.Style
import HandS.Conv
import HandS.ExcCtx
import HandS.HotCalls
import HandS.ExcInitHot
import HandS.RaiseFrom
import HandS.FStr
import PyProof.FString3
import PyProof.Rows.StrIntSpec
import HandS.Text
import HandS.Evl
import HandS.Comp
import HandS.RevRange
import HandS.Star
import HandS.Zip
import HandS.Walk
import HandS.TupSets
import KE.GoesMore
import KE.GoesEnum
import HandS.Iter
import HandS.ExcIs
import KE.KExcIs
import HandS.ExcValue
import PySem.Challenge.RW_lowerwords_k68_whole_errors_side_by_side
import PyProof.StrCalls2
import PyProof.Rows.StrClose
set_option Elab.async false
set_option linter.all false
set_option maxRecDepth 100000
set_option maxHeartbeats 2000000
/-! the head: facts by names with one more Bool; the end with the script's bits -/
namespace Lw
open PySem PySem.Spec PyProof.Rows L2 He
abbrev AlE : Type := AlD × Bool
def obsE (n : Nat) (fa : List Fa) (fn : List DefD) (ex : PySem.W.Frag → Bool) (g : Addr → Option Obj) : AlE :=
  (obsDG n fa fn g, ex (frG g (asD g n)))
def valE (fn : List DefD) : AlE := (valD fn, true)
structure SaysE (fa : List Fa) (fn : List DefD) (ex : PySem.W.Frag → Bool) (K : PySem.W.Frag) : Prop where
  d : SaysD fa fn K
  x : ex K = true
def hookE (n : Nat) (fa : List Fa) (fn : List DefD) (ex : PySem.W.Frag → Bool) : PySem.W.Hook where
  α := AlE
  obs := fun s => obsE n fa fn ex s.heap.get?
  val := fun _ => valE fn
  says := fun _ h => ∃ K : PySem.W.Frag, K.In h ∧ SaysE fa fn ex K
  of := fun _ _ e => ⟨_, frG_in, congrArg Prod.fst e, congrArg Prod.snd e⟩
  keeps := fun _ _ _ ⟨K, hK, c⟩ k => ⟨K, PySem.W.Frag.In.keeps hK k, c⟩
theorem obsE_eq {n : Nat} {fa : List Fa} {fn : List DefD} {ex : PySem.W.Frag → Bool} {g : Addr → Option Obj} {s : Shared} (h : ∀ a, g a = s.heap.get? a) : obsE n fa fn ex g = (hookE n fa fn ex).obs s := by
  have e : g = s.heap.get? := funext h
  rw [e] <;> rfl

/-- an own exception class with an __init__ of its own: what OexC asks -/
def shapeB (C : Addr) : Obj → Bool
  | ⟨.type "type", _, .cls cd, sl⟩ => (match cd.mro, sl.toList with
    | .ref C' :: bm, [_, _, _, _, some (.builtin n), _] => decide (C' = C) && (decide (n = "ValueError.__new__") && (!cd.hasDel && (cd.hasDict && PySem.HandSPX.refsVE bm)))
    | _, _ => false)
  | _ => false
theorem shapeB_ok {C : Addr} {o : Obj} (h : shapeB C o = true) : ∃ nm q N bs bm sn sub ab col dd k0 k1 k2 k3 k5, o = excClassObj nm q C N bs bm true sn sub ab col dd k0 k1 k2 k3 k5 "ValueError.__new__" ∧ PySem.HandSPX.refsVE bm = true := by
  unfold shapeB at h
  split at h
  · rename_i dd cd sl
    split at h
    · rename_i C' bm k0 k1 k2 k3 n k5 hm hs
      obtain ⟨e1, h⟩ := ba h
      obtain ⟨e2, h⟩ := ba h
      obtain ⟨e3, h⟩ := ba h
      obtain ⟨e4, e5⟩ := ba h
      have e1 := of_decide_eq_true e1
      have e2 := of_decide_eq_true e2
      obtain ⟨nm, bs, mro, ns, qn, hd, sn, sub, ab, col, del⟩ := cd
      have hm : mro = .ref C' :: bm := hm
      have e4 : hd = true := e4
      have e3 : del = false := by simpa using e3
      subst e1 e2 e3 e4 hm
      have hsl : sl = #[k0, k1, k2, k3, some (.builtin "ValueError.__new__"), k5] := by
        obtain ⟨l⟩ := sl
        have hs : l = _ := hs
        rw [hs]
      subst hsl
      exact ⟨nm, qn, ns, bs, bm, sn, sub, ab, col, dd, k0, k1, k2, k3, k5, rfl, e5⟩
    · cases h
  · cases h
def eqV2 (a b : Option Value) : Bool := decide (a = b)
/-- an exception class x of the text with an __init__: the fields fs are no attributes of the class -/
def excB (x : Str) (fs : List Str) (K : PySem.W.Frag) : Bool :=
  (match K.lookup (ga K x) with
    | some o => shapeB (ga K x) o
    | none => false) &&
  (eqO (PySem.W.findIn K (.ref (ga K x)) "__setattr__") (some (some (.builtin "object.__setattr__"))) &&
  (decide (PySem.W.subIn K (.ref (ga K x)) (.type "BaseException") = some true) &&
  (eqV2 (PySem.W.typeIn K (.ref (ga K x))) (some (.type "type")) &&
  (PySem.W.keepIn K (.ref (ga K x)) &&
  (eqO (PySem.W.findIn K (.ref (ga K x)) "__init__") (some (some (.ref (ma K (ga K x) "__init__")))) &&
  (eqV2 (PySem.W.typeIn K (.ref (ma K (ga K x) "__init__"))) (some (.type "function")) &&
  (xfB K (ga K x) && fs.all fun f => eqO (PySem.W.findIn K (.ref (ga K x)) f) (some none))))))))
structure ExcT (K : PySem.W.Frag) (x : Str) (fs : List Str) : Prop where
  o : OexC K (ga K x)
  i : PySem.W.findIn K (.ref (ga K x)) "__init__" = some (some (.ref (ma K (ga K x) "__init__")))
  t : PySem.W.typeIn K (.ref (ma K (ga K x) "__init__")) = some (.type "function")
  f : XfC K (ga K x)
  n : ∀ f ∈ fs, PySem.W.findIn K (.ref (ga K x)) f = some none
theorem excB_ok {x : Str} {fs : List Str} {K : PySem.W.Frag} (h : excB x fs K = true) : ExcT K x fs := by
  obtain ⟨h1, h⟩ := ba h
  obtain ⟨h2, h⟩ := ba h
  obtain ⟨h3, h⟩ := ba h
  obtain ⟨h4, h⟩ := ba h
  obtain ⟨h5, h⟩ := ba h
  obtain ⟨h6, h⟩ := ba h
  obtain ⟨h7, h⟩ := ba h
  obtain ⟨h8, h9⟩ := ba h
  refine ⟨⟨?_, eqO_ok h2, of_decide_eq_true h3, of_decide_eq_true h4, h5⟩, eqO_ok h6, of_decide_eq_true h7, xfB_ok h8, fun f hf => eqO_ok (List.all_eq_true.mp h9 f hf)⟩
  cases e : K.lookup (ga K x) with
  | none =>
    rw [e] at h1
    cases h1
  | some o =>
    rw [e] at h1
    obtain ⟨nm, q, N, bs, bm, sn, sub, ab, col, dd, k0, k1, k2, k3, k5, eo, hb⟩ := shapeB_ok h1
    exact ⟨nm, q, N, bs, bm, sn, sub, ab, col, dd, k0, k1, k2, k3, k5, by rw [eo], hb⟩

/-- the end of a law over a head by facts, the script's bits told -/
theorem walk_ofEB {l : PySem.W.OpenLaw} {n k : Nat} {q : Program} {loose : List Str} {XP : (Str → Option Value) → Heap → Prop} {YP : World → Heap → Prop} {d : DefRec} {CX : World → CXT} {x : Str}
    (hn : l.most = some n) (hn2 : n ≤ sizeLine) (hdf : d.params.defaults = []) (hr : Room k callerA)
    (F : ∀ (w : World) (mg : Str → Option Value) (fa : Addr) (h : Heap), YP w h → h.Ns mainGlobals mg → mg d.name = some (.ref fa) →
      ∃ (K : PySem.W.Frag) (fd : FuncData) (sp : Sp), K.In h ∧ (∀ (s : Shared) (u : Value), BindsTo s fd ⟨[u], []⟩ [(x, u)]) ∧
        (∀ (H : Hp) (a : Addr) (ns : List Int), ns.length ≤ n → (∀ z ∈ ns, Builtin.Int.intBits z ≤ 1048576) → Only H → SqL K H a (ns.map V.int) → sp [.ref a] H (fun v _ => v = .bl true) fun _ _ _ => False) ∧
        ∀ base : Heap, K.In base → base.Ns mainGlobals mg → FnOk l.prog w K mg base (CX w) k fa fd [x] sp)
    (hCX : ∀ (w : World) (H : Hp) (s : Shared) (e : Value) (s' : Shared), CX w [] H s (fun _ _ _ => False) e s' → False) :
    PySem.W.WalkO q loose XP YP l.row.toRowW d [] (fun f vs => PySem.call f vs) := by
  refine Att.attach_callB hn hdf fun w s₀ s₁ mg mb fa o pm cd doc a vs ns G Y ho hd hcd hmg hobj hints hlen hbits hg => ?_
  obtain ⟨K, fd, sp, KX, hb, hsp, hF⟩ := F w mg fa _ Y G.T.g hmg
  exact law_call KX G.T.g G.T.b G.T.builtins G.T.nolimit hg hobj hints (Nat.le_trans hlen hn2) hr hF hb (fun H hO hS => hsp H a ns hlen hbits hO hS) fun H e s' => hCX w H s₁ e s'
end Lw

set_option Elab.async false
set_option linter.all false
set_option maxRecDepth 100000
set_option maxHeartbeats 2000000
namespace Lw
open PySem PySem.Spec PyProof.Rows L2 He
/-! ### a constant of the text that is a tuple of ints -/
def intOf : Value → Option Int
  | .int i _ => some i
  | _ => none
def intsB (us : List Value) (ns : List Int) : Bool := decide (us.map intOf = ns.map some)
def tupB (x : Str) (ns : List Int) (K : PySem.W.Frag) : Bool :=
  match K.lookup (ga K x) with
  | some ⟨.type "tuple", _, .seq its _, _⟩ => intsB its.toList ns
  | _ => false
theorem intOf_ok {u : Value} {j : Int} (h : intOf u = some j) : ∃ t, u = .int j t := by
  unfold intOf at h
  split at h
  · rename_i i t
    exact ⟨t, by rw [Option.some.inj h]⟩
  · cases h
theorem intsB_ok {us : List Value} {ns : List Int} (h : intsB us ns = true) : Vals (ns.map V.int) us := by
  have e : us.map intOf = ns.map some := of_decide_eq_true h
  clear h
  induction us generalizing ns with
  | nil =>
    cases ns with
    | nil => exact .nil
    | cons _ _ => cases e
  | cons u r ih =>
    cases ns with
    | nil => cases e
    | cons j l =>
      rw [List.map_cons, List.map_cons] at e
      obtain ⟨e1, e2⟩ := List.cons.inj e
      obtain ⟨t, rfl⟩ := intOf_ok e1
      exact Paired.cons (show RelV (V.int j) (.int j t) from ⟨t, rfl⟩) (ih e2)
theorem tupB_ok {x : Str} {ns : List Int} {K : PySem.W.Frag} (h : tupB x ns K = true) (few : ns.length ≤ 1000) (H : Hp) : SqT K H (ga K x) (ns.map V.int) := by
  unfold tupB at h
  split at h
  · rename_i d its n sl e
    have vs := intsB_ok h
    refine .inr ⟨_, its, n, e, rfl, rfl, ?_, vs⟩
    have := Paired.length vs
    rw [List.length_map] at this
    rw [sizeLine_eq]
    have z : its.toList.length = its.size := by simp
    omega
  · cases h
end Lw

set_option Elab.async false
set_option linter.all false
set_option maxRecDepth 100000
set_option maxHeartbeats 2000000
namespace Lw
open PySem PySem.Spec PyProof.Rows L2 He
/-! ### exceptions in the air: their context is None -/
abbrev Takes := @L2N.Takes
theorem takes0 {X : Cx} : L2N.Takes X (fun _ _ _ _ => False) := fun u s' ⟨_, _, _, _, _, _, _, _, _, _, _, _, _, _, _, _, no⟩ => False.elim no
theorem takes_of {X : Cx} {E : XK} (hs : X.stack = X.env :: X.outer) (hf : X.env.frame = some X.env.locals) (hex : X.ex = []) {E₁ : Value → Shared → Prop}
    (hx : X.xe = fun v t => wpAny (model X.prog X.w) X.A (leaving X.env v) (fun _ t2 => L2N.CX X.prog X.w X.outer X.H_0 X.s_0 E v t2) E₁ t) : L2N.Takes X (fun cls d _ H => E cls d H) := L2N.takes_of hs hf hex hx
/-! ### calls of the text's own defs -/
structure Has (P : Program) (w : World) (K : PySem.W.Frag) (mg : Str → Option Value) (base : Heap) (k : Nat) (x : Str) (ps : List Str) (sp : Sp) : Prop where
  ex : ∃ fd, FnOk P w K mg base (L2N.CX P w) k (ga K x) fd ps sp ∧ Binds K fd ps []
  gl : mg x = some (.ref (ga K x))
  kp : PySem.W.keepIn K (.ref (ga K x)) = true
section
variable {X : Cx} {W : WX} {k : Nat} {x : Str} {ps : List Str} {sp : Sp} {t : TA} {p pos : Pos} {e : Expr} {es : List Expr}
theorem pe_H (h : Has X.prog X.w X.K X.mg X.base k x ps sp) (hr : Room k X.A) (tk : L2N.Takes X W) (ha : PA X (e :: es) t) (hg : Gl X x := by rfl) (hdb : (x == ("__debug__" : Str)) = false := by decide)
    (he : starEach (e :: es) X.env = (false, eval e X.env) :: starEach es X.env := by rfl) (hpl : (backTo pos (starEach es X.env)).any (·.1) = false := by rfl) :
    PE X (.Call (.Name x p) (e :: es) [] pos) (tCallS sp (WE W) t) := by
  obtain ⟨fd, F, b⟩ := h.ex
  exact pe_callS F hr hg h.gl h.kp b (fun σ => L2N.passAt tk σ) ha hdb he hpl
end
/-! ### raising the text's own errors -/
/-- an error of the class x without fields leaves -/
def Er0 (K : PySem.W.Frag) (x : Str) (E : XK) (H : Hp) : Prop := E (.ref (ga K x)) none H
/-- an error of the class x with the fields fs leaves -/
def Er (K : PySem.W.Frag) (x : Str) (fs : List (Str × V)) (E : XK) (H : Hp) : Prop := ∀ d, H d = none → E (.ref (ga K x)) (some d) (upd H d (.xd fs))
structure Ex0 (K : PySem.W.Frag) (mg : Str → Option Value) (x : Str) : Prop where
  g : mg x = some (.ref (ga K x))
  e : (Fa.exc x).ok K = true
def tRaise0 (K : PySem.W.Frag) (x : Str) (W : WX) : TS := fun _ σ H => W (.ref (ga K x)) none σ H
section
variable {X : Cx} {W : WX} {x : Str} {p pos pos2 : Pos}
theorem ps_raise0 (hc : X.calm = true) (tk : L2N.Takes X W) (T : Ex0 X.K X.mg x) (hg : Gl X x := by rfl) (hdb : (x == ("__debug__" : Str)) = false := by decide) :
    PS X (.Raise (some (.Call (.Name x p) [] [] pos)) none pos2) (tRaise0 X.K x W) := by
  obtain ⟨q, h⟩ := ba T.e
  obtain ⟨kC, h⟩ := ba h
  obtain ⟨h1, h2⟩ := ba h
  refine L2N.ps_raise (t := fun _ H Q => Q (.ref (ga X.K x)) none H) hc tk ?_
  intro pins s σ H Q I h
  refine wpAny_Call_Name_kw (ld_glob I hg T.g ?_ hdb)
  have ha : PA X [] tNil := pa_nil
  refine PySem.W.callWith_K0 I.kIn kC ?_
  show wpAny _ _ (call (.ref (ga X.K x)) []) _ _ _
  obtain ⟨bm, N, nm, qn, bs, hdct, sn, sub, ab, col, dd, k0, k1, k2, k3, k5, mN, hC, hN, hni, T⟩ := exc_obj I.kIn q
  refine wpAny_call_exc_subT F.excBase_ValueError T hC hN hni (fun h' e hm => ?_) (Nat.zero_le _)
  exact L2N.mk_of I hm (raises_own (of_decide_eq_true h1) (of_decide_eq_true h2)) h (I.hok.gone hm.new)
end
/-! ### the text's own __init__ of an error: self.f = f, one field or two -/
def spIni1 (K : PySem.W.Frag) (x f : Str) : Sp := fun vs H Q _ => ∃ (a : Addr) (v : V), vs = [.ref a, v] ∧ H a = some (exo a (ga K x) none) ∧
  ∀ d, H d = none → d ≠ a → Q .non (upd (upd H d (exd d [(f, v)])) a (exo a (ga K x) (some d)))
def spIni2 (K : PySem.W.Frag) (x f g : Str) : Sp := fun vs H Q _ => ∃ (a : Addr) (v w : V), vs = [.ref a, v, w] ∧ H a = some (exo a (ga K x) none) ∧
  ∀ d, H d = none → d ≠ a → Q .non (upd (upd (upd H d (exd d [(f, v)])) a (exo a (ga K x) (some d))) d (exd d [(g, w), (f, v)]))
/-- an error class with its __init__ -/
structure ExI (P : Program) (w : World) (K : PySem.W.Frag) (mg : Str → Option Value) (base : Heap) (k : Nat) (x : Str) (fs ps : List Str) (sp : Sp) : Prop where
  g : mg x = some (.ref (ga K x))
  T : ExcT K x fs
  F : ∃ fd, FnOk P w K mg base CX0 k (ma K (ga K x) "__init__") fd ps sp ∧ Binds K fd ps []
/-- X(e, ..): the class's own __init__ runs; the exception's context is None -/
theorem mkN {X : Cx} {Γ : CXT} {x : Str} {e0 : Expr} {er : List Expr} {ta : TA} {p pos : Pos} {C fI : Addr} {k : Nat} {fd : FuncData} {ps : List Str} {sp : Sp} (T : OexC X.K C) (hI : PySem.W.findIn X.K (.ref C) "__init__" = some (some (.ref fI)))
    (hT : PySem.W.typeIn X.K (.ref fI) = some (.type "function")) (G : FnOk X.prog X.w X.K X.mg X.base Γ k fI fd ps sp) (rm : Room (k + 1) X.A) (bd : Binds X.K fd ps []) (px : Passes Γ X (fun _ _ _ => False)) (gx : Gl X x) (mx : X.mg x = some (.ref C))
    (pa : PA X (e0 :: er) ta) (db : (x == ("__debug__" : Str)) = false) (st : starEach (e0 :: er) X.env = (false, eval e0 X.env) :: starEach er X.env) (pl : (backTo pos (starEach er X.env)).any (·.1) = false) :
    L2N.PMk X (.Call (.Name x p) (e0 :: er) [] pos) (tMkO C sp [] ta) := fun pins s σ H Q J wish => by
  obtain ⟨_, _, _, _, bm, _, _, _, _, _, _, _, _, _, _, atC, refs⟩ := T.cls
  apply wpAny_Call_Name_kw
  refine ld_glob J gx mx ?_ db
  refine PySem.W.callWith_K (h₀ := X.base) J.ok.mod.kin T.kC (thn (pa.run pos pins s σ H _ J wish) ?_) st pl
  rintro us ⟨hp, gs, dr, tk, os⟩ ⟨vs, H1, J1, rel, len1, wish1⟩
  refine ⟨J1.kIn, ?_⟩
  change wpAny _ _ (call (.ref C) us) _ _ _
  -- where the new exception stands
  obtain ⟨a, ea⟩ : ∃ a, a = hp.objs.size + 1 := ⟨_, rfl⟩
  have above : hp.objs.size ≤ a := by omega
  have w2 := wish1 a (J1.hok.fresh above)
  rw [List.append_nil] at w2
  obtain ⟨hp2, e2⟩ : ∃ h, h = (hp.push (PySem.W.kdv_tup us)).push (PySem.HandSPX.excO C hp.objs.size) := ⟨_, rfl⟩
  have kept : ∀ b o, hp.get? b = some o → hp2.get? b = some o := fun b o y => by
    rw [e2]
    exact Heap.get?_push_of_some _ (Heap.get?_push_of_some _ y)
  have new2 : hp2.get? a = some (PySem.HandSPX.excO C hp.objs.size) := by
    rw [e2, ea]
    heap_get
  have J2 : Inv X pins σ (upd H1 a (exo a C none)) ⟨hp2, gs, dr, tk, os⟩ := J1.laid (t' := tk) kept above (exo_ok new2)
  have rel2 : Vals (V.ref a :: vs) (Value.ref a :: us) := Paired.cons (show RelV (V.ref a) (Value.ref a) from rfl) rel
  have many : (Value.ref a :: us ++ []).length = ps.length := by
    rw [List.append_nil, ← rel2.length]
    exact G.len _ _ _ _ w2
  have few : us.length ≤ sizeLine := by
    have := Paired.length rel
    rw [sizeLine_eq]
    omega
  have bind2 := bd ⟨hp2, gs, dr, tk, os⟩ (Value.ref a :: us) J2.kIn many
  rw [List.append_nil] at bind2
  have body := G.run (X.A.under (.builtin "type.__call__" ⟨.ref C :: us, []⟩)) X.stack ⟨hp2, gs, dr, tk, os⟩ _ ⟨Value.ref a :: us, []⟩ (Value.ref a :: us) _ _ _ (rm.make C us []) (J2.env0.make C us []) bind2 rel2 w2
  rw [e2, ea] at body
  refine wpAny_call (PySem.HandSPX.call_own F.excBase_ValueError (fun q => PySem.HandSPX.refsVE_contains q bm refs) (J1.kIn _ _ atC) (PySem.W.looks_findIn J1.kIn hI) (fun self => PySem.W.bind_fn J1.kIn self hT) few (codeAny_mono body ?_))
  rintro (er2 | fl) s3 end3
  · exact px pins σ _ _ er2 s3 J2 (by rw [e2, ea]; exact end3)
  · cases fl with
    | next => exact False.elim end3
    | brk => exact False.elim end3
    | cont => exact False.elim end3
    | ret u =>
      obtain ⟨h3, g3, d3, t3, os3⟩ := s3
      obtain ⟨v, H3, eo, bare, un, ok3, rv, rfl, d, fs, at1, at2, free, last⟩ := end3
      obtain ⟨t0, G3, J3, back, gone, obj, na⟩ := mk_end0 (d2 := d3) (t2 := t3) J1 above kept (by rw [e2, ea]; exact un) ok3 eo bare (by rw [ea]; exact at1) at2 free
      refine ⟨rv, a, _, _, ⟨G3, g3, d3, t3, os3⟩, _, .ref C, some d, by rw [ea], J3, back, gone, obj, ⟨rfl, rfl, fun ws hw => ?_⟩, rfl, rfl, na, rfl, bare, raises_own T.exC T.tyC, by rw [ea]; exact last⟩
      cases hw
      rfl
/-- what the making of an error with one field, two fields wishes -/
def mk1 (K : PySem.W.Frag) (x f : Str) (W : WX) (σ : L2.St) : V → Hp → Prop := fun v H1 => [v].length ≤ 1000 ∧ ∀ a, H1 a = none → spIni1 K x f (.ref a :: ([v] ++ ([] : List V))) (upd H1 a (exo a (ga K x) none))
  (fun u H2 => u = .non ∧ ∃ (d : Addr) (fs : List (Str × V)), H2 a = some (exo a (ga K x) (some d)) ∧ H2 d = some (exd d fs) ∧ H1 d = none ∧ W (.ref (ga K x)) (some d) σ (upd (del H2 a) d (.xd fs))) (fun _ _ _ => False)
def mk2 (K : PySem.W.Frag) (x f g : Str) (W : WX) (σ : L2.St) : V → V → Hp → Prop := fun v w H1 => [v, w].length ≤ 1000 ∧ ∀ a, H1 a = none → spIni2 K x f g (.ref a :: ([v, w] ++ [])) (upd H1 a (exo a (ga K x) none))
  (fun u H2 => u = .non ∧ ∃ (d : Addr) (fs : List (Str × V)), H2 a = some (exo a (ga K x) (some d)) ∧ H2 d = some (exd d fs) ∧ H1 d = none ∧ W (.ref (ga K x)) (some d) σ (upd (del H2 a) d (.xd fs))) (fun _ _ _ => False)
def tRaise1 (K : PySem.W.Frag) (x f : Str) (W : WX) (te : TE) : TS := fun _ σ H => te σ H fun v H1 => mk1 K x f W σ v H1
def tRaise2 (K : PySem.W.Frag) (x f g : Str) (W : WX) (ta tb : TE) : TS := fun _ σ H => ta σ H fun v H1 => tb σ H1 fun w H2 => mk2 K x f g W σ v w H2
theorem heap_back1 {fs : List (Str × V)} {H : Hp} {a d C : Addr} {o u : HO} {z : HO} (ha : H a = none) (hd : upd H a z d = none) (ne : d ≠ a) :
    upd (del (upd (upd (upd H a z) d o) a u) a) d (.xd fs) = upd H d (.xd fs) := by
  funext b
  by_cases e : b = d
  · rw [e, upd_same, upd_same]
  · rw [upd_ne e, upd_ne e]
    by_cases e2 : b = a
    · rw [e2, del_same, ha]
    · rw [del_ne e2, upd_ne e2, upd_ne e, upd_ne e2]
theorem heap_back2 {fs : List (Str × V)} {H : Hp} {a d C : Addr} {o u y : HO} {z : HO} (ha : H a = none) (hd : upd H a z d = none) (ne : d ≠ a) :
    upd (del (upd (upd (upd (upd H a z) d o) a u) d y) a) d (.xd fs) = upd H d (.xd fs) := by
  funext b
  by_cases e : b = d
  · rw [e, upd_same, upd_same]
  · rw [upd_ne e, upd_ne e]
    by_cases e2 : b = a
    · rw [e2, del_same, ha]
    · rw [del_ne e2, upd_ne e, upd_ne e2, upd_ne e, upd_ne e2]
theorem none_up {H : Hp} {a d : Addr} {z : HO} (h : upd H a z d = none) (ne : d ≠ a) : H d = none := by
  rw [upd_ne ne] at h
  exact h
section
variable {X : Cx} {W : WX} {x f g : Str} {p pos pos2 : Pos} {e e2 : Expr} {te te2 : TE} {k : Nat}
theorem ps_raise1 (hc : X.calm = true) (tk : L2N.Takes X W) (T : ExI X.prog X.w X.K X.mg X.base k x [f] ["self", f] (spIni1 X.K x f)) (hr : Room (k + 1) X.A) (he : PE X e te) (hg : Gl X x := by rfl) (hdb : (x == ("__debug__" : Str)) = false := by decide)
    (hs : starEach [e] X.env = (false, eval e X.env) :: starEach [] X.env := by rfl) (hpl : (backTo pos (starEach [] X.env)).any (·.1) = false := by rfl) :
    PS X (.Raise (some (.Call (.Name x p) [e] [] pos)) none pos2) (tRaise1 X.K x f W te) := by
  obtain ⟨fd, F, b⟩ := T.F
  have h0 := L2N.ps_raise (pos := pos2) hc tk (mkN (p := p) (pos := pos) T.T.o T.T.i T.T.t F hr b pass0 hg T.g (pa_cons he pa_nil hs) hdb hs hpl)
  exact ⟨fun pins s σ H D I h => h0.run pins s σ H D I h⟩
theorem ps_raise2 (hc : X.calm = true) (tk : L2N.Takes X W) (T : ExI X.prog X.w X.K X.mg X.base k x [f, g] ["self", f, g] (spIni2 X.K x f g)) (hr : Room (k + 1) X.A) (he : PE X e te) (he2 : PE X e2 te2) (hg : Gl X x := by rfl) (hdb : (x == ("__debug__" : Str)) = false := by decide)
    (hs : starEach [e, e2] X.env = (false, eval e X.env) :: starEach [e2] X.env := by rfl) (hs2 : starEach [e2] X.env = (false, eval e2 X.env) :: starEach [] X.env := by rfl) (hpl : (backTo pos (starEach [e2] X.env)).any (·.1) = false := by rfl) :
    PS X (.Raise (some (.Call (.Name x p) [e, e2] [] pos)) none pos2) (tRaise2 X.K x f g W te te2) := by
  obtain ⟨fd, F, b⟩ := T.F
  have h0 := L2N.ps_raise (pos := pos2) hc tk (mkN (p := p) (pos := pos) T.T.o T.T.i T.T.t F hr b pass0 hg T.g (pa_cons he (pa_cons he2 pa_nil hs2) hs) hdb hs hpl)
  exact ⟨fun pins s σ H D I h => h0.run pins s σ H D I h⟩
end
theorem rd_mk1 {K : PySem.W.Frag} {x f : Str} {W : WX} {σ : L2.St} {v : V} {H : Hp} (q : ∀ d, H d = none → W (.ref (ga K x)) (some d) σ (upd H d (.xd [(f, v)]))) : mk1 K x f W σ v H := by
  refine ⟨by show 1 ≤ 1000; decide, fun a ha => ?_⟩
  refine ⟨a, v, rfl, upd_same, fun d hd ne => ⟨rfl, d, [(f, v)], upd_same, ?_, none_up hd ne, ?_⟩⟩
  · rw [upd_ne ne, upd_same]
  · rw [heap_back1 (C := a) ha hd ne]
    exact q d (none_up hd ne)
theorem rd_mk2 {K : PySem.W.Frag} {x f g : Str} {W : WX} {σ : L2.St} {v w : V} {H : Hp} (q : ∀ d, H d = none → W (.ref (ga K x)) (some d) σ (upd H d (.xd [(g, w), (f, v)]))) : mk2 K x f g W σ v w H := by
  refine ⟨by show 2 ≤ 1000; decide, fun a ha => ?_⟩
  refine ⟨a, v, w, rfl, upd_same, fun d hd ne => ⟨rfl, d, [(g, w), (f, v)], ?_, upd_same, none_up hd ne, ?_⟩⟩
  · rw [upd_ne (Ne.symm ne), upd_same]
  · rw [heap_back2 (C := a) ha hd ne]
    exact q d (none_up hd ne)
/-! ### calls where an exception is handled -/
structure HasH (P : Program) (w : World) (K : PySem.W.Frag) (mg : Str → Option Value) (base : Heap) (k : Nat) (x : Str) (ps : List Str) (sp : Sp) : Prop where
  ex : ∃ fd, L2H.FnH P w K mg base CX0 k (ga K x) fd ps sp ∧ Binds K fd ps []
  gl : mg x = some (.ref (ga K x))
  kp : PySem.W.keepIn K (.ref (ga K x)) = true
section
variable {X : Cx} {k j : Nat} {x : Str} {ps : List Str} {sp : Sp} {t : TA} {p pos : Pos} {e : Expr} {es : List Expr} {a : Addr} {oe : Obj} {cls : Value} {d : Option Addr} {pn : List (Addr × Obj)}
theorem hot_of (hz : L2N.Zn cls d oe) (hf : ∃ vs, oe.data = .fields vs) : L2H.HotC (X.suite a ((a, oe) :: pn)) := by
  obtain ⟨vs, hd⟩ := hf
  exact ⟨(a, oe), ⟨rfl, vs, hd, hz.2.2 vs hd⟩, List.mem_cons_self⟩
theorem pe_HH (h : HasH X.prog X.w X.K X.mg X.base k x ps sp) (hz : L2N.Zn cls d oe) (hf : ∃ vs, oe.data = .fields vs) (hr : Room j X.A) (hj : k ≤ j) (ha : PA (X.suite a ((a, oe) :: pn)) (e :: es) t) (hg : Gl X x := by rfl) (hdb : (x == ("__debug__" : Str)) = false := by decide)
    (he : starEach (e :: es) X.env = (false, eval e X.env) :: starEach es X.env := by rfl) (hpl : (backTo pos (starEach es X.env)).any (·.1) = false := by rfl) :
    PE (X.suite a ((a, oe) :: pn)) (.Call (.Name x p) (e :: es) [] pos) (tCallS sp (WE fun _ _ _ _ => False) t) := by
  obtain ⟨fd, F, b⟩ := h.ex
  exact L2H.pe_callH (X := X.suite a ((a, oe) :: pn)) (CX := CX0) F (L2H.roomH_mark (hr.mono hj) _) (hot_of hz hf) hg h.gl h.kp b (fun σ _ _ _ _ _ _ no => False.elim no) ha hdb he hpl
/-- a statement that is never reached -/
theorem ps_dead {s : Stmt} : PS X s (fun _ _ _ => False) := ⟨fun _ _ _ _ _ _ no => False.elim no⟩
end
end Lw

set_option Elab.async false
set_option linter.all false
set_option maxRecDepth 100000
set_option maxHeartbeats 2000000
namespace Lw
open PySem PySem.Spec PyProof.Rows L2 He
/-! ### kinds of things -/
def kinds : List String := ["NoneType", "bool", "int", "str", "list", "tuple", "dict"]
def isTab (n T : String) : Bool := n == T || (n == "bool" && T == "int")
theorem isTab_ok : ∀ n ∈ kinds, ∀ T ∈ kinds, kitB n T = some (isTab n T) := by decide +kernel
/-- a thing of a kind -/
structure Th (K : PySem.W.Frag) (H : Hp) (x : V) (n : String) : Prop where
  t : TyX K H x (.type n)
  k : n ∈ kinds
abbrev Thg (K : PySem.W.Frag) (H : Hp) (x : V) : Prop := ∃ n, Th K H x n
theorem th_int {K : PySem.W.Frag} {H : Hp} (i : Int) : Th K H (.int i) "int" := ⟨.base (.int i), by decide⟩
theorem th_bl {K : PySem.W.Frag} {H : Hp} (b : Bool) : Th K H (.bl b) "bool" := ⟨.base (.bl b), by decide⟩
theorem th_non {K : PySem.W.Frag} {H : Hp} : Th K H .non "NoneType" := ⟨.base .non, by decide⟩
theorem th_str {K : PySem.W.Frag} {H : Hp} (x : Str) : Th K H (.str x) "str" := ⟨.base (.str x), by decide⟩
theorem th_lst {K : PySem.W.Frag} {H : Hp} {a : Addr} {xs : List V} (h : H a = some (.lst xs)) : Th K H (.ref a) "list" := ⟨.base (.lst h), by decide⟩
theorem th_tup {K : PySem.W.Frag} {H : Hp} {a : Addr} {xs : List V} (h : H a = some (.tup xs)) : Th K H (.ref a) "tuple" := ⟨.base (.tup h), by decide⟩
theorem th_dK {K : PySem.W.Frag} {H : Hp} {a : Addr} {xs : List (Key × V)} (h : H a = some (.dK xs)) : Th K H (.ref a) "dict" := ⟨.base (.dK h), by decide⟩
/-- a whole number from lo to hi -/
def wholeV (lo hi : Int) : V → Bool
  | .int i => decide (lo ≤ i) && decide (i ≤ hi)
  | _ => false
def rIsT (K : PySem.W.Frag) : List V → Hp → VK → Prop := fun xs H Q => ∃ (x : V) (T n : String), xs = [x, .ty T] ∧ Th K H x n ∧ T ∈ kinds ∧ Q (.bl (isTab n T)) H
section
variable {X : Cx}
theorem call_isT : CallR X (.builtin "isinstance") (rIsT X.K) := by
  intro pins s σ H xs us Q I r h
  obtain ⟨x, T, n, rfl, th, hT, q⟩ := h
  exact call_isi pins s σ H _ us Q I r ⟨x, .ty T, _, _, _, rfl, .ty T, th.t, kit_ty (isTab_ok n th.k T hT), q⟩
end
/-! ### readings, step by step -/
section
variable {K : PySem.W.Frag} {σ : L2.St} {H : Hp} {D : Ends} {Q : VK} {v x y z : V} {ta tb tc te : TE} {t u : TS} {c d : TT} {r r' : R2} {i : Nat} {a : Addr} {QB : Bool → Hp → Prop} {b : Bool}
theorem rd_seq (h : t { D with nx := u D } σ H) : tSeq t u D σ H := h
theorem rd_asg (h : te σ H fun x H1 => D.nx (σ.set i (some x)) H1) : tAsg te (gName i) D σ H := h
theorem rd_ret (h : te σ H D.rt) : tRet te D σ H := h
theorem rd_next (h : D.nx σ H) : tNext D σ H := h
theorem rd_drop (h : te σ H fun _ H1 => D.nx σ H1) : tDrop te D σ H := h
theorem rd_if (h : c σ H fun b H1 => (b = true → t D σ H1) ∧ (b = false → u D σ H1)) : tIfS c t u D σ H := by
  have e : (fun (b : Bool) (H1 : Hp) => if b = true then t D σ H1 else u D σ H1) = fun b H1 => (b = true → t D σ H1) ∧ (b = false → u D σ H1) := by
    funext b H1
    cases b
    · show (if false = true then t D σ H1 else u D σ H1) = _
      rw [if_neg Bool.false_ne_true]
      exact propext ⟨fun h => ⟨(fun z => nomatch z), fun _ => h⟩, fun h => h.2 rfl⟩
    · show (if true = true then t D σ H1 else u D σ H1) = _
      rw [if_pos rfl]
      exact propext ⟨fun h => ⟨fun _ => h, (fun z => nomatch z)⟩, fun h => h.1 rfl⟩
  show c σ H (fun b H1 => if b = true then t D σ H1 else u D σ H1)
  rw [e]
  exact h
theorem rd_ifE (h : c σ H fun b H1 => (b = true → ta σ H1 Q) ∧ (b = false → tb σ H1 Q)) : tIf c ta tb σ H Q := by
  have e : (fun (b : Bool) (H1 : Hp) => if b = true then ta σ H1 Q else tb σ H1 Q) = fun b H1 => (b = true → ta σ H1 Q) ∧ (b = false → tb σ H1 Q) := by
    funext b H1
    cases b
    · show (if false = true then _ else _) = _
      rw [if_neg Bool.false_ne_true]
      exact propext ⟨fun h => ⟨(fun z => nomatch z), fun _ => h⟩, fun h => h.2 rfl⟩
    · show (if true = true then _ else _) = _
      rw [if_pos rfl]
      exact propext ⟨fun h => ⟨fun _ => h, (fun z => nomatch z)⟩, fun h => h.1 rfl⟩
  show c σ H (fun b H1 => if b = true then ta σ H1 Q else tb σ H1 Q)
  rw [e]
  exact h
theorem rd_var (h : σ[i]? = some (some v)) (q : Q v H) : tVar i σ H Q := ⟨v, h, q⟩
theorem rd_c (q : Q v H) : tC v σ H Q := q
theorem rd_op (h : ta σ H fun x H1 => tb σ H1 fun y H2 => r x y H2 Q) : tOp r ta tb σ H Q := h
theorem rd_chain (h : ta σ H fun x H1 => tb σ H1 fun y H2 => r x y H2 fun z H3 => ∃ k, z = .bl k ∧ (k = true → tc σ H3 fun w H4 => r' y w H4 Q) ∧ (k = false → Q (.bl false) H3)) : tChain r r' ta tb tc σ H Q := by
  have e : ∀ (y : V), (fun (z : V) (H3 : Hp) => ∃ k, z = .bl k ∧ if k = true then tc σ H3 fun w H4 => r' y w H4 Q else Q (.bl false) H3) = fun z H3 => ∃ k, z = .bl k ∧ (k = true → tc σ H3 fun w H4 => r' y w H4 Q) ∧ (k = false → Q (.bl false) H3) := by
    intro y
    funext x H1
    refine propext ⟨fun ⟨k, e, h⟩ => ⟨k, e, ?_⟩, fun ⟨k, e, h⟩ => ⟨k, e, ?_⟩⟩
    · cases k
      · exact ⟨(fun z => nomatch z), fun _ => by rw [if_neg Bool.false_ne_true] at h; exact h⟩
      · exact ⟨fun _ => by rw [if_pos rfl] at h; exact h, (fun z => nomatch z)⟩
    · cases k
      · rw [if_neg Bool.false_ne_true]; exact h.2 rfl
      · rw [if_pos rfl]; exact h.1 rfl
  show ta σ H (fun x H1 => tb σ H1 fun y H2 => r x y H2 fun z H3 => ∃ k, z = .bl k ∧ (if k = true then tc σ H3 fun w H4 => r' y w H4 Q else Q (.bl false) H3))
  simp only [e]
  exact h
theorem rd_I0 {g : Int → Int → V} {m n : Int} (q : Q (g m n) H) : rI0 g (.int m) (.int n) H Q := ⟨m, n, rfl, rfl, q⟩
theorem rd_I {C : Int → Int → Prop} {g : Int → Int → V} {m n : Int} (hc : C m n) (q : Q (g m n) H) : rI C g (.int m) (.int n) H Q := ⟨m, n, rfl, rfl, hc, q⟩
theorem rd_test (h : te σ H fun x H1 => ∃ k, x = .bl k ∧ QB k H1) : tTest te σ H QB := h
theorem rd_B (h : te σ H fun x H1 => ∃ k, x = .bl k ∧ QB k H1) : tB te σ H QB := h
theorem rd_bl {P : Bool → Prop} (q : P b) : ∃ k, V.bl b = .bl k ∧ P k := ⟨b, rfl, q⟩
theorem rd_not (h : c σ H fun b H1 => QB (!b) H1) : tNot c σ H QB := h
theorem rd_and (h : c σ H fun b H1 => (b = true → d σ H1 QB) ∧ (b = false → QB false H1)) : tAnd c d σ H QB := by
  have e : (fun (b : Bool) (H1 : Hp) => if b = true then d σ H1 QB else QB false H1) = fun b H1 => (b = true → d σ H1 QB) ∧ (b = false → QB false H1) := by
    funext b H1
    cases b
    · show (if false = true then _ else _) = _
      rw [if_neg Bool.false_ne_true]
      exact propext ⟨fun h => ⟨(fun z => nomatch z), fun _ => h⟩, fun h => h.2 rfl⟩
    · show (if true = true then _ else _) = _
      rw [if_pos rfl]
      exact propext ⟨fun h => ⟨fun _ => h, (fun z => nomatch z)⟩, fun h => h.1 rfl⟩
  show c σ H (fun b H1 => if b = true then d σ H1 QB else QB false H1)
  rw [e]
  exact h
theorem rd_or (h : c σ H fun b H1 => (b = true → QB true H1) ∧ (b = false → d σ H1 QB)) : tOr c d σ H QB := by
  have e : (fun (b : Bool) (H1 : Hp) => if b = true then QB true H1 else d σ H1 QB) = fun b H1 => (b = true → QB true H1) ∧ (b = false → d σ H1 QB) := by
    funext b H1
    cases b
    · show (if false = true then _ else _) = _
      rw [if_neg Bool.false_ne_true]
      exact propext ⟨fun h => ⟨(fun z => nomatch z), fun _ => h⟩, fun h => h.2 rfl⟩
    · show (if true = true then _ else _) = _
      rw [if_pos rfl]
      exact propext ⟨fun h => ⟨fun _ => h, (fun z => nomatch z)⟩, fun h => h.1 rfl⟩
  show c σ H (fun b H1 => if b = true then QB true H1 else d σ H1 QB)
  rw [e]
  exact h
theorem rd_andV (h : ta σ H fun x H1 => ∃ k, x = .bl k ∧ (k = true → tb σ H1 Q) ∧ (k = false → Q (.bl false) H1)) : tAndV ta tb σ H Q := by
  have e : (fun (x : V) (H1 : Hp) => ∃ k, x = .bl k ∧ if k = true then tb σ H1 Q else Q (.bl false) H1) = fun x H1 => ∃ k, x = .bl k ∧ (k = true → tb σ H1 Q) ∧ (k = false → Q (.bl false) H1) := by
    funext x H1
    refine propext ⟨fun ⟨k, e, h⟩ => ⟨k, e, ?_⟩, fun ⟨k, e, h⟩ => ⟨k, e, ?_⟩⟩
    · cases k
      · exact ⟨(fun z => nomatch z), fun _ => by rw [if_neg Bool.false_ne_true] at h; exact h⟩
      · exact ⟨fun _ => by rw [if_pos rfl] at h; exact h, (fun z => nomatch z)⟩
    · cases k
      · rw [if_neg Bool.false_ne_true]; exact h.2 rfl
      · rw [if_pos rfl]; exact h.1 rfl
  show ta σ H (fun x H1 => ∃ k, x = .bl k ∧ if k = true then tb σ H1 Q else Q (.bl false) H1)
  rw [e]
  exact h
theorem rd_orV (h : ta σ H fun x H1 => ∃ k, x = .bl k ∧ (k = true → Q (.bl true) H1) ∧ (k = false → tb σ H1 Q)) : tOrV ta tb σ H Q := by
  have e : (fun (x : V) (H1 : Hp) => ∃ k, x = .bl k ∧ if k = true then Q (.bl true) H1 else tb σ H1 Q) = fun x H1 => ∃ k, x = .bl k ∧ (k = true → Q (.bl true) H1) ∧ (k = false → tb σ H1 Q) := by
    funext x H1
    refine propext ⟨fun ⟨k, e, h⟩ => ⟨k, e, ?_⟩, fun ⟨k, e, h⟩ => ⟨k, e, ?_⟩⟩
    · cases k
      · exact ⟨(fun z => nomatch z), fun _ => by rw [if_neg Bool.false_ne_true] at h; exact h⟩
      · exact ⟨fun _ => by rw [if_pos rfl] at h; exact h, (fun z => nomatch z)⟩
    · cases k
      · rw [if_neg Bool.false_ne_true]; exact h.2 rfl
      · rw [if_pos rfl]; exact h.1 rfl
  show ta σ H (fun x H1 => ∃ k, x = .bl k ∧ if k = true then Q (.bl true) H1 else tb σ H1 Q)
  rw [e]
  exact h
theorem rd_notV (h : ta σ H fun x H1 => ∃ k, x = .bl k ∧ Q (.bl (!k)) H1) : tNotV ta σ H Q := h
theorem rd_cons {tr : TA} {QA : List V → Hp → Prop} (h : ta σ H fun x H1 => tr σ H1 fun xs H2 => QA (x :: xs) H2) : tCons ta tr σ H QA := h
theorem rd_nil {QA : List V → Hp → Prop} (h : QA [] H) : tNil σ H QA := h
theorem rd_CB {rr : List V → Hp → VK → Prop} {tA : TA} (h : tA σ H fun vs H1 => rr vs H1 Q) : tCB rr tA σ H Q := h
theorem rd_callS {sp : Sp} {W : WX} {tA : TA} (h : tA σ H fun vs H1 => sp vs H1 Q (fun cls d H => W cls d σ H)) : tCallS sp (WE W) tA σ H Q := h
theorem rd_raise0 {n : Str} {W : WX} (h : W (.ref (ga K n)) none σ H) : tRaise0 K n W D σ H := h
theorem rd_raise1 {n f : Str} {W : WX} (h : te σ H fun v H1 => mk1 K n f W σ v H1) : tRaise1 K n f W te D σ H := h
theorem rd_raise2 {n f g : Str} {W : WX} (h : ta σ H fun v H1 => tb σ H1 fun w H2 => mk2 K n f g W σ v w H2) : tRaise2 K n f g W ta tb D σ H := h
theorem rd_isT {T n : String} (th : Th K H x n) (hT : T ∈ kinds) (q : Q (.bl (isTab n T)) H) : rIsT K [x, .ty T] H Q := ⟨x, T, n, rfl, th, hT, q⟩
theorem rd_eq (hs : scal x y = true) (q : Q (.bl (decide (x = y))) H) : rEq x y H Q := ⟨hs, q⟩
theorem rd_ne (hs : scal x y = true) (q : Q (.bl (!decide (x = y))) H) : rNe x y H Q := ⟨hs, q⟩
theorem rd_tup {tA : TA} (h : tA σ H fun xs H1 => xs.length ≤ sizeLine ∧ ∀ p, H1 p = none → Q (.ref p) (upd H1 p (.tup xs))) : tTup tA σ H Q := h
theorem rd_lst {tA : TA} (h : tA σ H fun xs H1 => xs.length ≤ sizeLine ∧ ∀ p, H1 p = none → Q (.ref p) (upd H1 p (.lst xs))) : tLst tA σ H Q := h
end
theorem whole_not {lo hi : Int} : ∀ {x : V}, (∀ i, x ≠ .int i) → wholeV lo hi x = false
  | .int i, h => absurd rfl (h i)
  | .non, _ => rfl
  | .bl _, _ => rfl
  | .str _, _ => rfl
  | .byt _, _ => rfl
  | .flt _, _ => rfl
  | .ref _, _ => rfl
  | .ty _, _ => rfl
theorem th_cases {K : PySem.W.Frag} {H : Hp} {x : V} {n : String} (th : Th K H x n) : (isTab n "int" = true ∧ isTab n "bool" = false ∧ ∃ i, x = .int i) ∨
    ((isTab n "int" = false ∨ isTab n "bool" = true) ∧ ∀ lo hi, wholeV lo hi x = false) := by
  obtain ⟨t, k⟩ := th
  have key : ∀ m ∈ kinds, m ≠ "int" → isTab m "int" = false ∨ isTab m "bool" = true := by decide
  by_cases e : n = "int"
  · subst e
    refine .inl ⟨by decide, by decide, ?_⟩
    generalize hz : (Value.type "int") = z at t
    cases t with
    | base h => cases h <;> first | exact ⟨_, rfl⟩ | exact absurd (Value.type.inj hz) (by decide) | cases hz
    | byt b => exact absurd (Value.type.inj hz) (by decide)
    | set e => exact absurd (Value.type.inj hz) (by decide)
    | kList e c => exact absurd (Value.type.inj hz) (by decide)
    | kTuple e c => exact absurd (Value.type.inj hz) (by decide)
    | kDict e c => exact absurd (Value.type.inj hz) (by decide)
    | fTuple e => exact absurd (Value.type.inj hz) (by decide)
    | fDict e => exact absurd (Value.type.inj hz) (by decide)
  · refine .inr ⟨key n k e, fun lo hi => whole_not fun i q => ?_⟩
    subst q
    generalize hz : (Value.type n) = z at t
    cases t with
    | base h =>
      cases h
      exact e (Value.type.inj hz)
end Lw

set_option Elab.async false
set_option linter.all false
set_option maxRecDepth 100000
set_option maxHeartbeats 2000000
namespace Lw
open PySem PySem.Spec PyProof.Rows L2 He
/-- the binary digits as signs -/
def binL (n : Nat) : List Nat := (Nat.toDigits 2 n).map fun c => c.toNat
def binS (n : Nat) : Str := ⟨(binL n).toArray⟩
def padL (ds : List Nat) : Nat := ((-1 : Int) - ((((0 : Nat) : Int)) + (((0 : Nat) : Int)) + (((0 : Nat) : Int))) - (ds.length : Int)).toNat
def fillL (digits : List Nat) : List Nat := if digits.isEmpty then [] else List.replicate ((0 : Int).toNat - digits.length) 48 ++ digits
def rawS (digits : List Nat) : Str := ⟨(List.replicate (padL (fillL digits)) 32 ++ [] ++ [] ++ List.replicate 0 32 ++ fillL digits ++ [] ++ List.replicate 0 32).toArray⟩
theorem raw_eq (digits : List Nat) : rawS digits = ⟨digits.toArray⟩ := by
  have e1 : fillL digits = digits := by
    unfold fillL
    cases digits with
    | nil => rfl
    | cons a l => simp
  have e2 : padL digits = 0 := by
    unfold padL
    omega
  unfold rawS
  rw [e1, e2]
  simp
theorem fmt_b (n : Nat) (t u : Tok) : Builtin.«int.__format__» ⟨[.int (n : Int) t, .str "b" u], []⟩ = (do let _kind ← typeNameOf (.str "b" u); (do let name ← typeNameOfCut 200 (.int (n : Int) t); retStr (rawS (binL n)))) := by kernel_rfl
theorem gives_int_b (n : Nat) (t u : Tok) : Gives (Builtin.«int.__format__» ⟨[.int (n : Int) t, .str "b" u], []⟩) (.str (binS n)) := by
  have e : binS n = rawS (binL n) := (raw_eq _).symm
  rw [e, fmt_b]
  intro prog w A R s hq
  refine wpAny_bind (wpAny_typeNameOf (typeIs_str _ _ _) (by decide) fun _ => ?_)
  refine wpAny_bind (wpAny_typeNameOfCut_int ?_)
  exact (Gives.of_eq (m := .str (rawS (binL n))) rfl) prog w A R s hq
def tFmtB (te : TE) : TE := fun σ H Q => te σ H fun x H1 => ∃ n : Nat, x = .int (n : Int) ∧ (binS n).length ≤ sizeLine ∧ Q (.str (binS n)) H1
section
variable {X : Cx} {e : Expr} {te : TE} {pos p2 p3 : Pos} {k : Nat}
theorem pe_fmtB (he : PE X e te) : PE X (.FormattedValue e (-1) (some (.JoinedStr [.Constant (.str "b") k p2] p3)) pos) (tFmtB te) := by
  refine ⟨fun pins s σ H Q I h => ?_⟩
  refine wpAny_FormattedValue_spec (thn (he.run pins s σ H _ I h) fun v s1 hv => ?_)
  obtain ⟨x, H1, I1, r1, n, rfl, hz, q⟩ := hv
  obtain ⟨t, rfl⟩ := r1
  refine wpAny_JoinedStr_one (thn ((pe_str (X := X) (x := "b")).run pins s1 σ H1 (fun v H2 => v = .str "b" ∧ H1 = H2) I1 ⟨rfl, rfl⟩) fun v s2 hv => ?_)
  obtain ⟨y, H2, I2, r2, ey, eH⟩ := hv
  subst ey eH
  obtain ⟨t2, rfl⟩ := r2
  refine ⟨_, _, rfl, ?_⟩
  exact wpAny_formatField_spec (by decide) (fun s' => typeIs_int s' _ _) PySem.F.slot_int_format PySem.F.entry_int_format PySem.F.args_int_format_2 (fun u => gives_int_b n t u) ⟨.str (binS n), H1, I2.tok _, ⟨_, rfl⟩, q⟩ (by size_fits) hz
end
/-- how many of the bits are 1 -/
def onesN (n : Nat) : Nat := (binL n).count 49
end Lw

set_option Elab.async false
set_option linter.all false
set_option maxRecDepth 100000
set_option maxHeartbeats 2000000
namespace Lw
open PySem PySem.Spec PyProof.Rows L2 He
theorem sub_one (x : Str) (c k : Nat) (hk : k < x.cps.toList.length) : Builtin.Str.subAt x ⟨#[c]⟩ k = (x.cps.toList[k] == c) := by
  rw [StrLaws.subAt_eq]
  show (List.take 1 (List.drop k x.cps.toList) == [c]) = _
  have e : List.drop k x.cps.toList = x.cps.toList[k] :: List.drop (k + 1) x.cps.toList := List.drop_eq_getElem_cons hk
  rw [e]
  simp
theorem occ_run (x : Str) (c : Nat) : ∀ (m k : Nat) (st : Array Nat × Nat), k + m = x.cps.toList.length → st.fst.size ≤ k → st.snd ≤ k →
    (forIn (List.range' k (m + 1)) st (StrLaws.occBody x ⟨#[c]⟩ x.length (x.length + 1))).run.fst.size = st.fst.size + (x.cps.toList.drop k).count c
  | 0, k, st, hk, h1, h2 => by
    have hl : x.length = x.cps.toList.length := by simp [Str.length]
    have e : x.cps.toList.drop k = [] := List.drop_eq_nil_of_le (by omega)
    have e1 : List.range' k (0 + 1) = [k] := rfl
    rw [e, e1, List.forIn_cons]
    unfold StrLaws.occBody
    rw [if_neg (fun z => by have := z.1.2; simp [Str.length] at this; simp at hk; omega)]
    simp
  | m + 1, k, st, hk, h1, h2 => by
    have hl : x.length = x.cps.toList.length := by simp [Str.length]
    have hlt : k < x.cps.toList.length := by omega
    have e1 : List.range' k (m + 1 + 1) = k :: List.range' (k + 1) (m + 1) := rfl
    have e : List.drop k x.cps.toList = x.cps.toList[k] :: List.drop (k + 1) x.cps.toList := List.drop_eq_getElem_cons hlt
    rw [e, e1, List.forIn_cons, List.count_cons]
    by_cases hc : (x.cps.toList[k] == c) = true
    · have hb : StrLaws.occBody x ⟨#[c]⟩ x.length (x.length + 1) k st = pure (ForInStep.yield (st.fst.push k, k + 1)) := by
        unfold StrLaws.occBody
        rw [if_pos ⟨⟨⟨by omega, h2⟩, by show k + 1 ≤ x.length; omega⟩, by rw [sub_one x c k hlt]; exact hc⟩]
        rfl
      rw [hb]
      have ih := occ_run x c m (k + 1) (st.fst.push k, k + 1) (by omega) (by simp; omega) (Nat.le_refl _)
      show (forIn (List.range' (k + 1) (m + 1)) (st.fst.push k, k + 1) (StrLaws.occBody x ⟨#[c]⟩ x.length (x.length + 1))).run.fst.size = _
      rw [ih, if_pos hc]
      simp
      omega
    · have hb : StrLaws.occBody x ⟨#[c]⟩ x.length (x.length + 1) k st = pure (ForInStep.yield (st.fst, st.snd)) := by
        unfold StrLaws.occBody
        rw [if_neg]
        rintro ⟨_, z⟩
        rw [sub_one x c k hlt] at z
        exact hc z
      rw [hb]
      have ih := occ_run x c m (k + 1) (st.fst, st.snd) (by omega) (by show st.fst.size ≤ k + 1; omega) (by show st.snd ≤ k + 1; omega)
      show (forIn (List.range' (k + 1) (m + 1)) (st.fst, st.snd) (StrLaws.occBody x ⟨#[c]⟩ x.length (x.length + 1))).run.fst.size = _
      rw [ih, if_neg hc]
      show st.fst.size + _ = st.fst.size + (_ + 0)
      omega
theorem count_one (x : Str) (c : Nat) : Txt.count x ⟨#[c]⟩ = ((x.cps.toList.count c : Nat) : Int) := by
  unfold Txt.count
  have hl : x.length = x.cps.toList.length := by simp [Str.length]
  have e := occ_run x c x.cps.toList.length 0 (#[], 0) (by omega) (Nat.zero_le _) (Nat.zero_le _)
  rw [StrLaws.occ_eq, Array.length_toList]
  have e2 : x.length + 1 - 0 = x.cps.toList.length + 1 := by omega
  rw [e2, e]
  simp
theorem count_bin (n : Nat) : Txt.count (binS n) "1" = ((onesN n : Nat) : Int) := by
  have e : ("1" : Str) = ⟨#[49]⟩ := by decide +kernel
  rw [e, count_one]
  rfl
theorem binL_len (n : Nat) {k : Nat} (hk : 0 < k) (h : n < 2 ^ k) : (binS n).length ≤ k := by
  show (binL n).toArray.size ≤ k
  unfold binL
  simp only [List.size_toArray, List.length_map]
  exact (Nat.length_toDigits_le_iff (by decide) hk).mpr h
end Lw

set_option Elab.async false
set_option linter.all false
set_option maxRecDepth 100000
set_option maxHeartbeats 2000000
namespace Lw
open PySem PySem.Spec PyProof.Rows L2 He Evl
section
variable {K : PySem.W.Frag} {σ : L2.St} {H : Hp} {D : Ends} {Q : VK} {v x y z : V} {ta tb tc te : TE} {t u : TS} {c d : TT} {r r' : R2} {i : Nat} {a : Addr} {QB : Bool → Hp → Prop} {b : Bool}
theorem rd_fmtB (h : te σ H fun x H1 => ∃ n : Nat, x = .int (n : Int) ∧ (binS n).length ≤ sizeLine ∧ Q (.str (binS n)) H1) : tFmtB te σ H Q := h
theorem rd_M1 {rr : V → List V → Hp → VK → Prop} (h : ta σ H fun x H1 => (∃ a, x = .str a) ∧ te σ H1 fun y H2 => rr x [y] H2 Q) : tM1 rr ta te σ H Q := h
theorem rd_un {rr : V → Hp → VK → Prop} (h : ta σ H fun x H1 => rr x H1 Q) : tUn rr ta σ H Q := h
/-- the heap behind is the heap ahead and more -/
theorem ex_upd {H : Hp} {p : Addr} {o : HO} (h : H p = none) : Ex H (upd H p o) := Ex.new h
/-- a comprehension over range(n), its steps seen from the heap ahead of it -/
theorem lc_rng {n : Nat} {j : Nat} {vs : List Nat} {tt : TT} (f : Nat → Bool) (g : Nat → V) (hn : n ≤ 40000) (hw : ∀ x, wipe ((wipe σ vs).set j (some x)) vs = wipe σ vs)
    (ht : ∀ (i : Nat) H1, Ex H H1 → i < n → EvT tt ((wipe σ vs).set j (some (.int (i : Int)))) H1 (f i)) (he : ∀ (i : Nat) H1, Ex H H1 → i < n → f i = true → Ev te ((wipe σ vs).set j (some (.int (i : Int)))) H1 (g i))
    (q : ∀ p H', H p = none → Ex H H' → H' p = some (.lst (given n f g)) → Q (.ref p) H') : tLc (iRng1 (tCons (tC (.int (n : Int))) tNil)) (gName j) tt te vs σ H Q := by
  have e := el_lcR1 (σ := σ) (H := H) (ta := tCons (tC (.int (n : Int))) tNil) (j := j) (vs := vs) (n := (n : Int)) (t := tt) (te := te) f g (ea_cons ev_c ea_nil) ⟨by omega, by omega⟩ hw
    (fun i H1 e hi => ht i H1 e (by omega)) (fun i H1 e hi hf => he i H1 e (by omega) hf)
  have en : ((n : Int)).toNat = n := by simp
  rw [en] at e
  exact e H (Ex.refl H) Q fun p H2 hp e2 h2 => q p H2 hp e2 h2
theorem lc_tupT {Qd : Addr → Hp → Prop} {xs : List V} {j : Nat} {vs : List Nat} {tt : TT} (f : Nat → Bool) (g : Nat → V) (hx : SqT K H a xs) (hz : xs.length ≤ 40000) (hw : ∀ x, wipe ((wipe σ vs).set j (some x)) vs = wipe σ vs)
    (ht : ∀ (i : Nat) (x : V) H1, Ex H H1 → xs[i]? = some x → EvT tt ((wipe σ vs).set j (some x)) H1 (f i)) (he : ∀ (i : Nat) (x : V) H1, Ex H H1 → xs[i]? = some x → f i = true → Ev te ((wipe σ vs).set j (some x)) H1 (g i))
    (q : ∀ p H', H p = none → Ex H H' → H' p = some (.lst (given xs.length f g)) → Qd p H') :
    ∀ D, H D = none → ∃ W : Nat → Nat → Hp → Prop, (∃ m, W 0 m (upd H D (.lst []))) ∧ ∀ i m H, W i m H → ((Itt K a).stop i H ∧ Qd D H) ∨ ((Itt K a).go i H ∧ ∃ Nx : Hp → Prop, (∀ H', Nx H' → ∃ m', m' < m ∧ W (i + 1) m' H') ∧
      ∀ x H', (Itt K a).yld i H x H' → gName j x (wipe σ vs) H' fun σ2 H2 => wipe σ2 vs = wipe σ vs ∧ tt σ2 H2 fun b H3 => if b = true then te σ2 H3 fun y H4 => ∃ acc, H4 D = some (.lst acc) ∧ acc.length < sizeLine ∧ Nx (upd H4 D (.lst (acc ++ [y]))) else Nx H3) := fun Dl hD =>
  lc_tup (xs := xs) (Cw H f g Dl) ⟨hD, Ex.new hD, upd_same⟩ (fun i H' _ p => ex_t p.2.1 hx) (fun i x H' hi p => ⟨hw x, cw_turn p (by have := (List.getElem?_eq_some_iff.mp hi).1; omega) (ht i x H (Ex.refl H) hi) (fun hf => he i x H (Ex.refl H) hi hf)⟩)
    (fun H' p => q Dl H' p.1 p.2.1 p.2.2)
theorem lc_rngT {Qd : Addr → Hp → Prop} {lo : Int} {n j : Nat} {vs : List Nat} {tt : TT} (f : Nat → Bool) (g : Nat → V) (hz : n ≤ 40000) (hw : ∀ x, wipe ((wipe σ vs).set j (some x)) vs = wipe σ vs)
    (ht : ∀ (i : Nat) H1, Ex H H1 → i < n → EvT tt ((wipe σ vs).set j (some (.int (lo + (i : Int))))) H1 (f i)) (he : ∀ (i : Nat) H1, Ex H H1 → i < n → f i = true → Ev te ((wipe σ vs).set j (some (.int (lo + (i : Int))))) H1 (g i))
    (q : ∀ p H', H p = none → Ex H H' → H' p = some (.lst (given n f g)) → Qd p H') :
    ∀ D, H D = none → ∃ W : Nat → Nat → Hp → Prop, (∃ m, W 0 m (upd H D (.lst []))) ∧ ∀ i m H, W i m H → ((Itr lo n).stop i H ∧ Qd D H) ∨ ((Itr lo n).go i H ∧ ∃ Nx : Hp → Prop, (∀ H', Nx H' → ∃ m', m' < m ∧ W (i + 1) m' H') ∧
      ∀ x H', (Itr lo n).yld i H x H' → gName j x (wipe σ vs) H' fun σ2 H2 => wipe σ2 vs = wipe σ vs ∧ tt σ2 H2 fun b H3 => if b = true then te σ2 H3 fun y H4 => ∃ acc, H4 D = some (.lst acc) ∧ acc.length < sizeLine ∧ Nx (upd H4 D (.lst (acc ++ [y]))) else Nx H3) := fun Dl hD =>
  lc_range (lo := lo) (n := n) (Cw H f g Dl) ⟨hD, Ex.new hD, upd_same⟩ (fun i H' hi p => ⟨hw _, cw_turn p (by omega) (ht i H (Ex.refl H) hi) (fun hf => he i H (Ex.refl H) hi hf)⟩)
    (fun H' p => q Dl H' p.1 p.2.1 p.2.2)
theorem lc_rng0 {Qd : Addr → Hp → Prop} {n j : Nat} {vs : List Nat} {tt : TT} (f : Nat → Bool) (g : Nat → V) (hz : n ≤ 40000) (hw : ∀ x, wipe ((wipe σ vs).set j (some x)) vs = wipe σ vs)
    (ht : ∀ (i : Nat) H1, Ex H H1 → i < n → EvT tt ((wipe σ vs).set j (some (.int (i : Int)))) H1 (f i)) (he : ∀ (i : Nat) H1, Ex H H1 → i < n → f i = true → Ev te ((wipe σ vs).set j (some (.int (i : Int)))) H1 (g i))
    (q : ∀ p H', H p = none → Ex H H' → H' p = some (.lst (given n f g)) → Qd p H') :
    ∀ D, H D = none → ∃ W : Nat → Nat → Hp → Prop, (∃ m, W 0 m (upd H D (.lst []))) ∧ ∀ i m H, W i m H → ((Itr 0 n).stop i H ∧ Qd D H) ∨ ((Itr 0 n).go i H ∧ ∃ Nx : Hp → Prop, (∀ H', Nx H' → ∃ m', m' < m ∧ W (i + 1) m' H') ∧
      ∀ x H', (Itr 0 n).yld i H x H' → gName j x (wipe σ vs) H' fun σ2 H2 => wipe σ2 vs = wipe σ vs ∧ tt σ2 H2 fun b H3 => if b = true then te σ2 H3 fun y H4 => ∃ acc, H4 D = some (.lst acc) ∧ acc.length < sizeLine ∧ Nx (upd H4 D (.lst (acc ++ [y]))) else Nx H3) :=
  lc_rngT (lo := 0) f g hz hw (fun i H1 e hi => by rw [Int.zero_add]; exact ht i H1 e hi) (fun i H1 e hi hf => by rw [Int.zero_add]; exact he i H1 e hi hf) q
theorem lc_lstT {Qd : Addr → Hp → Prop} {xs : List V} {j : Nat} {vs : List Nat} {tt : TT} (f : Nat → Bool) (g : Nat → V) (hx : SqL K H a xs) (hz : xs.length ≤ 40000) (hw : ∀ x, wipe ((wipe σ vs).set j (some x)) vs = wipe σ vs)
    (ht : ∀ (i : Nat) (x : V) H1, Ex H H1 → xs[i]? = some x → EvT tt ((wipe σ vs).set j (some x)) H1 (f i)) (he : ∀ (i : Nat) (x : V) H1, Ex H H1 → xs[i]? = some x → f i = true → Ev te ((wipe σ vs).set j (some x)) H1 (g i))
    (q : ∀ p H', H p = none → Ex H H' → H' p = some (.lst (given xs.length f g)) → Qd p H') :
    ∀ D, H D = none → ∃ W : Nat → Nat → Hp → Prop, (∃ m, W 0 m (upd H D (.lst []))) ∧ ∀ i m H, W i m H → ((Itl K a).stop i H ∧ Qd D H) ∨ ((Itl K a).go i H ∧ ∃ Nx : Hp → Prop, (∀ H', Nx H' → ∃ m', m' < m ∧ W (i + 1) m' H') ∧
      ∀ x H', (Itl K a).yld i H x H' → gName j x (wipe σ vs) H' fun σ2 H2 => wipe σ2 vs = wipe σ vs ∧ tt σ2 H2 fun b H3 => if b = true then te σ2 H3 fun y H4 => ∃ acc, H4 D = some (.lst acc) ∧ acc.length < sizeLine ∧ Nx (upd H4 D (.lst (acc ++ [y]))) else Nx H3) := fun Dl hD =>
  lc_list (xs := xs) (Cw H f g Dl) ⟨hD, Ex.new hD, upd_same⟩ (fun i H' _ p => ex_l p.2.1 hx) (fun i x H' hi p => ⟨hw x, cw_turn p (by have := (List.getElem?_eq_some_iff.mp hi).1; omega) (ht i x H (Ex.refl H) hi) (fun hf => he i x H (Ex.refl H) hi hf)⟩)
    (fun H' p => q Dl H' p.1 p.2.1 p.2.2)
theorem rd_lc {wi : TI} {g : TG} {tt : TT} {vs : List Nat} (h : wi σ H fun J H1 => ∀ D, H1 D = none → ∃ W : Nat → Nat → Hp → Prop, (∃ m, W 0 m (upd H1 D (.lst []))) ∧ ∀ i m H, W i m H →
  (J.stop i H ∧ Q (.ref D) H) ∨ (J.go i H ∧ ∃ Nx : Hp → Prop, (∀ H', Nx H' → ∃ m', m' < m ∧ W (i + 1) m' H') ∧ ∀ x H', J.yld i H x H' → g x (wipe σ vs) H' fun σ2 H2 => wipe σ2 vs = wipe σ vs ∧ tt σ2 H2 fun b H3 =>
    if b = true then te σ2 H3 fun y H4 => ∃ acc, H4 D = some (.lst acc) ∧ acc.length < sizeLine ∧ Nx (upd H4 D (.lst (acc ++ [y]))) else Nx H3)) : tLc wi g tt te vs σ H Q := h
theorem rd_iT {tl : TE} {R : It → Hp → Prop} (h : tl σ H fun x H1 => ∃ a, x = .ref a ∧ (∃ xs, SqT K H1 a xs) ∧ R (Itt K a) H1) : iTup K tl σ H R := h
theorem rd_iL {tl : TE} {R : It → Hp → Prop} (h : tl σ H fun x H1 => ∃ a, x = .ref a ∧ (∃ xs, SqL K H1 a xs) ∧ R (Itl K a) H1) : iList K tl σ H R := h
theorem rd_iR1 {tA : TA} {R : It → Hp → Prop} (h : tA σ H fun vs H1 => ∃ j : Int, vs = [.int j] ∧ -(2 ^ 62) ≤ j ∧ j < 2 ^ 62 ∧ R (Itr 0 j.toNat) H1) : iRng1 tA σ H R := h
theorem rd_iR2 {tA : TA} {R : It → Hp → Prop} (h : tA σ H fun vs H1 => ∃ i j : Int, vs = [.int i, .int j] ∧ (-(2 ^ 62) ≤ i ∧ i < 2 ^ 62 ∧ -(2 ^ 62) ≤ j ∧ j < 2 ^ 62) ∧ R (Itr i (j - i).toNat) H1) : iRng2 tA σ H R := h
theorem given_map {n : Nat} {g : Nat → V} : given n (fun _ => true) g = (List.range n).map g := by
  unfold given
  rw [List.filter_eq_self.mpr (fun _ _ => rfl)]
end
end Lw

set_option Elab.async false
set_option linter.all false
set_option maxRecDepth 100000
set_option maxHeartbeats 2000000
namespace Lw
open PySem PySem.Spec PyProof.Rows L2 He Evl StX
section
variable {X : Cx} {K : PySem.W.Frag}
theorem kx_list (h : X.K = K) : IxR X (rIxL K) := h ▸ ix_list
theorem kx_tup (h : X.K = K) : IxR X (rIxT K) := h ▸ ix_tup
theorem kx_seq (h : X.K = K) : IxR X (rIx K) := h ▸ ix_seq
def rLenK (K : PySem.W.Frag) : List V → Hp → VK → Prop := fun xs H Q => ∃ p ys, xs = [.ref p] ∧ (SqL K H p ys ∨ SqT K H p ys) ∧ Q (.int ys.length) H
def rListK (K : PySem.W.Frag) : List V → Hp → VK → Prop := fun xs H Q => ∃ p ys, xs = [.ref p] ∧ (SqL K H p ys ∨ SqT K H p ys) ∧ ∀ l, H l = none → Q (.ref l) (upd H l (.lst ys))
def rTupK (K : PySem.W.Frag) : List V → Hp → VK → Prop := fun xs H Q => ∃ p ys, xs = [.ref p] ∧ ((SqL K H p ys ∧ ∀ l, H l = none → Q (.ref l) (upd H l (.tup ys))) ∨ (SqT K H p ys ∧ Q (.ref p) H))
theorem kc_len (h : X.K = K) : CallR X (.builtin "len") (rLenK K) := h ▸ call_len_seq
theorem kc_list (h : X.K = K) : CallR X (.type "list") (rListK K) := h ▸ call_list_of
theorem kc_tup (h : X.K = K) : CallR X (.type "tuple") (rTupK K) := h ▸ call_tuple_of
theorem kc_isT (h : X.K = K) : CallR X (.builtin "isinstance") (rIsT K) := h ▸ call_isT
theorem kc_sum (hc : X.calm = true) (h : X.K = K) : CallR X (.builtin "sum") (rSum K) := h ▸ cr_sum hc
theorem kc_all (hc : X.calm = true) (h : X.K = K) : CallR X (.builtin "all") (rAll K) := h ▸ cr_all hc
theorem kc_any (hc : X.calm = true) (h : X.K = K) : CallR X (.builtin "any") (rAny K) := h ▸ cr_any hc
theorem kc_sorted (h : X.K = K) : CallR X (.builtin "sorted") (rSortedI K) := h ▸ cr_sortedI
theorem ko_in (h : X.K = K) : OpR X (compareOp .In) (rIn K false) := h ▸ op_in_seq
theorem ko_notIn (h : X.K = K) : OpR X (compareOp .NotIn) (rIn K true) := h ▸ op_notIn_seq
theorem ko_eqD {k : Nat} (hr : Room k X.A) (h : X.K = K) : OpR X (compareOp .Eq) (rEqD K) := h ▸ op_eqD hr.units
theorem ko_neD {k : Nat} (hr : Room k X.A) (h : X.K = K) : OpR X (compareOp .NotEq) (rNeD K) := h ▸ op_neD hr.units
theorem ks_list (h : X.K = K) : L2.SlR X (rSlL K) := h ▸ sl_list
theorem ks_tup (h : X.K = K) : L2.SlR X (rSlT K) := h ▸ sl_tup
def tTr (K : PySem.W.Frag) (ta : TE) : TT := fun σ H Q => ta σ H fun x H' => ∃ k, TruV K x H' k ∧ Q k H'
theorem kt_truth {a : Expr} {ta : TE} (h : X.K = K) (ha : PE X a ta) (he : ∀ whole, isTrue a X.env whole = (do let v ← whole; standAt a.pos; holding [v] (truthy v))) : PT X a (tTr K ta) := h ▸ pt_truth ha he
theorem ki_list {tg l : Expr} {tl : TE} (h : X.K = K) (hl : PE X l tl) : PI X tg l (iList K tl) := h ▸ pi_list hl
theorem ki_tup {tg l : Expr} {tl : TE} (h : X.K = K) (hl : PE X l tl) : PI X tg l (iTup K tl) := h ▸ pi_tup hl
theorem ka_star {e : Expr} {es : List Expr} {te : TE} {t : TA} {p : Pos} (h : X.K = K) (he : PE X e te) (hr : PA X es t) (hs : starEach (.Starred e p :: es) X.env = (true, eval e X.env) :: starEach es X.env := by rfl) : PA X (.Starred e p :: es) (tStar K te t) := h ▸ pa_star he hr hs
end
section
variable {K : PySem.W.Frag} {σ : L2.St} {H : Hp} {D : Ends} {Q : VK} {v x y z : V} {ta tb tc te : TE} {a : Addr} {QB : Bool → Hp → Prop} {b : Bool}
theorem rd_tr (h : ta σ H fun x H' => ∃ k, TruV K x H' k ∧ QB k H') : tTr K ta σ H QB := h
theorem rd_trI {i : Int} {P : Bool → Prop} (q : P (i != 0)) : ∃ k, TruV K (.int i) H k ∧ P k := ⟨_, rfl, q⟩
theorem rd_star {tA : TA} {QA : List V → Hp → Prop} (h : te σ H fun x H1 => ∃ p xs, x = V.ref p ∧ (SqT K H1 p xs ∨ SqL K H1 p xs) ∧ tA σ H1 fun ys H2 => QA (xs ++ ys) H2) : tStar K te tA σ H QA := h
end
/-! ### sorted ints -/
def ins (x : Int) : List Int → List Int
  | [] => [x]
  | y :: r => if x ≤ y then x :: y :: r else y :: ins x r
def isort : List Int → List Int
  | [] => []
  | x :: r => ins x (isort r)
theorem ins_perm (x : Int) : ∀ l, (ins x l).Perm (x :: l)
  | [] => .refl _
  | y :: r => by
    unfold ins
    split
    · exact .refl _
    · exact ((ins_perm x r).cons y).trans (.swap x y r)
theorem isort_perm : ∀ l, (isort l).Perm l
  | [] => .refl _
  | x :: r => (ins_perm x (isort r)).trans ((isort_perm r).cons x)
theorem ins_sorted (x : Int) : ∀ l, l.Pairwise (· ≤ ·) → (ins x l).Pairwise (· ≤ ·)
  | [], _ => .cons (fun _ h => nomatch h) .nil
  | y :: r, h => by
    unfold ins
    cases h with
    | cons h1 h2 =>
      split
      · rename_i c
        exact .cons (fun z hz => by
          rcases List.mem_cons.mp hz with rfl | hz
          · exact c
          · exact Int.le_trans c (h1 z hz)) (.cons h1 h2)
      · rename_i c
        refine .cons (fun z hz => ?_) (ins_sorted x r h2)
        rcases List.mem_cons.mp ((ins_perm x r).mem_iff.mp hz) with rfl | hz
        · omega
        · exact h1 z hz
theorem isort_sorted : ∀ l, (isort l).Pairwise (· ≤ ·)
  | [] => .nil
  | x :: r => ins_sorted x _ (isort_sorted r)
theorem sorted_eq : ∀ {a b : List Int}, a.Perm b → a.Pairwise (· ≤ ·) → b.Pairwise (· ≤ ·) → a = b
  | [], b, p, _, _ => (List.nil_perm.mp p).symm
  | x :: a, [], p, _, _ => absurd p.length_eq (by simp)
  | x :: a, y :: b, p, ha, hb => by
    cases ha with
    | cons ha1 ha2 => cases hb with
      | cons hb1 hb2 =>
        have e : x = y := by
          have h1 : x ∈ y :: b := p.mem_iff.mp List.mem_cons_self
          have h2 : y ∈ x :: a := p.mem_iff.mpr List.mem_cons_self
          have l1 : y ≤ x := by
            rcases List.mem_cons.mp h1 with z | z
            · omega
            · exact hb1 x z
          have l2 : x ≤ y := by
            rcases List.mem_cons.mp h2 with z | z
            · omega
            · exact ha1 y z
          omega
        subst e
        rw [sorted_eq ((List.perm_cons x).mp p) ha2 hb2]
theorem isort_eq {a b : List Int} (p : a.Perm b) (h : a.Pairwise (· ≤ ·)) : a = isort b := sorted_eq (p.trans (isort_perm b).symm) h (isort_sorted b)
theorem rd_sorted {K : PySem.W.Frag} {H : Hp} {Q : VK} {a : Addr} {ns : List Int} (h : SqL K H a (ns.map V.int)) (q : ∀ p, H p = none → Q (.ref p) (upd H p (.lst ((isort ns).map V.int)))) : rSortedI K [.ref a] H Q :=
  ⟨a, ns, rfl, h, fun ns' p hp hs hn => by rw [isort_eq hp hs]; exact q p hn⟩
theorem map_int {l : List Nat} {f : Nat → Int} : (l.map fun n => V.int (f n)) = (l.map f).map V.int := by rw [List.map_map]; rfl
/-! ### bits of numbers from 0 -/
theorem and_nat (a b : Nat) : Builtin.bitAnd (a : Int) (b : Int) = ((a &&& b : Nat) : Int) := by
  unfold Builtin.bitAnd
  rw [decide_eq_true (by omega), decide_eq_true (by omega)]
  simp
theorem or_nat (a b : Nat) : Builtin.bitOr (a : Int) (b : Int) = ((a ||| b : Nat) : Int) := by
  rw [bitOr_nn (by omega) (by omega)]
  simp
theorem xor_nat (a b : Nat) : Builtin.bitXor (a : Int) (b : Int) = ((a ^^^ b : Nat) : Int) := by
  rw [Bits.bitXor_pp (by omega) (by omega)]
  simp
theorem shr_nat (a k : Nat) : (a : Int) / 2 ^ ((k : Int)).toNat = ((a / 2 ^ k : Nat) : Int) := by
  rw [Int.toNat_natCast, Int.natCast_ediv, Int.natCast_pow]
  rfl
theorem shl_nat (a k : Nat) : (a : Int) * 2 ^ ((k : Int)).toNat = ((a * 2 ^ k : Nat) : Int) := by
  rw [Int.toNat_natCast, Int.natCast_mul, Int.natCast_pow]
  rfl
def rNN (f : Nat → Nat → Nat) : R2 := fun x y H Q => ∃ a b : Nat, x = .int (a : Int) ∧ y = .int (b : Int) ∧ Q (.int ((f a b : Nat) : Int)) H
def rShlN : R2 := fun x y H Q => ∃ a k : Nat, x = .int (a : Int) ∧ y = .int (k : Int) ∧ (a < 2 ^ 1000 ∧ k ≤ 1000) ∧ Q (.int ((a * 2 ^ k : Nat) : Int)) H
section
variable {X : Cx}
theorem on_and : OpR X (binaryOp .BitAnd) (rNN (· &&& ·)) := by
  intro pins s σ H x y v u Q I rx ry h
  obtain ⟨a, b, rfl, rfl, q⟩ := h
  refine op_and pins s σ H _ _ v u Q I rx ry ⟨_, _, rfl, rfl, ?_⟩
  show Q (.int (Builtin.bitAnd (a : Int) (b : Int))) H
  rw [and_nat]
  exact q
theorem on_or : OpR X (binaryOp .BitOr) (rNN (· ||| ·)) := by
  intro pins s σ H x y v u Q I rx ry h
  obtain ⟨a, b, rfl, rfl, q⟩ := h
  refine op_or pins s σ H _ _ v u Q I rx ry ⟨_, _, rfl, rfl, ?_⟩
  show Q (.int (Builtin.bitOr (a : Int) (b : Int))) H
  rw [or_nat]
  exact q
theorem on_xor : OpR X (binaryOp .BitXor) (rNN (· ^^^ ·)) := by
  intro pins s σ H x y v u Q I rx ry h
  obtain ⟨a, b, rfl, rfl, q⟩ := h
  refine op_xor pins s σ H _ _ v u Q I rx ry ⟨_, _, rfl, rfl, ?_⟩
  show Q (.int (Builtin.bitXor (a : Int) (b : Int))) H
  rw [xor_nat]
  exact q
theorem on_shr : OpR X (binaryOp .RShift) (rNN fun a k => a / 2 ^ k) := by
  intro pins s σ H x y v u Q I rx ry h
  obtain ⟨a, b, rfl, rfl, q⟩ := h
  refine op_shr pins s σ H _ _ v u Q I rx ry ⟨_, _, rfl, rfl, by omega, ?_⟩
  show Q (.int ((a : Int) / 2 ^ ((b : Int)).toNat)) H
  rw [shr_nat]
  exact q
theorem on_shl : OpR X (binaryOp .LShift) rShlN := by
  intro pins s σ H x y v u Q I rx ry h
  obtain ⟨a, k, rfl, rfl, ⟨h1, h2⟩, q⟩ := h
  refine op_shlW pins s σ H _ _ v u Q I rx ry ⟨_, _, rfl, rfl, shl_ok (n := 1000) (by simpa using h1) (by omega), ?_⟩
  show Q (.int ((a : Int) * 2 ^ ((k : Int)).toNat)) H
  rw [shl_nat]
  exact q
end
section
variable {H : Hp} {Q : VK} {f : Nat → Nat → Nat} {a b : Nat}
theorem rd_NN (q : Q (.int ((f a b : Nat) : Int)) H) : rNN f (.int (a : Int)) (.int (b : Int)) H Q := ⟨a, b, rfl, rfl, q⟩
theorem rd_NL (q : Q (.int ((f a b : Nat) : Int)) H) : rNN f (.int (a : Int)) (.int (OfNat.ofNat b)) H Q := ⟨a, b, rfl, rfl, q⟩
theorem rd_LN (q : Q (.int ((f a b : Nat) : Int)) H) : rNN f (.int (OfNat.ofNat a)) (.int (b : Int)) H Q := ⟨a, b, rfl, rfl, q⟩
theorem rd_shl1 (h : b ≤ 1000) (q : Q (.int ((2 ^ b : Nat) : Int)) H) : rShlN (.int 1) (.int (b : Int)) H Q := ⟨1, b, rfl, rfl, ⟨by decide +kernel, h⟩, by rw [Nat.one_mul]; exact q⟩
theorem rd_shlN (h1 : a < 2 ^ 1000) (h : b ≤ 1000) (q : Q (.int ((a * 2 ^ b : Nat) : Int)) H) : rShlN (.int (a : Int)) (.int (b : Int)) H Q := ⟨a, b, rfl, rfl, ⟨h1, h⟩, q⟩
end
theorem bne_cast (a : Nat) : (((a : Nat) : Int) != 0) = (a != 0) := by
  cases a with
  | zero => rfl
  | succ n => rfl
section
variable {K : PySem.W.Frag} {σ : L2.St} {H : Hp} {D : Ends} {g : TG} {tb : TS} {t : TA}
theorem rd_for {wi : TI} (h : wi σ H fun J H1 => ∃ W : Nat → Nat → L2.St → Hp → Prop, (∃ m, W 0 m σ H1) ∧ ∀ i m σ H, W i m σ H →
  ((J.stop i H ∧ D.nx σ H) ∨ (J.go i H ∧ ∃ N : L2.St → Hp → Prop, (∀ σ' H', N σ' H' → ∃ m', m' < m ∧ W (i + 1) m' σ' H') ∧ ∀ x H', J.yld i H x H' → g x σ H' fun σ2 H2 => tb { D with nx := N, ct := N, bk := D.nx } σ2 H2))) : tFor wi g tb D σ H := h
theorem rd_iRev {tr : L2.St → Hp → (Int → Int → Hp → Prop) → Prop} {R : It → Hp → Prop} (h : tr σ H fun a b H1 => -(2 ^ 62) ≤ a ∧ a < 2 ^ 62 ∧ -(2 ^ 62) ≤ b ∧ b < 2 ^ 62 ∧ R (Itc (a + (((b - a).toNat : Nat) : Int) - 1) (-1) (b - a).toNat) H1) : iRevR tr σ H R := h
theorem rd_gname {i : Nat} {v : V} {Q : L2.St → Hp → Prop} (q : Q (σ.set i (some v)) H) : gName i v σ H Q := q
end
theorem rd_Rg1 {σ : L2.St} {H : Hp} {ta : TE} {Q : Int → Int → Hp → Prop} (h : ta σ H fun x H1 => ∃ n, x = .int n ∧ Q 0 n H1) : tRg1 ta σ H Q := h
end Lw

set_option Elab.async false
set_option linter.all false
set_option maxRecDepth 100000
set_option maxHeartbeats 2000000
namespace Lw
open PySem PySem.Spec PyProof.Rows L2 He Evl StX
section
variable {K : PySem.W.Frag} {σ : L2.St} {B : Hp} {te : TE} {a : Addr}
/-- a list is being filled at Dl: acc so far; all else as in B, and more -/
def Fill (B : Hp) (Dl : Addr) (acc : List V) (H' : Hp) : Prop := B Dl = none ∧ Ex B H' ∧ H' Dl = some (.lst acc)
theorem given_succ {n : Nat} {f : Nat → Bool} {g : Nat → V} : given (n + 1) f g = given n f g ++ (if f n = true then [g n] else []) := by
  cases h : f n with
  | true => rw [given_yes h, if_pos rfl]
  | false => rw [given_no h, if_neg (by decide), List.append_nil]
theorem fill_turn {acc : List V} {Dl : Addr} {H' : Hp} {σ3 : L2.St} {n k : Nat} {tt1 : TT} {f : Nat → Bool} {g : Nat → V} (hz : acc.length + n ≤ 40000) (hk : k < n) (p : Fill B Dl (acc ++ given k f g) H')
    (ht : EvT tt1 σ3 B (f k)) (he : f k = true → Ev te σ3 B (g k)) :
    tt1 σ3 H' fun b H6 => if b = true then te σ3 H6 fun y H7 => ∃ acc', H7 Dl = some (.lst acc') ∧ acc'.length < sizeLine ∧ Fill B Dl (acc ++ given (k + 1) f g) (upd H7 Dl (.lst (acc' ++ [y]))) else Fill B Dl (acc ++ given (k + 1) f g) H6 := by
  obtain ⟨p1, p2, p3⟩ := p
  refine ht H' p2 _ fun H6 e6 => ?_
  have hl := given_len k f g
  cases hf : f k with
  | true =>
    show te σ3 H6 _
    refine he hf H6 (p2.trans e6) _ fun H7 e7 => ⟨acc ++ given k f g, e7 Dl _ (e6 Dl _ p3), sz_lt (by rw [List.length_append]; omega), p1, Ex.mut ((p2.trans e6).trans e7) p1, ?_⟩
    rw [upd_same, given_yes hf, List.append_assoc]
  | false =>
    show Fill B Dl (acc ++ given (k + 1) f g) H6
    refine ⟨p1, p2.trans e6, ?_⟩
    rw [given_no hf]
    exact e6 Dl _ p3
/-- the inner walk over a range -/
theorem inner_rng {acc : List V} {Dl : Addr} {H' : Hp} {σ2 : L2.St} {n j : Nat} {vs1 : List Nat} {tt1 : TT} (f : Nat → Bool) (g : Nat → V) (hz : acc.length + n ≤ 40000) (hw : ∀ x, wipe ((wipe σ2 vs1).set j (some x)) vs1 = wipe σ2 vs1)
    (ht : ∀ i : Nat, i < n → EvT tt1 ((wipe σ2 vs1).set j (some (.int (i : Int)))) B (f i)) (he : ∀ i : Nat, i < n → f i = true → Ev te ((wipe σ2 vs1).set j (some (.int (i : Int)))) B (g i))
    (h0 : Fill B Dl acc H') :
    ∃ W1 : Nat → Nat → Hp → Prop, (∃ m, W1 0 m H') ∧ ∀ k m H, W1 k m H →
      ((Itr 0 n).stop k H ∧ Fill B Dl (acc ++ given n f g) H) ∨ ((Itr 0 n).go k H ∧ ∃ Nx1 : Hp → Prop, (∀ H', Nx1 H' → ∃ m', m' < m ∧ W1 (k + 1) m' H') ∧ ∀ x H', (Itr 0 n).yld k H x H' → gName j x (wipe σ2 vs1) H' fun σ3 H5 => wipe σ3 vs1 = wipe σ2 vs1 ∧ tt1 σ3 H5 fun b H6 =>
        if b = true then te σ3 H6 fun y H7 => ∃ acc, H7 Dl = some (.lst acc) ∧ acc.length < sizeLine ∧ Nx1 (upd H7 Dl (.lst (acc ++ [y]))) else Nx1 H6) := by
  have z0 : Fill B Dl (acc ++ given 0 f g) H' := by
    have e : acc ++ given 0 f g = acc := by
      show acc ++ [] = acc
      exact List.append_nil _
    rw [e]
    exact h0
  refine ⟨fun k m H => m = n - k ∧ k ≤ n ∧ Fill B Dl (acc ++ given k f g) H, ⟨n, by simp, Nat.zero_le _, z0⟩, ?_⟩
  rintro k m H ⟨rfl, hk, p⟩
  by_cases h : k < n
  · refine .inr ⟨h, Fill B Dl (acc ++ given (k + 1) f g), fun H2 q => ⟨n - (k + 1), by omega, rfl, h, q⟩, fun x H2 y => ?_⟩
    obtain ⟨e1, e2⟩ := y
    subst e1 e2
    rw [Int.zero_add]
    exact ⟨hw _, fill_turn hz h p (ht k h) (he k h)⟩
  · have e : k = n := by omega
    subst e
    exact .inl ⟨Nat.le_refl _, p⟩
/-- what the outer turns have made -/
def flat (i : Nat) (n : Nat → Nat) (f : Nat → Nat → Bool) (g : Nat → Nat → V) : List V := (List.range i).flatMap fun k => given (n k) (f k) (g k)
theorem flat_succ {i : Nat} {n : Nat → Nat} {f : Nat → Nat → Bool} {g : Nat → Nat → V} : flat (i + 1) n f g = flat i n f g ++ given (n i) (f i) (g i) := by
  unfold flat
  rw [List.range_succ, List.flatMap_append, List.flatMap_singleton]
theorem flat_len {i M : Nat} {n : Nat → Nat} {f : Nat → Nat → Bool} {g : Nat → Nat → V} (h : ∀ k, k < i → n k ≤ M) : (flat i n f g).length ≤ i * M := by
  induction i with
  | zero => simp [flat]
  | succ i ih =>
    rw [flat_succ, List.length_append, Nat.succ_mul]
    have h1 := ih fun k hk => h k (by omega)
    have h2 := given_len (n i) (f i) (g i)
    have h3 := h i (by omega)
    omega
/-- two fors: over a tuple, then over a range -/
theorem lc2_TR {Qd : Addr → Hp → Prop} {xs : List V} {j j1 M : Nat} {vs vs1 : List Nat} {tt tt1 : TT} {ta1 : TA} (ok : Nat → Bool) (n : Nat → Nat) (f : Nat → Nat → Bool) (g : Nat → Nat → V)
    (hx : SqT K B a xs) (hM : xs.length * M ≤ 40000) (hn : ∀ i, i < xs.length → n i ≤ M)
    (hw : ∀ x, wipe ((wipe σ vs).set j (some x)) vs = wipe σ vs)
    (hw1 : ∀ x y, wipe ((wipe ((wipe σ vs).set j (some x)) vs1).set j1 (some y)) vs1 = wipe ((wipe σ vs).set j (some x)) vs1)
    (h0 : ∀ (i : Nat) (x : V), xs[i]? = some x → EvT tt ((wipe σ vs).set j (some x)) B (ok i))
    (hok : ∀ i, i < xs.length → ok i = false → n i = 0)
    (ha : ∀ (i : Nat) (x : V), xs[i]? = some x → ok i = true → EvA ta1 ((wipe σ vs).set j (some x)) B [.int (n i : Int)])
    (ht : ∀ (i : Nat) (x : V) (k : Nat), xs[i]? = some x → k < n i → EvT tt1 ((wipe ((wipe σ vs).set j (some x)) vs1).set j1 (some (.int (k : Int)))) B (f i k))
    (he : ∀ (i : Nat) (x : V) (k : Nat), xs[i]? = some x → k < n i → f i k = true → Ev te ((wipe ((wipe σ vs).set j (some x)) vs1).set j1 (some (.int (k : Int)))) B (g i k))
    (q : ∀ p H', B p = none → Ex B H' → H' p = some (.lst (flat xs.length n f g)) → Qd p H') :
    ∀ D, B D = none → ∃ W : Nat → Nat → Hp → Prop, (∃ m, W 0 m (upd B D (.lst []))) ∧ ∀ i m H, W i m H →
      ((Itt K a).stop i H ∧ Qd D H) ∨ ((Itt K a).go i H ∧ ∃ Nx : Hp → Prop, (∀ H', Nx H' → ∃ m', m' < m ∧ W (i + 1) m' H') ∧ ∀ x H', (Itt K a).yld i H x H' → gName j x (wipe σ vs) H' fun σ2 H2 => wipe σ2 vs = wipe σ vs ∧ tt σ2 H2 fun b H3 =>
        if b = true then iRng1 ta1 σ2 H3 fun J1 H4 => ∃ W1 : Nat → Nat → Hp → Prop, (∃ m, W1 0 m H4) ∧ ∀ j' k H, W1 j' k H →
          (J1.stop j' H ∧ Nx H) ∨ (J1.go j' H ∧ ∃ Nx1 : Hp → Prop, (∀ H', Nx1 H' → ∃ k', k' < k ∧ W1 (j' + 1) k' H') ∧ ∀ x H', J1.yld j' H x H' → gName j1 x (wipe σ2 vs1) H' fun σ3 H5 => wipe σ3 vs1 = wipe σ2 vs1 ∧ tt1 σ3 H5 fun b H6 =>
            if b = true then te σ3 H6 fun y H7 => ∃ acc, H7 D = some (.lst acc) ∧ acc.length < sizeLine ∧ Nx1 (upd H7 D (.lst (acc ++ [y]))) else Nx1 H6)
        else Nx H3) := fun Dl hD => by
  refine ⟨fun i m H => m = xs.length - i ∧ i ≤ xs.length ∧ Fill B Dl (flat i n f g) H, ⟨xs.length, by simp, Nat.zero_le _, hD, Ex.new hD, upd_same⟩, ?_⟩
  rintro i m H ⟨rfl, hi, p⟩
  have hxH : SqT K H a xs := ex_t p.2.1 hx
  by_cases hlt : i < xs.length
  · have hxi : xs[i]? = some xs[i] := List.getElem?_eq_getElem hlt
    refine .inr ⟨⟨xs, xs[i], hxH, hxi⟩, Fill B Dl (flat (i + 1) n f g), fun H' q' => ⟨xs.length - (i + 1), by omega, rfl, hlt, q'⟩, fun x H' y => ?_⟩
    obtain ⟨e1, y⟩ := y
    subst e1
    have ex := y xs hxH
    refine ⟨hw x, ?_⟩
    refine h0 i x ex _ p.2.1 _ fun H3 e3 => ?_
    have p3 : Fill B Dl (flat i n f g) H3 := ⟨p.1, p.2.1.trans e3, e3 Dl _ p.2.2⟩
    have hfl := flat_len (f := f) (g := g) (M := M) (n := n) (i := i) fun k hk => hn k (by omega)
    have hn1 := hn i hlt
    have hm : i * M + M ≤ xs.length * M := by
      rw [← Nat.succ_mul]
      exact Nat.mul_le_mul_right M hlt
    cases hb : ok i with
    | true =>
      rw [if_pos rfl]
      refine ha i x ex hb H3 p3.2.1 _ fun H4 e4 => ⟨(n i : Int), rfl, by omega, by omega, ?_⟩
      have p4 : Fill B Dl (flat i n f g) H4 := ⟨p3.1, p3.2.1.trans e4, e4 Dl _ p3.2.2⟩
      rw [flat_succ]
      rw [Int.toNat_natCast]
      exact inner_rng (f i) (g i) (by omega) (fun y => hw1 x y) (fun k hk => ht i x k ex hk) (fun k hk hf => he i x k ex hk hf) p4
    | false =>
      show Fill B Dl (flat (i + 1) n f g) H3
      have e0 : given (n i) (f i) (g i) = [] := by
        rw [hok i hlt hb]
        rfl
      rw [flat_succ, e0, List.append_nil]
      exact p3
  · have e : i = xs.length := by omega
    subst e
    exact .inl ⟨⟨xs, hxH, Nat.le_refl _⟩, q Dl H p.1 p.2.1 p.2.2⟩
theorem rd_lc2 {H : Hp} {Q : VK} {wi wi1 : TI} {g g1 : TG} {tt tt1 : TT} {vs vs1 : List Nat} (h : wi σ H fun J H1 => ∀ D, H1 D = none → ∃ W : Nat → Nat → Hp → Prop, (∃ m, W 0 m (upd H1 D (.lst []))) ∧ ∀ i m H, W i m H →
  (J.stop i H ∧ Q (.ref D) H) ∨ (J.go i H ∧ ∃ Nx : Hp → Prop, (∀ H', Nx H' → ∃ m', m' < m ∧ W (i + 1) m' H') ∧ ∀ x H', J.yld i H x H' → g x (wipe σ vs) H' fun σ2 H2 => wipe σ2 vs = wipe σ vs ∧ tt σ2 H2 fun b H3 =>
    if b = true then wi1 σ2 H3 fun J1 H4 => ∃ W1 : Nat → Nat → Hp → Prop, (∃ m, W1 0 m H4) ∧ ∀ j k H, W1 j k H →
      (J1.stop j H ∧ Nx H) ∨ (J1.go j H ∧ ∃ Nx1 : Hp → Prop, (∀ H', Nx1 H' → ∃ k', k' < k ∧ W1 (j + 1) k' H') ∧ ∀ x H', J1.yld j H x H' → g1 x (wipe σ2 vs1) H' fun σ3 H5 => wipe σ3 vs1 = wipe σ2 vs1 ∧ tt1 σ3 H5 fun b H6 =>
        if b = true then te σ3 H6 fun y H7 => ∃ acc, H7 D = some (.lst acc) ∧ acc.length < sizeLine ∧ Nx1 (upd H7 D (.lst (acc ++ [y]))) else Nx1 H6)
    else Nx H3)) : tLc2 wi g tt wi1 g1 tt1 te vs vs1 σ H Q := h
end
section
variable {K : PySem.W.Frag} {σ : L2.St} {B H : Hp} {D : Ends} {te ta tb : TE} {Q : VK} {l : Addr} {xs : List V} {v : V}
theorem Fill.new {p : Addr} (h : B p = none) {xs : List V} : Fill B p xs (upd B p (.lst xs)) := ⟨h, Ex.new h, upd_same⟩
theorem Fill.set {H' : Hp} (h : Fill B l xs H') (ys : List V) : Fill B l ys (upd H' l (.lst ys)) := ⟨h.1, Ex.mut h.2.1 h.1, upd_same⟩
theorem Fill.ex {H' H2 : Hp} (h : Fill B l xs H') (e : Ex H' H2) : Fill B l xs H2 := ⟨h.1, h.2.1.trans e, e l _ h.2.2⟩
theorem Fill.base {B0 : Hp} {H' : Hp} (e : Ex B0 B) (h : Fill B l xs H') : Fill B0 l xs H' := ⟨fresh_back e h.1, e.trans h.2.1, h.2.2⟩
theorem rd_last (h : H l = some (.lst (xs ++ [v]))) (q : Q v H) : rIxL K (.ref l) (.int (-1)) H Q := ⟨l, xs ++ [v], -1, v, rfl, rfl, sq_of h, atI_last xs v, q⟩
theorem rd_while {c : TT} {tb : TS} (h : ∃ W : Nat → L2.St → Hp → Prop, (∃ m, W m σ H) ∧ ∀ m σ H, W m σ H → c σ H fun b H1 => (b = true → ∃ N : L2.St → Hp → Prop, (∀ σ' H', N σ' H' → ∃ m', m' < m ∧ W m' σ' H') ∧ tb { D with nx := N, ct := N, bk := D.nx } σ H1) ∧ (b = false → D.nx σ H1)) : tWhile c tb D σ H := by
  obtain ⟨W, hm, hs⟩ := h
  refine ⟨W, hm, fun m σ H w => ?_⟩
  have e : (fun (b : Bool) (H1 : Hp) => if b = true then ∃ N : L2.St → Hp → Prop, (∀ σ' H', N σ' H' → ∃ m', m' < m ∧ W m' σ' H') ∧ tb { D with nx := N, ct := N, bk := D.nx } σ H1 else D.nx σ H1) =
      fun b H1 => (b = true → ∃ N : L2.St → Hp → Prop, (∀ σ' H', N σ' H' → ∃ m', m' < m ∧ W m' σ' H') ∧ tb { D with nx := N, ct := N, bk := D.nx } σ H1) ∧ (b = false → D.nx σ H1) := by
    funext b H1
    cases b
    · rw [if_neg Bool.false_ne_true]
      exact propext ⟨fun h => ⟨(fun z => nomatch z), fun _ => h⟩, fun h => h.2 rfl⟩
    · rw [if_pos rfl]
      exact propext ⟨fun h => ⟨fun _ => h, (fun z => nomatch z)⟩, fun h => h.1 rfl⟩
  rw [e]
  exact hs m σ H w
theorem rd_BM {T : String} {r : V → List V → Hp → VK → Prop} {tA : TA} (h : te σ H fun x H1 => tyV K T x H1 ∧ tA σ H1 fun xs H2 => r x xs H2 Q) : tBM K T r te tA σ H Q := h
theorem rd_app (h : H l = some (.lst xs)) (hz : xs.length < 100000) (q : Q .non (upd H l (.lst (xs ++ [v])))) : rAppend (.ref l) [v] H Q := ⟨l, xs, v, rfl, rfl, h, sz_lt hz, q⟩
theorem ty_lst (h : H l = some (.lst xs)) : tyV K "list" (.ref l) H := .inl ⟨rfl, xs, sq_of h⟩
theorem rd_neg {i : Int} (q : Q (.int (-i)) H) : rU (fun i => .int (-i)) (.int i) H Q := ⟨i, rfl, q⟩
end
theorem rd_iZip {K : PySem.W.Frag} {σ : L2.St} {H : Hp} {ta : TA} {R : It → Hp → Prop} (h : ta σ H fun vs H1 => ∃ a b xs ys, vs = [.ref a, .ref b] ∧ ((SqL K H1 a xs ∧ SqL K H1 b ys ∧ R (Itz K a b) H1) ∨ (SqT K H1 a xs ∧ SqT K H1 b ys ∧ R (RZ.ItzT K a b) H1))) : RZ.iZipA K ta σ H R := h
theorem rd_gcons {σ : L2.St} {H : Hp} {t : TG} {u : TGs} {v : V} {r : List V} {Q : L2.St → Hp → Prop} (h : t v σ H fun σ' H' => u r σ' H' Q) : gCons t u (v :: r) σ H Q := ⟨v, r, rfl, h⟩
theorem rd_gnil {σ : L2.St} {H : Hp} {Q : L2.St → Hp → Prop} (h : Q σ H) : gNil [] σ H Q := ⟨rfl, h⟩
end Lw

set_option Elab.async false
set_option linter.all false
set_option maxRecDepth 100000
set_option maxHeartbeats 2000000
namespace Lw
open PySem PySem.Spec PyProof.Rows L2 He Evl StX
theorem rd_int1 {P : Int → Prop} {R : Prop} {i : Int} (q : P i) : (∃ j, [V.int i] = [V.int j] ∧ P j) ∨ R := .inl ⟨i, rfl, q⟩
theorem rd_ex1 {P : Int → Prop} {i : Int} (q : P i) : ∃ j, [V.int i] = [V.int j] ∧ P j := ⟨i, rfl, q⟩
theorem fmod_bd (i : Int) {j : Int} (h : 0 < j) : 0 ≤ i.fmod j ∧ i.fmod j < j := ⟨Int.fmod_nonneg_of_pos i h, Int.fmod_lt_of_pos i h⟩
theorem div_bd {i : Int} {j : Int} (h0 : 0 ≤ i) (h : 0 < j) : 0 ≤ i / j ∧ i / j ≤ i := ⟨Int.ediv_nonneg h0 (by omega), Int.ediv_le_self _ h0⟩
/-- how many bits -/
abbrev bits (i : Int) : Nat := Builtin.Int.intBits i
theorem bits_le {i : Int} {a : Nat} (h : i.natAbs < 2 ^ a) : bits i ≤ a := PyProof.Rows.intBits_le h
theorem mulx_bits {i j : Int} {a b : Nat} (h1 : bits i ≤ a) (h2 : bits j ≤ b) (h : a + b ≤ 134217728) : CMulX i j := by
  have h1 : Builtin.Int.intBits i ≤ a := h1
  have h2 : Builtin.Int.intBits j ≤ b := h2
  unfold CMulX
  omega
theorem bits_mono {i j : Int} (h0 : 0 ≤ i) (h : i ≤ j) : bits i ≤ bits j := by
  unfold bits Builtin.Int.intBits
  by_cases e : i = 0
  · simp [e]
  · have hj : ¬ j = 0 := by omega
    have e1 : (i == 0) = false := by simpa using e
    have e2 : (j == 0) = false := by simpa using hj
    rw [e1, e2]
    simp only [Bool.false_eq_true, if_false]
    have h3 : i.natAbs ≤ j.natAbs := by omega
    have h4 : i.natAbs.log2 ≤ j.natAbs.log2 := by
      have hne : i.natAbs ≠ 0 := by omega
      have h5 := Nat.log2_self_le hne
      exact (Nat.le_log2 (by omega)).mpr (Nat.le_trans h5 h3)
    omega
theorem bits_abs (i : Int) : bits (if i < 0 then -i else i) = bits i := by
  split
  · unfold bits Builtin.Int.intBits
    rw [Int.natAbs_neg]
    have e : (-i == 0) = (i == 0) := by
      by_cases h : i = 0
      · subst h; rfl
      · have h1 : ¬ -i = 0 := by omega
        rw [beq_eq_false_iff_ne.mpr h1, beq_eq_false_iff_ne.mpr h]
    rw [e]
  · rfl
/-- the hand of draws at h -/
def Hand (H : Hp) (h : Addr) : Prop := ∃ (c : Addr) (cells : List Int) (i : Nat) (r t : Int), H h = some (.lst [.ref c, .int (i : Int), .int r, .int t]) ∧ H c = some (.lst (cells.map V.int)) ∧ c ≠ h ∧
  (∀ z ∈ cells, 0 ≤ z ∧ bits z ≤ 1048576) ∧ i ≤ cells.length ∧ cells.length ≤ 63 ∧ 0 ≤ r ∧ bits r ≤ 1048576 ∧ 0 ≤ t ∧ t < 2147483629
/-- all but the hand stands as it stood -/
def Dh (h : Addr) (H H' : Hp) : Prop := ∀ a o, a ≠ h → H a = some o → H' a = some o
theorem Dh.refl (h : Addr) (H : Hp) : Dh h H H := fun _ _ _ q => q
theorem Dh.trans {h : Addr} {H H1 H2 : Hp} (a : Dh h H H1) (b : Dh h H1 H2) : Dh h H H2 := fun x o n q => b x o n (a x o n q)
theorem Dh.of {h : Addr} {H H1 : Hp} (e : Ex H H1) : Dh h H H1 := fun x o _ q => e x o q
theorem Dh.upd {h : Addr} {H : Hp} {o : HO} : Dh h H (upd H h o) := fun a u n q => by rw [upd_ne n]; exact q
theorem Hand.ex {H H' : Hp} {h : Addr} (e : Ex H H') (x : Hand H h) : Hand H' h := by
  obtain ⟨c, cells, i, r, t, h1, h2, rest⟩ := x
  exact ⟨c, cells, i, r, t, e _ _ h1, e _ _ h2, rest⟩
theorem Hand.there {H : Hp} {h : Addr} (x : Hand H h) : ∃ o, H h = some o := by
  obtain ⟨c, cells, i, r, t, h1, _⟩ := x
  exact ⟨_, h1⟩
theorem Dh.free {h : Addr} {H H' : Hp} {p : Addr} (d : Dh h H H') (x : Hand H' h) (n : H' p = none) : H p = none := by
  cases q : H p with
  | none => rfl
  | some o =>
    by_cases e : p = h
    · obtain ⟨u, hu⟩ := x.there
      rw [e, hu] at n
      cases n
    · rw [d p o e q] at n
      cases n
/-- set a place of the hand -/
theorem rd_setH {H : Hp} {l : Addr} {xs : List V} {k : Nat} {v : V} {Q : Hp → Prop} (h : H l = some (.lst xs)) (hk : k < xs.length) (q : Q (upd H l (.lst (xs.set k v)))) : rSetL (.ref l) (.int (k : Int)) v H Q :=
  ⟨l, xs, (k : Int), k, rfl, rfl, h, ixN_nat hk, q⟩
theorem rd_ix {K : PySem.W.Frag} {H : Hp} {l : Addr} {xs : List V} {k : Nat} {v : V} {Q : VK} (h : SqL K H l xs) (hk : xs[k]? = some v) (q : Q v H) : rIxL K (.ref l) (.int (k : Int)) H Q := ⟨l, xs, k, v, rfl, rfl, h, atI_nat hk, q⟩
theorem rd_ixl {K : PySem.W.Frag} {H : Hp} {l : Addr} {xs : List V} {k : Nat} {v : V} {Q : VK} (h : H l = some (.lst xs)) (hk : xs[k]? = some v) (q : Q v H) : rIxL K (.ref l) (.int (OfNat.ofNat k)) H Q := ⟨l, xs, _, v, rfl, rfl, sq_of h, atI_nat (j := k) hk, q⟩
theorem rd_sub {σ : L2.St} {H : Hp} {D : Ends} {te to ti : TE} {ts : TSet} (h : te σ H fun v H1 => to σ H1 fun o H2 => ti σ H2 fun i H3 => ts o i v H3 fun H4 => D.nx σ H4) : tAsg te (gSub to ti ts) D σ H := h
/-- a word between two statements -/
theorem rd_mid {t u : TS} {D : Ends} {σ : L2.St} {H : Hp} (Mid : L2.St → Hp → Prop) (h : ∀ N : L2.St → Hp → Prop, (∀ σ' H', Mid σ' H' → N σ' H') → t { D with nx := N } σ H) (k : ∀ σ' H', Mid σ' H' → u D σ' H') : tSeq t u D σ H := h _ k
theorem Hand.mk {H : Hp} {h c : Addr} {cells : List Int} {i : Nat} {r t : Int} (h1 : H h = some (.lst [.ref c, .int (i : Int), .int r, .int t])) (h2 : H c = some (.lst (cells.map V.int))) (h3 : c ≠ h) (h4 : ∀ z ∈ cells, 0 ≤ z ∧ bits z ≤ 1048576) (h5 : i ≤ cells.length) (h6 : cells.length ≤ 63)
  (h7 : 0 ≤ r) (h8 : bits r ≤ 1048576) (h9 : 0 ≤ t) (h10 : t < 2147483629) : Hand H h := ⟨c, cells, i, r, t, h1, h2, h3, h4, h5, h6, h7, h8, h9, h10⟩
theorem rd_iEnum {K : PySem.W.Frag} {σ : L2.St} {H : Hp} {ta : TA} {R : It → Hp → Prop} (h : ta σ H fun vs H1 => ∃ a xs, vs = [.ref a] ∧ SqL K H1 a xs ∧ R (Ite K a) H1) : iEnum K ta σ H R := h
theorem digits_half {n : Nat} (h : 2 ≤ n) : binL n = binL (n / 2) ++ [(Nat.digitChar (n % 2)).toNat] := by
  unfold binL
  rw [Nat.toDigits_eq_if (by decide), if_neg (by omega), List.map_append]
  rfl
theorem ones_half (n : Nat) (h : 0 < n) : onesN n = onesN (n / 2) + n % 2 := by
  by_cases h2 : 2 ≤ n
  · unfold onesN
    rw [digits_half h2, List.count_append]
    rcases Nat.mod_two_eq_zero_or_one n with e | e <;> rw [e] <;> rfl
  · have e : n = 1 := by omega
    subst e
    decide
end Lw

set_option Elab.async false
set_option linter.all false
set_option maxRecDepth 100000
set_option maxHeartbeats 3200000
namespace Lw
open PySem PySem.Spec PyProof.Rows L2 He
/-! ### set(a list of ints) -/
section
variable {P : Program} {w : World} {A : Around} {E : Value → Shared → Prop} {s : Shared}
abbrev emS (w : World) : Obj := { cls := .type "set", dict := none, data := .set #[] 0 (.fresh 0 0 (!w.params.followText "set-order")) }
theorem set_of_ints {l : Addr} {items : Array Value} (ns : List Int) {Q : Value → Shared → Prop} (nh : A.handled = none) (lst : s.heap.IsList l items) (hInts : IntsAre items.toList ns) (few : ns.length + 1 < scanBound)
    (out : ∀ (h2 : Heap) (k c : Nat), SetR w h2 s.heap.objs.size (fun j => decide (j ∈ ns)) c → c ≤ ns.length → (∀ b o, s.heap.get? b = some o → h2.get? b = some o) → Q (.ref s.heap.objs.size) { s with heap := h2, toks := k }) :
    wpAny (model P w) A (call (.type "set") [.ref l]) Q E s := by
  have size_eq : items.size = ns.length := by
    have := IntsAre.length hInts
    rwa [Array.length_toList] at this
  obtain ⟨_, _, mroEq⟩ := F.called_set.mro
  have madeEq := F.called_set.made
  have subEq := F.called_set.sub
  apply wpAny_call
  apply codeAny_of_tree
  change wpAny _ _ (callAny (.type "set") _) _ _ _
  refine wpAny_pure ⟨Code.quiet_builtin _ (by decide +kernel), ?_⟩
  apply codeAny_builtin F.entry_type_call
  rw [Around.under_plain (weight_type_call_type "set" [.ref l] []) rfl]
  have notTy := F.called_set.notType
  have mayMake := F.called_set.canCreate
  have tyCall := F.typeCall_set_1 (.ref l)
  repeat (any_goals (first | assumption | wp_step))
  refine codeAny_mono (code_set_led1 (.ref l) (E := E) (Q₁ := fun v t => v = .ref s.heap.objs.size ∧ t = { s with heap := s.heap.push (emS w) }) ⟨rfl, rfl⟩) ?_
  rintro (er | fl) t1 made
  · exact made
  rcases fl with _ | _ | _ | obj
  · exact made.elim
  · exact made.elim
  · exact made.elim
  obtain ⟨rfl, rfl⟩ := made
  have newAt : (s.heap.push (emS w)).get? s.heap.objs.size = some (emS w) := Heap.get?_push_size _ rfl
  have newTy : Shared.TypeIs { s with heap := s.heap.push (emS w) } (.ref s.heap.objs.size) "set" := ⟨_, newAt, rfl⟩
  have initLk := F.called_set.init.lookup
  have initBd := F.called_set.init.bind (.ref s.heap.objs.size)
  repeat (any_goals (first | assumption | wp_step))
  refine codeAny_mono (codeAny_call_builtin (R := wants (fun v t => v = .none ∧ ∃ h2 k c, t = { s with heap := h2, toks := k } ∧ SetR w h2 s.heap.objs.size (fun j => decide (j ∈ ns)) c ∧ c ≤ ns.length ∧ ∀ b o, s.heap.get? b = some o → h2.get? b = some o) E)
    F.called_set.init.plain F.entry_set_init (check_set_init_1 newTy ?filled)) ?after
  case after =>
    rintro (er | fl) t2 full
    · exact full
    rcases fl with _ | _ | _ | u
    · exact full.elim
    · exact full.elim
    · exact full.elim
    obtain ⟨rfl, h2, k, c, rfl, R, le, kept⟩ := full
    repeat (any_goals (first | assumption | wp_step))
    exact out _ _ _ R le kept
  case filled =>
    obtain ⟨⟨cl, dc, da, sl⟩, at_, e1, m, e2⟩ := lst
    simp only at e1 e2
    subst e1 e2
    have at2 : (s.heap.push (emS w)).get? l = some { cls := .type "list", dict := dc, data := .seq items m, slots := sl } := Heap.get?_push_of_some _ at_
    have noSet := F.sub_list_set
    have noFrozen := F.sub_list_frozenset
    have noDict : (Value.type "list" == Value.type "dict") = false := by decide
    have lst2 : (s.heap.push (emS w)).IsList l items := ⟨_, at2, rfl, m, rfl⟩
    unfold Builtin.«set.__init__» noKeywords Builtin.Frozenset.updateFrom
    generalize itEq : pyIter = IT
    wp_walk
    subst itEq
    refine wpAny_pyIter_list lst2 (wpAny_bind (wpAny_runValue ?_))
    have below : l < s.heap.objs.size := Heap.lt_size at_
    have size2 : (s.heap.push (emS w)).objs.size = s.heap.objs.size + 1 := Heap.size_push ..
    have apart : l ≠ (s.heap.push (emS w)).objs.size := by
      rw [size2]
      exact Nat.ne_of_lt (Nat.lt_succ_of_lt below)
    have outside : s.heap.objs.size ∉ [(s.heap.push (emS w)).objs.size, l] := by
      rw [size2]
      simp only [List.mem_cons, List.not_mem_nil, or_false, not_or]
      exact ⟨Nat.ne_of_lt (Nat.lt_succ_self _), Nat.ne_of_gt below⟩
    have item : ∀ (i : Nat) (v : Value), items[i]? = some v → ∃ k t, ns[i]? = some k ∧ v = .int k t := fun i v hv => by
      have lt : i < ns.length := by
        rw [← size_eq]
        exact (Array.getElem?_eq_some_iff.mp hv).1
      obtain ⟨t, e⟩ := IntsAre.int_at hInts i v (by rw [Array.getElem?_toList]; exact hv)
      refine ⟨ns[i], t, List.getElem?_eq_getElem lt, ?_⟩
      rw [List.getD_eq_getElem?_getD, List.getElem?_eq_getElem lt] at e
      exact e
    refine set_update_ints ((Walks.list (by simp [nh]) _ l apart items).toS) s.heap.objs.size outside ns size_eq few item (items.size - 0) 0 _ (by omega) (Nat.zero_le _) ⟨⟨_, Heap.get?_push_size _ rfl, rfl, rfl⟩, lst2.push _⟩ ?start ?stop
    case start =>
      exact ⟨0, Nat.le_refl 0, setR_new_at (Heap.get?_push_of_some _ newAt)⟩
    case stop =>
      rintro ⟨h2, g2, d2, k2, os2⟩ c mv le R
      obtain rfl : g2 = s.gens := mv.gens
      obtain rfl : d2 = s.drawn := mv.drawn
      obtain rfl : os2 = s.os := mv.os
      change wpAny _ _ _ _ _ _
      apply wpAny_pure
      change wpAny _ _ (ret Value.none) _ _ _
      refine wpAny_pure ⟨rfl, h2, k2, c, rfl, R, by omega, fun b o e => ?_⟩
      have lt : b < s.heap.objs.size := Heap.lt_size e
      refine mv.heap b o ?_ (Heap.get?_push_of_some _ (Heap.get?_push_of_some _ e))
      simp only [List.mem_cons, List.not_mem_nil, or_false, not_or]
      refine ⟨Nat.ne_of_lt lt, ?_⟩
      rw [size2]
      exact Nat.ne_of_lt (Nat.lt_succ_of_lt lt)
end
/-- set(xs), xs a list or a tuple of ints -/
def rSetI (K : PySem.W.Frag) (w : World) : List V → Hp → VK → Prop := fun xs H Q => ∃ (l : Addr) (ns : List Int), xs = [.ref l] ∧ (SqL K H l (ns.map V.int) ∨ SqT K H l (ns.map V.int)) ∧ ns.length < 60 ∧
  ∀ a c, H a = none → c ≤ ns.length → Q (.ref a) (upd H a (SetO w a (fun j => decide (j ∈ ns)) c))
theorem cr_setInts {X : Cx} (hc : X.calm = true) : CallR X (.type "set") (rSetI X.K X.w) := by
  intro pins s σ H xs us Q I r h
  obtain ⟨l, ns, rfl, sq, few, q⟩ := h
  rw [Vals.ref1 r]
  have free : H s.heap.objs.size = none := I.hok.fresh (Nat.le_refl _)
  have room : ns.length + 1 < scanBound := by
    have : (100 : Nat) < scanBound := by decide
    omega
  rcases sq with sq | sq
  · obtain ⟨its, rv, pl, _⟩ := I.list sq
    exact set_of_ints (P := X.prog) (w := X.w) ns (I.ok.hd hc) pl.isList (ints_of_vals rv) room fun h2 k c R le kept =>
      ⟨.ref s.heap.objs.size, _, I.laid (t' := k) kept (Nat.le_refl _) (setO_new R), rfl, q _ c free le⟩
  · obtain ⟨its, rv, pl, _⟩ := I.tuple sq
    exact call_set_tupI (P := X.prog) (w := X.w) ns (I.ok.hd hc) pl (ints_of_vals rv) room fun h2 k c R le kept =>
      ⟨.ref s.heap.objs.size, _, I.laid (t' := k) kept (Nat.le_refl _) (setO_new R), rfl, q _ c free le⟩
end Lw

set_option Elab.async false
set_option linter.all false
set_option maxRecDepth 100000
set_option maxHeartbeats 2000000
namespace Lw
open PySem PySem.Spec PyProof.Rows L2 He
/-! ### enumerate(a tuple) -/
def ItEt (K : PySem.W.Frag) (a : Addr) : It :=
  ⟨fun i H => ∃ (xs : List V) (x : V), SqT K H a xs ∧ xs[i]? = some x, fun i H v H' => ∃ T x, v = .ref T ∧ H T = none ∧ H' = upd H T (.tup [.int (i : Nat), x]) ∧ ∀ xs, SqT K H a xs → xs[i]? = some x, fun i H => ∃ xs : List V, SqT K H a xs ∧ xs.length ≤ i⟩
theorem walk_enumT {K : PySem.W.Frag} {a : Addr} {xs : List V} : Walk (ItEt K a) xs.length (fun H => SqT K H a xs) (YPair (fun i => some (.int (i : Nat))) (fun i => xs[i]?)) :=
  ⟨fun i _ lt st => ⟨xs, xs[i], st, List.getElem?_eq_getElem lt⟩, fun _ st => ⟨xs, st, Nat.le_refl _⟩, fun i H v H' _ st y => by
    obtain ⟨T, x, e1, e2, e3, e4⟩ := y
    exact ⟨T, _, x, e1, e2, e3, rfl, e4 xs st⟩⟩
theorem turn_enumT {P : Program} {w : World} {K : PySem.W.Frag} {elts : List Expr} {kk : Nat} {tpos : Pos} (a e it : Addr) :
    Turn P w K (.Tuple elts kk tpos) (ItEt K a) [e, it] e (fun i h => (∃ old, IsEnum h e it ((i : Nat) : Int) old) ∧ h.IsTupleIter it a i ∧ e ≠ it ∧ a ≠ it ∧ a ≠ e) where
  mem := List.mem_cons_self
  obj := by
    rintro i h ⟨⟨old, isE⟩, ⟨o, at_, _, da⟩, _⟩ b hb
    rcases List.mem_cons.mp hb with rfl | hb
    · exact ⟨_, isE, fun _ z => nomatch z⟩
    · rw [List.mem_singleton.mp hb]
      exact ⟨o, at_, fun _ z => by rw [da] at z; cases z⟩
  keep := by
    rintro i h h' ⟨⟨old, isE⟩, isI, rest⟩ kp
    exact ⟨⟨old, kp e (by simp) _ isE⟩, isI.at fun o q => kp it (by simp) o q, rest⟩
  item := by
    rintro X rfl rfl rfl calm i pins s σ H E I fpOk ⟨⟨old, isE⟩, isI, ne, na, nb⟩ ⟨xs, x, sq, hx⟩
    obtain ⟨its, rv, tp, _⟩ := I.tuple sq
    obtain ⟨u, hu, ru⟩ := rv.get hx
    have hu2 : its.toArray[i]? = some u := by simpa using hu
    have eLt : e < s.heap.objs.size := Heap.lt_size isE
    have iLt : it < s.heap.objs.size := by
      obtain ⟨_, q, _⟩ := isI
      exact Heap.lt_size q
    have D := Draws.tuple (prog := X.prog) (w := X.w) (A := X.A.in1) (by simp [I.ok.hd calm]) it a na its.toArray
    have lt : i < its.toArray.size := (Array.getElem?_eq_some_iff.mp hu2).1
    refine wpAny_pyNext_enum_itemD D isE ⟨isI, tp⟩ lt ne (by simp [ne, Ne.symm nb]) fun x2 h2 tk hx2 isE2 st2 tup2 size2 kept2 => ?_
    obtain rfl : u = x2 := Option.some.inj (hu2.symm.trans hx2)
    refine ⟨_, rfl, wpAny_letOwnedTupleGo_enum (s := { s with heap := h2, toks := tk + 1 }) isE2 fun h3 isE3 but => ?_⟩
    have tup3 : h3.get? s.heap.objs.size = some { cls := .type "tuple", data := .seq #[.int i tk, u] } := (but.2 _ (Nat.ne_of_gt eLt)).trans tup2
    have new : ObjOk X.prog X.w (upd H s.heap.objs.size (.tup [.int (i : Nat), x])) h3 s.heap.objs.size (.tup [.int (i : Nat), x]) :=
      ⟨by show 2 ≤ sizeLine; decide, [.int i tk, u], Paired.cons ⟨_, rfl⟩ (Paired.cons ru Paired.nil), ⟨_, tup3, rfl, _, rfl⟩⟩
    have I3 : Inv X pins σ (upd H s.heap.objs.size (.tup [.int (i : Nat), x])) { s with heap := h3, toks := tk + 1 } :=
      I.turnedNew (ch := [e, it]) (fun b ob hb q => (but.2 b (fun z => hb (by simp [z]))).trans (kept2 b ob (fun z => hb (by simp [z])) (fun z => hb (by simp [z])) q)) fpOk (Nat.le_refl _) new
    refine ⟨.ref s.heap.objs.size, _, I3, rfl, ⟨_, x, rfl, I.hok.fresh (Nat.le_refl _), rfl, fun ys hy => by rw [I.tuple_inj hy sq]; exact hx⟩, ⟨⟨u, ?_⟩, st2.1.at fun o q => (but.2 it (Ne.symm ne)).trans q, ne, na, nb⟩, fun b hb => ?_⟩
    · rw [show ((i + 1 : Nat) : Int) = (i : Int) + 1 by omega]
      exact isE3
    · have bLt : b < s.heap.objs.size := by
        rcases List.mem_cons.mp hb with rfl | hb
        · exact eLt
        · rw [List.mem_singleton.mp hb]
          exact iLt
      rw [upd_ne (Nat.ne_of_lt bLt)]
      exact (fpOk b hb).1
  done := by
    rintro X rfl rfl rfl calm i pins s σ H E I fpOk ⟨⟨old, isE⟩, isI, ne, na, nb⟩ ⟨xs, sq, le⟩
    obtain ⟨its, rv, tp, _⟩ := I.tuple sq
    have past : its.toArray[i]? = none := by
      have := rv.length
      simp
      omega
    have cold : X.A.in1.handled = none := by simp [I.ok.hd calm]
    have D : Draws X.prog X.w X.A.in1 it [it, a] i (fun _ _ => True) (fun j h => j = i ∧ h.IsTupleIter it a i ∧ h.IsTuple a its.toArray) :=
      ⟨fun _ _ st => let ⟨o, ho, _⟩ := st.2.1; ⟨o, ho⟩, fun _ _ _ st kp => ⟨st.1, st.2.1.at fun o q => kp it (by simp) o q, st.2.2.at fun o q => kp a (by simp) o q⟩,
        fun j _ _ _ lt st _ => absurd st.1 (Nat.ne_of_lt lt), fun t Q2 E2 st end_ => wpAny_nextOf_tuple_end cold st.2.1 st.2.2 past end_⟩
    obtain ⟨f0, f1, f2, f3, f4, f5⟩ := fpOk it (by simp)
    exact wpAny_pyNext_enum_endD D isE ⟨rfl, isI, tp⟩ fun h2 but => ⟨rfl, I.turned (t' := s.toks) (fun b o hb q => but b o hb q) f0 f1 f3 f4 f5⟩
  self := fun A i s Q E st q => by
    obtain ⟨⟨_, isE⟩, _⟩ := st
    exact wpAny_pyIter_enum isE q
section
variable {P : Program} {w : World} {A : Around} {E : Value → Shared → Prop} {s : Shared}
theorem meets_enumT (t : Addr) (items : Array Value) : Meets (Builtin.«enumerate.__new__» ⟨[.type "enumerate", .ref t], []⟩) (fun _ R s => s.heap.IsTuple t items ∧
    R (.ok (.ret (.ref (s.heap.push { cls := .type "tuple_iterator", data := .fields #[.ref t, .int 0 0] }).objs.size)))
      { s with heap := (s.heap.push { cls := .type "tuple_iterator", data := .fields #[.ref t, .int 0 0] }).push { cls := .type "enumerate", data := .fields #[.none, .bool false, .ref s.heap.objs.size, rawInt 0, .none, .none] } }) :=
  .of_wp fun prog w A R s h => by
    obtain ⟨hp, g, d, tk, os⟩ := s
    obtain ⟨tup, fin⟩ := h
    have sub := sub_enumerate
    have iter : ∀ {A2 : Around} {E2 : Value → Shared → Prop} {Q2 : Value → Shared → Prop}, Q2 (.ref hp.objs.size) ⟨hp.push { cls := .type "tuple_iterator", data := .fields #[.ref t, .int 0 0] }, g, d, tk, os⟩ → wpAny (model prog w) A2 (pyIter (.ref t)) Q2 E2 ⟨hp, g, d, tk, os⟩ :=
      fun q => (begins_tuple t items).iter prog w _ _ ⟨hp, g, d, tk, os⟩ _ tup q
    wp_walk using iter
    refine wpAny_stack_any fun st => wpAny_pure ?_
    split
    · rename_i c _ _ _ _ _
      cases (c == Value.type "enumerate")
      · wp_walk using iter
        exact ⟨_, rfl, fin⟩
      · wp_walk using iter
        exact ⟨_, rfl, fin⟩
    · wp_walk using iter
      exact ⟨_, rfl, fin⟩
theorem enumT_made {t : Addr} {items : Array Value} {Q : Value → Shared → Prop} (tup : s.heap.IsTuple t items)
    (out : ∀ h2, IsEnum h2 (s.heap.objs.size + 1) s.heap.objs.size 0 .none → h2.IsTupleIter s.heap.objs.size t 0 → h2.objs.size = s.heap.objs.size + 2 → (∀ b o, s.heap.get? b = some o → h2.get? b = some o) →
      Q (.ref (s.heap.objs.size + 1)) { s with heap := h2 }) : wpAny (model P w) A (call (.type "enumerate") [.ref t]) Q E s := by
  refine callType_new F.called_enumerate (by decide) (F.typeCall_enumerate_1 _) (F.newCall_enumerate_1 _) (fun obj => F.args_object_init_2 obj _) F.entry_enumerate_new (meets_enumT t items) ⟨tup, ?_⟩
  have size1 : (s.heap.push { cls := .type "tuple_iterator", data := .fields #[.ref t, .int 0 0] }).objs.size = s.heap.objs.size + 1 := Heap.size_push ..
  have isE := Heap.get?_push_size (s.heap.push { cls := .type "tuple_iterator", data := .fields #[.ref t, .int 0 0] }) (o := { cls := .type "enumerate", data := .fields #[.none, .bool false, .ref s.heap.objs.size, rawInt 0, .none, .none] }) rfl
  change _ ∧ _
  rw [size1] at isE ⊢
  exact ⟨⟨_, isE, rfl⟩, out _ isE ⟨_, Heap.get?_push_of_some _ (Heap.get?_push_size _ rfl), rfl, rfl⟩ (by rw [Heap.size_push, size1]) fun b o x => Heap.get?_push_of_some _ (Heap.get?_push_of_some _ x)⟩
end
/-- enumerate(xs), xs a list or a tuple -/
def iEnumA (K : PySem.W.Frag) (ta : TA) : TI := fun σ H R => ta σ H fun vs H1 => ∃ a xs, vs = [.ref a] ∧ ((SqL K H1 a xs ∧ R (Ite K a) H1) ∨ (SqT K H1 a xs ∧ R (ItEt K a) H1))
theorem pi_enumA {X : Cx} {e0 : Expr} {ta : TA} {p pos tpos : Pos} {elts : List Expr} {kk : Nat} (gl : Gl X "enumerate") (mg : X.mg "enumerate" = none) (pa : PA X [e0] ta) (st : starEach [e0] X.env = [(false, eval e0 X.env)] := by rfl) :
    PI X (.Tuple elts kk tpos) (.Call (.Name "enumerate" p) [e0] [] pos) (iEnumA X.K ta) := by
  refine ⟨fun pins s σ H R I wish => Call_ (ld_blt I gl mg boot_enumerate (PyProof.Rows.callWith_type1 (thn (pa.run pos pins s σ H _ I wish) ?_) st rfl))⟩
  rintro us s1 ⟨vs, H1, I1, rel, a, xs, rfl, ⟨sq, q⟩ | ⟨sq, q⟩⟩
  · rw [Vals.ref1 rel]
    obtain ⟨its, rv, pl, _⟩ := I1.list sq
    refine call_enumerate_list pl.isList fun h2 isE isI size2 kp => wpAny_pyIter_enum isE ?_
    refine ⟨s1.heap.objs.size + 1, [s1.heap.objs.size + 1, s1.heap.objs.size], _, _, H1, rfl, I1.kept (t' := s1.toks) kp, turn_enum a _ _, ⟨⟨.none, isE⟩, isI, Nat.succ_ne_self _⟩, fun b hb => ?_, q⟩
    have le : s1.heap.objs.size ≤ b := by
      rcases List.mem_cons.mp hb with rfl | hb
      · exact Nat.le_succ _
      · rw [List.mem_singleton.mp hb]
        exact Nat.le_refl _
    exact I1.fpOk le (I1.hok.fresh le)
  · rw [Vals.ref1 rel]
    obtain ⟨its, rv, tp, _⟩ := I1.tuple sq
    have below : a < s1.heap.objs.size := by
      obtain ⟨_, at_, _⟩ := tp
      exact Heap.lt_size at_
    refine enumT_made tp fun h2 isE isI size2 kp => wpAny_pyIter_enum isE ?_
    refine ⟨s1.heap.objs.size + 1, [s1.heap.objs.size + 1, s1.heap.objs.size], _, _, H1, rfl, I1.kept (t' := s1.toks) kp, turn_enumT a _ _, ⟨⟨.none, isE⟩, isI, Nat.succ_ne_self _, Nat.ne_of_lt below, Nat.ne_of_lt (Nat.lt_succ_of_lt below)⟩, fun b hb => ?_, q⟩
    have le : s1.heap.objs.size ≤ b := by
      rcases List.mem_cons.mp hb with rfl | hb
      · exact Nat.le_succ _
      · rw [List.mem_singleton.mp hb]
        exact Nat.le_refl _
    exact I1.fpOk le (I1.hok.fresh le)
end Lw

set_option Elab.async false
set_option linter.all false
set_option maxRecDepth 100000
set_option maxHeartbeats 2000000
namespace Lw
open PySem PySem.Spec PyProof.Rows L2 He
/-! ### try with several clauses, named and unnamed -/
abbrev Cl : Type := Value × Option Nat × (Addr → Value → Option Addr → TS)
def cEnds (D : Ends) : Option Nat → Ends
  | none => D
  | some i => ⟨fun σ H => D.nx (σ.set i none) H, D.rt, fun σ H => D.bk (σ.set i none) H, fun σ H => D.ct (σ.set i none) H⟩
def cSt (σ : L2.St) (a : Addr) : Option Nat → L2.St
  | none => σ
  | some i => σ.set i (some (.ref a))
def wMix (K : PySem.W.Frag) (Wout : WX) (D : Ends) : List Cl → WX
  | [] => Wout
  | (c, n, ts) :: r => fun cls d σ H => ∃ hit, PySem.W.exmOne K cls c = some hit ∧ (hit = true → ∀ a, H a = none → ts a cls d (cEnds D n) (cSt σ a n) H) ∧ (hit = false → wMix K Wout D r cls d σ H)
/-- a clause's suite is walked -/
def SuOk (X : Cx) (ss : List Stmt) (ts : Addr → Value → Option Addr → TS) : Prop :=
  ∀ (a : Addr) (oe : Obj) (cls : Value) (d : Option Addr) (pn : List (Addr × Obj)), L2N.Zn cls d oe → (∃ vs, oe.data = .fields vs) → PSs (X.suite a ((a, oe) :: pn)) ss (ts a cls d)
inductive Mix (X : Cx) : List ExceptHandler → List Cl → Prop
  | nil : Mix X [] []
  | no {x : Str} {c : Value} {ts : Addr → Value → Option Addr → TS} {s0 : Stmt} {sr : List Stmt} {p1 p2 : Pos} {hs : List ExceptHandler} {l : List Cl} (nm : Names X x c) (su : SuOk X (s0 :: sr) ts) (r : Mix X hs l) :
      Mix X (.ExceptHandler (some (.Name x p1)) none (s0 :: sr) p2 :: hs) ((c, none, ts) :: l)
  | as {x n : Str} {i : Nat} {c : Value} {ts : Addr → Value → Option Addr → TS} {s0 : Stmt} {sr : List Stmt} {p1 p2 : Pos} {hs : List ExceptHandler} {l : List Cl} (at_ : X.N[i]? = some n) (own : X.env.kindOf n = some .local) (nm : Names X x c)
      (su : SuOk X (s0 :: sr) ts) (r : Mix X hs l) : Mix X (.ExceptHandler (some (.Name x p1)) (some n) (s0 :: sr) p2 :: hs) ((c, some i, ts) :: l)
section
variable {X : Cx} {pins : List (Addr × Obj)} {σ : L2.St} {H : Hp} {a : Addr} {cls : Value} {d : Option Addr} {t : Shared}
/-- the exception at a has been caught, the state is t -/
structure Caught (X : Cx) (pins : List (Addr × Obj)) (σ : L2.St) (H : Hp) (a : Addr) (cls : Value) (d : Option Addr) (t : Shared) : Prop where
  ok : X.Ok
  na : H a = none
  see : ∃ oe, t.heap.get? a = some oe ∧ oe.cls = cls ∧ Inv (X.suite a ((a, oe) :: (X.pn ++ pins))) [] σ H t
  enter : ∀ {Q E : Shared → Prop}, (∀ oe t', L2N.Zn cls d oe → (∃ vs, oe.data = .fields vs) → Inv (X.suite a ((a, oe) :: (X.pn ++ pins))) [] σ H t' → Q t') →
    ∀ {F : Value → Shared → Prop}, wpAny (model X.prog X.w) (X.A.mark (some (.ref a))) (setFlight (.ref a) none) (fun _ t' => Q t') F t
  leave : ∀ {W : WX} {D : Ends}, L2N.Takes X W → W cls d σ H → wpAny (model X.prog X.w) X.A (handleBy (.ref a) X.env []) (SP X pins D) X.xe t
/-- how a suite ends, seen from behind it -/
theorem suite_end {D : Ends} {oe : Obj} {f : Flow} {t' : Shared} (ok : X.Ok) (h : SP (X.suite a ((a, oe) :: (X.pn ++ pins))) [] D f t') : SP X pins D f t' := by
  cases f with
  | next => exact h.imp fun _ h => h.imp fun _ h => ⟨h.1.unsuite ok, h.2⟩
  | brk => exact h.imp fun _ h => h.imp fun _ h => ⟨h.1.unsuite ok, h.2⟩
  | cont => exact h.imp fun _ h => h.imp fun _ h => ⟨h.1.unsuite ok, h.2⟩
  | ret u => exact h.imp fun _ h => h.imp fun _ h => h.imp fun _ h => ⟨h.1.unsuite ok, h.2⟩
theorem suite_gone {D : Ends} {oe : Obj} {f : Flow} {t' : Shared} {i : Nat} {n : Str} {p : Pos} {F : Value → Shared → Prop} (ok : X.Ok) (nd : X.N.Nodup) (at_ : X.N[i]? = some n) (own : X.env.kindOf n = some .local)
    (h : SP (X.suite a ((a, oe) :: (X.pn ++ pins))) [] (cEnds D (some i)) f t') :
    wpAny (model X.prog X.w) X.A (do bindName X.env n .none; unbindBehindTheSuite X.env n p) (fun _ t3 => SP X pins D f t3) F t' := by
  cases f with
  | next =>
    obtain ⟨σ2, H2, J, q⟩ := h
    exact gone_ok (J.unsuite ok) nd at_ own fun _ J3 => ⟨_, _, J3, q⟩
  | brk =>
    obtain ⟨σ2, H2, J, q⟩ := h
    exact gone_ok (J.unsuite ok) nd at_ own fun _ J3 => ⟨_, _, J3, q⟩
  | cont =>
    obtain ⟨σ2, H2, J, q⟩ := h
    exact gone_ok (J.unsuite ok) nd at_ own fun _ J3 => ⟨_, _, J3, q⟩
  | ret u =>
    obtain ⟨v, σ2, H2, J, rv, q⟩ := h
    exact gone_ok (J.unsuite ok) nd at_ own fun _ J3 => ⟨_, _, _, J3, rv, q⟩
/-- a clause's test -/
theorem clause_test (C : Caught X pins σ H a cls d t) {x : Str} {c : Value} {p : Pos} {hit : Bool} (nm : Names X x c) (m : PySem.W.exmOne X.K cls c = some hit) {Q : Bool → Shared → Prop} {F G : Value → Shared → Prop} (q : Q hit t) :
    wpAny (model X.prog X.w) (X.A.mark (some (.ref a))) (eval (.Name x p) X.env) (fun c' t1 => wpAny (model X.prog X.w) (X.A.mark (some (.ref a))) (excMatches (.ref a) c') Q F t1) G t := by
  obtain ⟨oe, at_, rfl, S⟩ := C.see
  have look : PySem.W.Looks (model X.prog X.w) t.heap (typeOf (.ref a)) oe.cls := fun _ _ _ _ kp w => wpAny_typeOf_ref (kp _ _ at_) w
  have hit_ := PySem.W.exm_one (M := model X.prog X.w) S.kIn look m
  obtain ⟨gl, nodbg, bound | ⟨unbound, blt, notname⟩⟩ := nm
  · exact ld_glob (X := X.suite a ((a, oe) :: (X.pn ++ pins))) S gl bound (hit_.here q) nodbg
  · exact ld_blt (X := X.suite a ((a, oe) :: (X.pn ++ pins))) S gl unbound blt (hit_.here q) notname nodbg
theorem clauses (nd : X.N.Nodup) {Wout : WX} {D : Ends} (tk : L2N.Takes X Wout) (C : Caught X pins σ H a cls d t) : ∀ {hs : List ExceptHandler} {l : List Cl}, Mix X hs l → wMix X.K Wout D l cls d σ H →
    wpAny (model X.prog X.w) X.A (handleBy (.ref a) X.env hs) (SP X pins D) X.xe t := by
  intro hs l M
  induction M with
  | nil => exact fun w => C.leave tk w
  | no nm su r ih =>
    rintro ⟨hit, m, yes, no⟩
    refine wpAny_handleBy_cons (codeAny_handlers_test (clause_test C nm m ?_)) fun z => nomatch z
    cases hit with
    | false => exact ih (no rfl)
    | true =>
      refine codeAny_handlers_suite (C.enter (E := fun _ => True) fun oe t' hz hf S => ?_)
      exact wpAny_mono ((su a oe cls d (X.pn ++ pins) hz hf).run [] _ _ _ _ S (yes rfl a C.na)) (fun f t2 e => suite_end C.ok e) fun _ _ no => False.elim no
  | @as x n i c ts s0 sr p1 p2 hs l at_ own nm su r ih =>
    rintro ⟨hit, m, yes, no⟩
    refine wpAny_handleBy_cons (codeAny_handlers_test (clause_test C nm m ?_)) fun z => nomatch z
    cases hit with
    | false => exact ih (no rfl)
    | true =>
      refine codeAny_handlers_suite_as (C.enter (E := fun _ => True) fun oe t' hz hf S => ?_)
      refine store_ok (X := X.suite a ((a, oe) :: (X.pn ++ pins))) (v := V.ref a) S nd at_ (Or.inl own) (show RelV (V.ref a) (Value.ref a) from rfl) (fun t2 S2 => ?_) (Or.inr own)
      exact wpAny_mono ((su a oe cls d (X.pn ++ pins) hz hf).run [] _ _ _ _ S2 (yes rfl a C.na)) (fun f t3 e => suite_gone C.ok nd at_ own e) fun _ _ no => False.elim no
/-- from the air to the ground -/
theorem caught_of (stk : X.stack = X.env :: X.outer) (frm : X.env.frame = some X.env.locals) {B : Heap} {sI s' : Shared} {h3 : Heap} (J : Inv X pins σ H sI)
    (nb : ∀ b o, sI.heap.get? b = some o → b ∉ frs X.stack → B.get? b = some o) (na : H a = none) (os : s'.os = sI.os) (ag : AllBare s'.gens) (fl : HandSPX.FlyingZ B (X.env :: X.outer) a (L2N.Zn cls d) h3) (up : sI.heap.UpToSlots h3) :
    Caught X pins σ H a cls d { s' with heap := h3 } := by
  obtain ⟨oe, vs, at3, z3, d3⟩ := fl.there
  have apart : a ∉ frs (X.env :: X.outer) := fun hm => by
    obtain ⟨_, o2, at2, nf⟩ := fl.2.2.1.mem hm
    rw [at3] at at2
    obtain rfl := Option.some.inj at2
    exact nf _ d3
  have nL : a ≠ X.env.locals := fun e => apart (List.mem_filterMap.mpr ⟨X.env, List.mem_cons_self, by rw [frm, e]⟩)
  have nF : a ∉ X.fs := fun hm => by
    obtain ⟨e, he, q⟩ := List.mem_filterMap.mp hm
    exact apart (List.mem_filterMap.mpr ⟨e, List.mem_cons_of_mem _ he, q⟩)
  refine ⟨J.ok, na, ⟨oe, at3, z3.1, (J.landed (s' := { s' with heap := h3 }) nb fl.1 up os ag).suite at3 d3 na nL nF⟩, fun {Q E} q {F} => ?_, fun {W D} tk w => ?_⟩
  · refine HandSPX.lands_againZ (s := { s' with heap := h3 }) fl fun h4 fl4 up4 => ?_
    obtain ⟨oe4, vs4, at4, z4, d4⟩ := fl4.there
    exact q oe4 _ z4 ⟨_, d4⟩ ((J.landed (s' := { s' with heap := h4 }) nb fl4.1 (up.trans up4) os ag).suite at4 d4 na nL nF)
  · apply wpAny_handleBy_nil
    obtain ⟨_, _, _, o5, v5, T, oT, _, at5, _, d5, tb, _⟩ := id fl
    unfold PySem.passOn
    refine wpAny_bind (wpAny_field at5 d5 tb ?_)
    rw [if_neg (show ¬ ((Value.ref T == Value.none) = true) by simp)]
    have out : wpAny (model X.prog X.w) X.A (setFlight (.ref a) X.env.frame) (fun _ t4 => wpAny (model X.prog X.w) X.A (throw (.ref a) : Sem Flow) (SP X pins D) X.xe t4) X.xe { s' with heap := h3 } := by
      rw [frm]
      refine HandSPX.setFlight_upZ (s := { s' with heap := h3 }) fl fun h4 held up4 => wpAny_throw (tk _ _ ?_)
      exact ⟨a, B, sI, pins, σ, H, cls, d, rfl, J, nb, up.trans up4, Or.inr (Or.inr (by rw [stk]; exact held)), na, os, ag, w⟩
    first
    | exact wpAny_bind (wpAny_pure (wpAny_bind out))
    | exact wpAny_bind out
end
def tTryMix (K : PySem.W.Frag) (l : List Cl) (Wout : WX) (tb : WX → TS) : TS := fun D σ H => tb (wMix K Wout D l) D σ H
theorem rd_tryMix {K : PySem.W.Frag} {σ : L2.St} {H : Hp} {D : Ends} {l : List Cl} {Wout : WX} {tb : WX → TS} (h : tb (wMix K Wout D l) D σ H) : tTryMix K l Wout tb D σ H := h
theorem ps_tryMix {X : Cx} {K : PySem.W.Frag} {body : List Stmt} {h0 : ExceptHandler} {hr : List ExceptHandler} {l : List Cl} {p : Pos} {tb : WX → TS} {Wout : WX} (eK : X.K = K) (stk : X.stack = X.env :: X.outer) (frm : X.env.frame = some X.env.locals) (nd : X.N.Nodup)
    (tk : L2N.Takes X Wout) (hb : ∀ (W : WX) (pn : List (Addr × Obj)) (xe : Value → Shared → Prop), L2N.Takes (X.tr pn xe) W → PassesOwn (model X.prog X.w) X.A X.env xe → PSs (X.tr pn xe) body (tb W)) (M : Mix X (h0 :: hr) l) :
    PS X (.Try body (h0 :: hr) [] [] p) (tTryMix K l Wout tb) := by
  subst eK
  refine ⟨fun pins s σ H D I w => wpAny_Try_except ?_⟩
  have fr : X.A.frames = some (X.env :: X.outer) := by rw [I.ok.frames, stk]
  have walked := (hb (wMix X.K Wout D l) (X.pn ++ pins) (fun u t => wpAny (model X.prog X.w) X.A (noteFrame u X.env) (fun _ t1 => wpAny (model X.prog X.w) X.A (setFlight u none) (fun _ t2 =>
    wpAny (model X.prog X.w) X.A (handleBy u X.env (h0 :: hr)) (SP X pins D) X.xe t2) X.xe t1) X.xe t) ?_ PassesOwn.looking).run [] s σ H D (I.toTry _) w
  · refine wpAny_mono walked (fun f t e => ?_) fun _ _ e => e
    cases f with
    | next => exact wpAny_execs_nil (e.imp fun _ e => e.imp fun _ e => ⟨e.1.ofTry I.ok, e.2⟩)
    | brk => exact e.imp fun _ e => e.imp fun _ e => ⟨e.1.ofTry I.ok, e.2⟩
    | cont => exact e.imp fun _ e => e.imp fun _ e => ⟨e.1.ofTry I.ok, e.2⟩
    | ret u => exact e.imp fun _ e => e.imp fun _ e => e.imp fun _ e => ⟨e.1.ofTry I.ok, e.2⟩
  · rintro u t ⟨a, B, sI, pn2, σ2, H2, cls, d, rfl, J2, nb, up, sky, na, os, ag, wish⟩
    have land : Sky B (X.env :: X.outer) a (L2N.Zn cls d) X.env.locals t.heap := by
      rw [← stk]
      exact sky
    change wpAny (model X.prog X.w) X.A (noteFrame (.ref a) X.env) _ _ _
    exact L2N.Sky.land L2N.Zn.steady fr frm land fun h3 fl up3 => clauses nd tk (caught_of stk frm (J2.ofTry I.ok) nb na os ag fl (up.trans up3)) M wish
end Lw

set_option Elab.async false
set_option linter.all false
set_option maxRecDepth 100000
set_option maxHeartbeats 2000000
namespace Lw
open PySem PySem.Spec PyProof.Rows L2 He Evl StX
section
variable {X : Cx} {K : PySem.W.Frag} {w : World}
theorem kpi_enumA {e0 : Expr} {ta : TA} {p pos tpos : Pos} {elts : List Expr} {kk : Nat} (h : X.K = K) (gl : Gl X "enumerate") (mg : X.mg "enumerate" = none) (pa : PA X [e0] ta) (st : starEach [e0] X.env = [(false, eval e0 X.env)] := by rfl) :
    PI X (.Tuple elts kk tpos) (.Call (.Name "enumerate" p) [e0] [] pos) (iEnumA K ta) := h ▸ pi_enumA gl mg pa st
theorem kc_setI (h : X.K = K) (hw : X.w = w) (hc : X.calm = true) : CallR X (.type "set") (rSetI K w) := h ▸ hw ▸ cr_setInts hc
theorem kc_sortedSet (hw : X.w = w) (hc : X.calm = true) : CallR X (.builtin "sorted") (rSortedSet w) := hw ▸ cr_sortedSet hc
/-- isinstance(x, (A, B)) -/
def rIsT2 (K : PySem.W.Frag) : List V → Hp → VK → Prop := fun xs H Q => ∃ (x : V) (tp : Addr) (A B n : String), xs = [x, .ref tp] ∧ H tp = some (.tup [.ty A, .ty B]) ∧ Th K H x n ∧ A ∈ kinds ∧ B ∈ kinds ∧ Q (.bl (isTab n A || isTab n B)) H
theorem call_isT2 : CallR X (.builtin "isinstance") (rIsT2 X.K) := by
  intro pins s σ H xs us Q I r h
  obtain ⟨x, tp, A, B, n, rfl, hT, th, hA, hB, q⟩ := h
  refine call_isiT pins s σ H _ us Q I r ⟨x, tp, _, _, [.type A, .type B], _, rfl, hT, Paired.cons (.ty A) (Paired.cons (.ty B) Paired.nil), th.t, ?_, q⟩
  refine kitAny_cons (kit_ty (isTab_ok n th.k A hA)) (fun e => ?_) fun e => by rw [e, Bool.true_or]
  rw [e, Bool.false_or]
  refine kitAny_cons (kit_ty (isTab_ok n th.k B hB)) (fun e2 => by rw [e2]; exact kitAny_nil) fun e2 => e2
theorem kc_isT2 (h : X.K = K) : CallR X (.builtin "isinstance") (rIsT2 K) := h ▸ call_isT2
end
theorem rd_iEnumA {K : PySem.W.Frag} {σ : L2.St} {H : Hp} {ta : TA} {R : It → Hp → Prop} (h : ta σ H fun vs H1 => ∃ a xs, vs = [.ref a] ∧ ((SqL K H1 a xs ∧ R (Ite K a) H1) ∨ (SqT K H1 a xs ∧ R (ItEt K a) H1))) : iEnumA K ta σ H R := h
theorem rd_tupRg {σ : L2.St} {H : Hp} {Q : VK} {te : L2.St → Hp → (Int → Int → Hp → Prop) → Prop} (h : te σ H fun a b H1 => RgOk a b ∧ ∀ q, H1 q = none → Q (.ref q) (upd H1 q (.tup (rgV a b)))) : tTupRg te σ H Q := h
theorem rgV_nat (n : Nat) : rgV 0 (n : Int) = ((List.range n).map fun (k : Nat) => (k : Int)).map V.int := by
  unfold rgV
  rw [List.map_map, show ((n : Int) - 0).toNat = n by omega]
  exact List.map_congr_left fun k _ => by rw [Int.zero_add]; rfl
/-! ### strictly sorted, without repeats -/
def insU (x : Int) : List Int → List Int
  | [] => [x]
  | y :: r => if x < y then x :: y :: r else if x = y then y :: r else y :: insU x r
def uniq : List Int → List Int
  | [] => []
  | x :: r => insU x (uniq r)
theorem insU_mem (x z : Int) : ∀ l, z ∈ insU x l ↔ z = x ∨ z ∈ l
  | [] => by simp [insU]
  | y :: r => by
    unfold insU
    split
    · simp
    · split
      · rename_i e
        subst e
        simp
      · rw [List.mem_cons, insU_mem x z r, List.mem_cons]
        constructor
        · rintro (h | h | h) <;> simp [h]
        · rintro (h | h | h) <;> simp [h]
theorem insU_sorted (x : Int) : ∀ l, l.Pairwise (· < ·) → (insU x l).Pairwise (· < ·)
  | [], _ => .cons (fun _ h => nomatch h) .nil
  | y :: r, h => by
    unfold insU
    cases h with
    | cons h1 h2 =>
      split
      · rename_i lt
        refine .cons (fun z hz => ?_) (.cons h1 h2)
        rcases List.mem_cons.mp hz with rfl | hz
        · exact lt
        · exact Int.lt_trans lt (h1 z hz)
      · split
        · exact .cons h1 h2
        · refine .cons (fun z hz => ?_) (insU_sorted x r h2)
          rcases (insU_mem x z r).mp hz with rfl | hz
          · omega
          · exact h1 z hz
theorem uniq_mem (z : Int) : ∀ l, z ∈ uniq l ↔ z ∈ l
  | [] => Iff.rfl
  | x :: r => by
    show z ∈ insU x (uniq r) ↔ _
    rw [insU_mem, uniq_mem z r, List.mem_cons]
theorem uniq_sorted : ∀ l, (uniq l).Pairwise (· < ·)
  | [] => .nil
  | x :: r => insU_sorted x _ (uniq_sorted r)
theorem strict_eq : ∀ {a b : List Int}, a.Pairwise (· < ·) → b.Pairwise (· < ·) → (∀ z, z ∈ a ↔ z ∈ b) → a = b
  | [], [], _, _, _ => rfl
  | [], y :: b, _, _, h => absurd ((h y).mpr List.mem_cons_self) (by simp)
  | x :: a, [], _, _, h => absurd ((h x).mp List.mem_cons_self) (by simp)
  | x :: a, y :: b, ha, hb, h => by
    cases ha with
    | cons ha1 ha2 => cases hb with
      | cons hb1 hb2 =>
        have e : x = y := by
          have h1 := (h x).mp List.mem_cons_self
          have h2 := (h y).mpr List.mem_cons_self
          rcases List.mem_cons.mp h1 with z | z
          · exact z
          · rcases List.mem_cons.mp h2 with z2 | z2
            · exact z2.symm
            · have := hb1 x z
              have := ha1 y z2
              omega
        subst e
        refine congrArg (x :: ·) (strict_eq ha2 hb2 fun z => ⟨fun hz => ?_, fun hz => ?_⟩)
        · rcases List.mem_cons.mp ((h z).mp (List.mem_cons_of_mem _ hz)) with e2 | h2
          · exact absurd (ha1 z hz) (by omega)
          · exact h2
        · rcases List.mem_cons.mp ((h z).mpr (List.mem_cons_of_mem _ hz)) with e2 | h2
          · exact absurd (hb1 z hz) (by omega)
          · exact h2
theorem uniq_len : ∀ l, (uniq l).length ≤ l.length
  | [] => Nat.le_refl _
  | x :: r => by
    have ins : ∀ l, (insU x l).length ≤ l.length + 1 := by
      intro l
      induction l with
      | nil => exact Nat.le_refl _
      | cons y t ih =>
        unfold insU
        split
        · exact Nat.le_refl _
        · split
          · exact Nat.le_succ _
          · simp only [List.length_cons]
            omega
    exact Nat.le_trans (ins _) (Nat.succ_le_succ (uniq_len r))
/-- sorted(set(ns)) -/
theorem rd_sortedSet {w : World} {H : Hp} {Q : VK} {a : Addr} {ns : List Int} {c : Nat} (h : H a = some (SetO w a (fun j => decide (j ∈ ns)) c)) (few : c < 64) (q : ∀ p, H p = none → Q (.ref p) (upd H p (.lst ((uniq ns).map V.int)))) : rSortedSet w [.ref a] H Q :=
  ⟨a, _, c, rfl, h, few, fun ms p srt mem _ free => by
    rw [strict_eq srt (uniq_sorted ns) fun z => (mem z).trans ((decide_eq_true_iff).trans (uniq_mem z ns).symm)]
    exact q p free⟩
/-! ### rows of things -/
def Odd (K : PySem.W.Frag) (H : Hp) (x : V) : Prop := ∀ H', Ex H H' → Thg K H' x
theorem Odd.ex {K : PySem.W.Frag} {H H' : Hp} {x : V} (h : Odd K H x) (e : Ex H H') : Odd K H' x := fun H2 e2 => h H2 (e.trans e2)
/-- y is a list or a tuple of the things xs, or no such thing (none) -/
def RowV (K : PySem.W.Frag) (H : Hp) (y : V) : Option (List V) → Prop
  | none => ∃ n, (∀ H', Ex H H' → Th K H' y n) ∧ isTab n "list" = false ∧ isTab n "tuple" = false
  | some xs => ∃ a, y = .ref a ∧ (H a = some (.lst xs) ∨ H a = some (.tup xs)) ∧ xs.length ≤ 1000 ∧ ∀ x ∈ xs, Odd K H x
def firstOff (hi : Int) (xs : List V) : Option Nat := xs.findIdx? fun x => !wholeV 0 hi x
def badOf (hi : Int) : Option (List V) → Option Nat
  | none => some 0
  | some xs => firstOff hi xs
theorem RowV.ex {K : PySem.W.Frag} {H H' : Hp} {y : V} {r : Option (List V)} (h : RowV K H y r) (e : Ex H H') : RowV K H' y r := by
  cases r with
  | none =>
    obtain ⟨n, th, rest⟩ := h
    exact ⟨n, fun H2 e2 => th H2 (e.trans e2), rest⟩
  | some xs =>
    obtain ⟨a, rfl, at_, len, od⟩ := h
    exact ⟨a, rfl, at_.imp (e _ _) (e _ _), len, fun x hx => (od x hx).ex e⟩
theorem odd_int {K : PySem.W.Frag} {H : Hp} (i : Int) : Odd K H (.int i) := fun _ _ => ⟨_, th_int i⟩
theorem off_ints {hi : Int} {ns : List Int} (h : firstOff hi (ns.map V.int) = none) : ∀ z ∈ ns, 0 ≤ z ∧ z ≤ hi := fun z hz => by
  unfold firstOff at h
  rw [List.findIdx?_eq_none_iff] at h
  have := h (.int z) (List.mem_map.mpr ⟨z, hz, rfl⟩)
  have w : wholeV 0 hi (.int z) = true := by simpa using this
  have w2 : (decide ((0 : Int) ≤ z) && decide (z ≤ hi)) = true := w
  simp only [Bool.and_eq_true, decide_eq_true_eq] at w2
  exact w2
theorem ints_off {hi : Int} {xs : List V} (h : firstOff hi xs = none) : ∃ ns : List Int, xs = ns.map V.int ∧ ∀ z ∈ ns, 0 ≤ z ∧ z ≤ hi := by
  unfold firstOff at h
  rw [List.findIdx?_eq_none_iff] at h
  have all : ∀ x ∈ xs, ∃ z, x = V.int z := fun x hx => by
    have w : wholeV 0 hi x = true := by simpa using h x hx
    cases x with
    | int z => exact ⟨z, rfl⟩
    | _ => cases w
  have mk : ∀ l : List V, (∀ x ∈ l, ∃ z, x = V.int z) → ∃ ns : List Int, l = ns.map V.int := by
    intro l
    induction l with
    | nil => exact fun _ => ⟨[], rfl⟩
    | cons x t ih =>
      intro hl
      obtain ⟨z, rfl⟩ := hl x List.mem_cons_self
      obtain ⟨ns, rfl⟩ := ih fun y hy => hl y (List.mem_cons_of_mem _ hy)
      exact ⟨z :: ns, rfl⟩
  obtain ⟨ns, rfl⟩ := mk xs all
  exact ⟨ns, rfl, off_ints (by unfold firstOff; rw [List.findIdx?_eq_none_iff]; exact h)⟩
end Lw

set_option Elab.async false
set_option linter.all false
set_option maxRecDepth 100000
set_option maxHeartbeats 2000000
namespace Lw
open PySem PySem.Spec PyProof.Rows L2 He Evl StX
/-! ### data: rows of ints, compared -/
theorem dp_ints {K : PySem.W.Frag} {H : Hp} : ∀ ns : List Int, DpAll K H (ns.map V.int) (ns.map PyData.int)
  | [] => .nil
  | n :: r => .cons (.int n) (dp_ints r)
theorem lay_ints : ∀ ns : List Int, PyData.canLayAll0 (ns.map PyData.int) = true
  | [] => by simp only [List.map_nil, PyData.canLayAll0]
  | n :: r => by simp only [List.map_cons, PyData.canLayAll0, PyData.canLay0, lay_ints r, Bool.and_self]
theorem depth_ints : ∀ ns : List Int, PyData.depthAll (ns.map PyData.int) = 0
  | [] => by simp only [List.map_nil, PyData.depthAll]
  | n :: r => by simp only [List.map_cons, PyData.depthAll, PyData.depth, depth_ints r, Nat.max_self]
theorem shaped_lst (ns : List Int) : SeqAt.shaped (.list (ns.map PyData.int)) = true := by
  unfold SeqAt.shaped
  simp only [PyData.canLay0, PyData.depth, lay_ints, depth_ints]
  decide
theorem shaped_tup (ns : List Int) : SeqAt.shaped (.tuple (ns.map PyData.int)) = true := by
  unfold SeqAt.shaped
  simp only [PyData.canLay0, PyData.depth, lay_ints, depth_ints]
  decide
theorem eqv_ints : ∀ a b : List Int, PyData.eqvAll (a.map PyData.int) (b.map PyData.int) = decide (a = b)
  | [], [] => by simp [PyData.eqvAll]
  | [], y :: b => by simp [PyData.eqvAll]
  | x :: a, [] => by simp [PyData.eqvAll]
  | x :: a, y :: b => by
    simp only [List.map_cons, PyData.eqvAll, PyData.eqv, eqv_ints a b]
    by_cases e : x = y
    · subst e
      by_cases e2 : a = b
      · simp [e2]
      · simp [e2]
    · simp [e]
theorem rd_eqL {K : PySem.W.Frag} {H : Hp} {Q : VK} {p q : Addr} {a b : List Int} (h1 : SqL K H p (a.map V.int)) (h2 : SqL K H q (b.map V.int)) (k : Q (.bl (decide (a = b))) H) : rEqD K (.ref p) (.ref q) H Q :=
  ⟨_, _, .lst h1 (dp_ints a), .lst h2 (dp_ints b), shaped_lst a, shaped_lst b, by simp only [PyData.eqv]; rw [eqv_ints]; exact k⟩
theorem rd_neL {K : PySem.W.Frag} {H : Hp} {Q : VK} {p q : Addr} {a b : List Int} (h1 : SqL K H p (a.map V.int)) (h2 : SqL K H q (b.map V.int)) (k : Q (.bl (!decide (a = b))) H) : rNeD K (.ref p) (.ref q) H Q :=
  ⟨_, _, .lst h1 (dp_ints a), .lst h2 (dp_ints b), shaped_lst a, shaped_lst b, by simp only [PyData.eqv]; rw [eqv_ints]; exact k⟩
theorem rd_neT {K : PySem.W.Frag} {H : Hp} {Q : VK} {p q : Addr} {a b : List Int} (h1 : SqT K H p (a.map V.int)) (h2 : SqT K H q (b.map V.int)) (k : Q (.bl (!decide (a = b))) H) : rNeD K (.ref p) (.ref q) H Q :=
  ⟨_, _, .tup h1 (dp_ints a), .tup h2 (dp_ints b), shaped_tup a, shaped_tup b, by simp only [PyData.eqv]; rw [eqv_ints]; exact k⟩
theorem rd_eqT {K : PySem.W.Frag} {H : Hp} {Q : VK} {p q : Addr} {a b : List Int} (h1 : SqT K H p (a.map V.int)) (h2 : SqT K H q (b.map V.int)) (k : Q (.bl (decide (a = b))) H) : rEqD K (.ref p) (.ref q) H Q :=
  ⟨_, _, .tup h1 (dp_ints a), .tup h2 (dp_ints b), shaped_tup a, shaped_tup b, by simp only [PyData.eqv]; rw [eqv_ints]; exact k⟩
theorem rd_sl {σ : L2.St} {H : Hp} {Q : VK} {r : V → Option Int → Option Int → Hp → VK → Prop} {te : TE} {tl th : TO} (h : te σ H fun x H1 => tl σ H1 fun l H2 => th σ H2 fun u H3 => r x l u H3 Q) : tSl r te tl th σ H Q := h
theorem rd_noPart {σ : L2.St} {H : Hp} {Q : Option Int → Hp → Prop} (h : Q none H) : tNoPart σ H Q := h
theorem rd_part {σ : L2.St} {H : Hp} {te : TE} {Q : Option Int → Hp → Prop} (h : te σ H fun x H1 => ∃ i, x = .int i ∧ Q (some i) H1) : tPart te σ H Q := h
theorem rd_oint {i : Int} {P : Int → Prop} (h : P i) : ∃ j, V.int i = .int j ∧ P j := ⟨i, rfl, h⟩
theorem cut_take {xs : List V} {k : Nat} (h : k ≤ xs.length) : cutV xs none (some (k : Int)) = xs.take k := by
  unfold cutV
  rw [HT.sIx_nat, HT.sIx_none, List.drop_zero, Nat.min_eq_left h, Nat.sub_zero]
theorem cut_drop {xs : List V} {k : Nat} (h : k ≤ xs.length) : cutV xs (some (k : Int)) none = xs.drop k := by
  unfold cutV
  rw [HT.sIx_nat, HT.sIx_none, Nat.min_eq_left h]
  exact List.take_of_length_le (by rw [List.length_drop]; exact Nat.le_refl _)
end Lw

set_option Elab.async false
set_option linter.all false
set_option maxRecDepth 100000
set_option maxHeartbeats 2000000
namespace Lw
open PySem PySem.Spec PyProof.Rows L2 He Evl StX
/-! ### exceptions as values: made, held, asked -/
section
variable {X : Cx} {x : Str} {p pos : Pos}
/-- C() as a value, C an error class of the text without own __init__ -/
theorem pe_exv0 (T : Ex0 X.K X.mg x) (hg : Gl X x := by rfl) (hdb : (x == ("__debug__" : Str)) = false := by decide) :
    PE X (.Call (.Name x p) [] [] pos) (fun _ H Q => ∀ a, H a = none → Q (.ref a) (upd H a (ExO (.ref (ga X.K x)) a))) := by
  obtain ⟨q, h⟩ := ba T.e
  obtain ⟨kC, h⟩ := ba h
  refine ⟨fun pins s σ H Q I h => ?_⟩
  refine wpAny_Call_Name_kw (ld_glob I hg T.g ?_ hdb)
  refine PySem.W.callWith_K0 I.kIn kC ?_
  show wpAny _ _ (call (.ref (ga X.K x)) []) _ _ _
  obtain ⟨bm, N, nm, qn, bs, hdct, sn, sub, ab, col, dd, k0, k1, k2, k3, k5, mN, hC, hN, hni, T⟩ := exc_obj I.kIn q
  refine wpAny_call_exc_subT F.excBase_ValueError T hC hN hni (fun h' a hm => ?_) (Nat.zero_le _)
  have hn : H a = none := I.hok.gone hm.new
  obtain ⟨t, ht, _, _⟩ := hm.there
  exact ⟨.ref a, upd H a (ExO (.ref (ga X.K x)) a), I.laidN hm.keeps hm.new hn (exO_ok ht ⟨rfl, rfl⟩ rfl rfl rfl (show 4 < 6 by decide)), rfl, h a hn⟩
end
/-- C(e, ..) as a value, C's own __init__ keeping sp -/
def tMkV (C : Addr) (sp : Sp) (ta : TA) : TE := fun σ H Q => ta σ H fun vs H1 => vs.length ≤ 1000 ∧ ∀ a, H1 a = none → sp (.ref a :: vs) (upd H1 a (exo a C none)) (fun v H2 => v = .non ∧ Q (.ref a) H2) (fun _ _ _ => False)
theorem pe_exvI {X : Cx} {Γ : CXT} {x : Str} {e0 : Expr} {er : List Expr} {ta : TA} {p pos : Pos} {C fI : Addr} {k : Nat} {fd : FuncData} {ps : List Str} {sp : Sp} (T : OexC X.K C) (hI : PySem.W.findIn X.K (.ref C) "__init__" = some (some (.ref fI)))
    (hT : PySem.W.typeIn X.K (.ref fI) = some (.type "function")) (G : FnOk X.prog X.w X.K X.mg X.base Γ k fI fd ps sp) (rm : Room (k + 1) X.A) (bd : Binds X.K fd ps []) (px : Passes Γ X (fun _ _ _ => False)) (gx : Gl X x) (mx : X.mg x = some (.ref C))
    (pa : PA X (e0 :: er) ta) (db : (x == ("__debug__" : Str)) = false) (st : starEach (e0 :: er) X.env = (false, eval e0 X.env) :: starEach er X.env) (pl : (backTo pos (starEach er X.env)).any (·.1) = false) :
    PE X (.Call (.Name x p) (e0 :: er) [] pos) (tMkV C sp ta) := ⟨fun pins s σ H Q J wish => by
  obtain ⟨_, _, _, _, bm, _, _, _, _, _, _, _, _, _, _, atC, refs⟩ := T.cls
  apply wpAny_Call_Name_kw
  refine ld_glob J gx mx ?_ db
  refine PySem.W.callWith_K (h₀ := X.base) J.ok.mod.kin T.kC (thn (pa.run pos pins s σ H _ J wish) ?_) st pl
  rintro us ⟨hp, gs, dr, tk, os⟩ ⟨vs, H1, J1, rel, len1, wish1⟩
  refine ⟨J1.kIn, ?_⟩
  change wpAny _ _ (call (.ref C) us) _ _ _
  obtain ⟨a, ea⟩ : ∃ a, a = hp.objs.size + 1 := ⟨_, rfl⟩
  have above : hp.objs.size ≤ a := by omega
  have w2 := wish1 a (J1.hok.fresh above)
  obtain ⟨hp2, e2⟩ : ∃ h, h = (hp.push (PySem.W.kdv_tup us)).push (PySem.HandSPX.excO C hp.objs.size) := ⟨_, rfl⟩
  have kept : ∀ b o, hp.get? b = some o → hp2.get? b = some o := fun b o y => by
    rw [e2]
    exact Heap.get?_push_of_some _ (Heap.get?_push_of_some _ y)
  have new2 : hp2.get? a = some (PySem.HandSPX.excO C hp.objs.size) := by
    rw [e2, ea]
    heap_get
  have J2 : Inv X pins σ (upd H1 a (exo a C none)) ⟨hp2, gs, dr, tk, os⟩ := J1.laid (t' := tk) kept above (exo_ok new2)
  have rel2 : Vals (V.ref a :: vs) (Value.ref a :: us) := Paired.cons (show RelV (V.ref a) (Value.ref a) from rfl) rel
  have many : (Value.ref a :: us ++ []).length = ps.length := by
    rw [List.append_nil, ← rel2.length]
    exact G.len _ _ _ _ w2
  have few : us.length ≤ sizeLine := by
    have := Paired.length rel
    rw [sizeLine_eq]
    omega
  have bind2 := bd ⟨hp2, gs, dr, tk, os⟩ (Value.ref a :: us) J2.kIn many
  rw [List.append_nil] at bind2
  have body := G.run (X.A.under (.builtin "type.__call__" ⟨.ref C :: us, []⟩)) X.stack ⟨hp2, gs, dr, tk, os⟩ _ ⟨Value.ref a :: us, []⟩ (Value.ref a :: us) _ _ _ (rm.make C us []) (J2.env0.make C us []) bind2 rel2 w2
  rw [e2, ea] at body
  refine wpAny_call (PySem.HandSPX.call_own F.excBase_ValueError (fun q => PySem.HandSPX.refsVE_contains q bm refs) (J1.kIn _ _ atC) (PySem.W.looks_findIn J1.kIn hI) (fun self => PySem.W.bind_fn J1.kIn self hT) few (codeAny_mono body ?_))
  rintro (er2 | fl) s3 end3
  · exact px pins σ _ _ er2 s3 J2 (by rw [e2, ea]; exact end3)
  · cases fl with
    | next => exact False.elim end3
    | brk => exact False.elim end3
    | cont => exact False.elim end3
    | ret u =>
      rw [← ea, ← e2] at end3
      obtain ⟨v, H', I3, rv, ev, q3⟩ := J2.after end3
      subst ev
      exact ⟨rv, ⟨V.ref a, H', I3, by rw [ea]; rfl, q3⟩⟩⟩
/-- e.f, e an error of the text that is held as a value -/
def tXv (K : PySem.W.Frag) (f : Str) (te : TE) : TE := fun σ H Q => te σ H fun x H1 => ∃ (a C d : Addr) (fs : List (Str × V)) (v : V), x = .ref a ∧ XfC K C ∧ PySem.W.findIn K (.ref C) f = some none ∧ H1 a = some (exo a C (some d)) ∧ H1 d = some (exd d fs) ∧ fs.lookup f = some v ∧ Q v H1
theorem pe_xv {X : Cx} {eo : Expr} {to : TE} {pos : Pos} {fd : Str} (pe : PE X eo to) (hab : attributeBase eo fd X.env (eval eo X.env) = eval eo X.env := by rfl) :
    PE X (.Attribute eo fd pos) (tXv X.K fd to) := ⟨fun pins s σ H Q J wish => by
  refine attr_of hab (thn (pe.run pins s σ H _ J wish) ?_)
  rintro u t ⟨_, H1, J1, rel, a, C, d, fs, v, rfl, T, hno, ea, ed, l, q⟩
  obtain rfl : u = Value.ref a := rel
  obtain ⟨t1, atE⟩ := exo_at J1.hok ea
  obtain ⟨mD, nsD, relD⟩ := exd_at J1.hok ed
  obtain ⟨od, atD, lookD⟩ := lookIn_ns nsD
  obtain ⟨y, ey, ry⟩ := RelO.some_of (v := v) (o := mD fd) (by rw [← l]; exact relD fd)
  have inst : PySem.W.InstAt t.heap a _ C (some od) := ⟨atE, rfl, rfl, atD⟩
  exact HandSPX.exc_get J1.kIn inst T.ga T.gg T.exC (PySem.W.findObj_own T.hdC hno rfl (by rw [lookD, ey])) (handed_of ry) ⟨v, H1, J1.tok _, ry, q⟩⟩
/-- at a: an error of the class D, held as a value -/
def IsE (H : Hp) (a D : Addr) : Prop := H a = some (ExO (.ref D) a) ∨ ∃ (d : Addr) (fs : List (Str × V)), H a = some (exo a D (some d)) ∧ H d = some (exd d fs)
theorem IsE.ex {H H' : Hp} {a D : Addr} (h : IsE H a D) (e : Ex H H') : IsE H' a D := by
  rcases h with h | ⟨d, fs, h1, h2⟩
  · exact .inl (e _ _ h)
  · exact .inr ⟨d, fs, e _ _ h1, e _ _ h2⟩
def exvB (x : Str) (K : PySem.W.Frag) : Bool :=
  (PySem.W.clsIn K (ga K x)).isSome && (decide (PySem.W.findIn K (.ref (ga K x)) "__getattribute__" = some (some (.builtin "BaseException.__getattribute__"))) && (decide (PySem.W.findIn K (.ref (ga K x)) "__getattr__" = some none) &&
  (decide (PySem.W.subIn K (.ref (ga K x)) (.type "BaseException") = some true) && (decide (PySem.W.findIn K (.ref (ga K x)) "__class__" = some (some (.builtin "object.__class__"))) &&
  (decide (PySem.W.specialIn K (.builtin "object.__class__") "__get__" = some (some (.builtin "getset_descriptor.__get__"))) && (decide (PySem.W.takesIn K (.builtin "object.__class__") = some true) && decide (PySem.W.mroIn K (ga K x) (.type "object") = some true)))))))
structure ExV (K : PySem.W.Frag) (C : Addr) : Prop where
  v1 : (PySem.W.clsIn K C).isSome = true
  v2 : PySem.W.findIn K (.ref C) "__getattribute__" = some (some (.builtin "BaseException.__getattribute__"))
  v3 : PySem.W.findIn K (.ref C) "__getattr__" = some none
  v4 : PySem.W.subIn K (.ref C) (.type "BaseException") = some true
  v5 : PySem.W.findIn K (.ref C) "__class__" = some (some (.builtin "object.__class__"))
  v6 : PySem.W.specialIn K (.builtin "object.__class__") "__get__" = some (some (.builtin "getset_descriptor.__get__"))
  v7 : PySem.W.takesIn K (.builtin "object.__class__") = some true
  v8 : PySem.W.mroIn K C (.type "object") = some true
theorem exvB_ok {x : Str} {K : PySem.W.Frag} (h : exvB x K = true) : ExV K (ga K x) := by
  obtain ⟨h1, h⟩ := ba h
  obtain ⟨h2, h⟩ := ba h
  obtain ⟨h3, h⟩ := ba h
  obtain ⟨h4, h⟩ := ba h
  obtain ⟨h5, h⟩ := ba h
  obtain ⟨h6, h⟩ := ba h
  obtain ⟨h7, h8⟩ := ba h
  exact ⟨h1, of_decide_eq_true h2, of_decide_eq_true h3, of_decide_eq_true h4, of_decide_eq_true h5, of_decide_eq_true h6, of_decide_eq_true h7, of_decide_eq_true h8⟩
/-- isinstance(e, C), e an error held as a value, C a class of the text or ValueError -/
def rIsX (K : PySem.W.Frag) : List V → Hp → VK → Prop := fun xs H Q => ∃ (a D : Addr) (c : V) (cv : Value) (b : Bool), xs = [.ref a, c] ∧ IsE H a D ∧ ExV K D ∧ (∀ u, RelV c u → u = cv) ∧ PySem.W.kitOne K (.ref D) cv = some b ∧ Q (.bl b) H
theorem call_isX {X : Cx} : CallR X (.builtin "isinstance") (rIsX X.K) := by
  intro pins s σ H xs us Q J rel wish
  obtain ⟨a, D, c, cv, b, rfl, isE, T, one, kit, q⟩ := wish
  match us, rel with
  | [_, t], .cons r1 (.cons r2 .nil) =>
    obtain rfl := one _ r2
    cases r1
    have fin : ∀ tk, EP X pins σ Q (.bool b) { s with toks := tk } := fun tk => ⟨.bl b, H, J.kept (t' := tk) fun _ _ z => z, rfl, q⟩
    rcases isE with h | ⟨d, fs, h1, h2⟩
    · obtain ⟨⟨oe, vs, ho, hz, hd, _⟩, _, _⟩ := J.hok a _ h
      have inst : PySem.W.InstAt s.heap a oe D none := by
        obtain ⟨oc, od, oda, osl⟩ := oe
        obtain ⟨z1, z2⟩ := hz
        dsimp only at z1 z2 hd
        subst z1 z2 hd
        exact ⟨ho, rfl, rfl, trivial⟩
      exact PySem.W.kia_one (PySem.W.kitx_exc T.v1 T.v2 T.v3 T.v4 T.v5 T.v6 T.v7 T.v8) J.kIn inst kit (fun z => nomatch z) fin
    · obtain ⟨t1, atE⟩ := exo_at J.hok h1
      obtain ⟨mD, nsD, relD⟩ := exd_at J.hok h2
      obtain ⟨od, atD, lookD⟩ := lookIn_ns nsD
      have inst : PySem.W.InstAt s.heap a _ D (some od) := ⟨atE, rfl, rfl, atD⟩
      exact PySem.W.kia_one (PySem.W.kitx_exc T.v1 T.v2 T.v3 T.v4 T.v5 T.v6 T.v7 T.v8) J.kIn inst kit (fun z => nomatch z) fin
end Lw
namespace Lw
open PySem PySem.Spec PyProof.Rows L2 He Evl StX
/-- of which classes the errors of the names are: each of its own, of WordError and of ValueError -/
def kitsB (ns : List Str) (K : PySem.W.Frag) : Bool := (List.range ns.length).all fun i => exvB (ns.getD i Str.empty) K && (decide (PySem.W.kitOne K (.ref (ga K (ns.getD i Str.empty))) (.ref (ga K "WordError")) = some true) &&
  (decide (PySem.W.kitOne K (.ref (ga K (ns.getD i Str.empty))) (.type "ValueError") = some true) && (List.range ns.length).all fun j => decide (PySem.W.kitOne K (.ref (ga K (ns.getD i Str.empty))) (.ref (ga K (ns.getD j Str.empty))) = some (decide (i = j)))))
structure Kits (ns : List Str) (K : PySem.W.Frag) (i : Nat) : Prop where
  e : ExV K (ga K (ns.getD i Str.empty))
  w : PySem.W.kitOne K (.ref (ga K (ns.getD i Str.empty))) (.ref (ga K "WordError")) = some true
  v : PySem.W.kitOne K (.ref (ga K (ns.getD i Str.empty))) (.type "ValueError") = some true
  k : ∀ j, j < ns.length → PySem.W.kitOne K (.ref (ga K (ns.getD i Str.empty))) (.ref (ga K (ns.getD j Str.empty))) = some (decide (i = j))
theorem kitsB_ok {ns : List Str} {K : PySem.W.Frag} (h : kitsB ns K = true) {i : Nat} (hi : i < ns.length) : Kits ns K i := by
  have h1 := List.all_eq_true.mp h i (List.mem_range.mpr hi)
  obtain ⟨h2, h1⟩ := ba h1
  obtain ⟨h3, h1⟩ := ba h1
  obtain ⟨h4, h5⟩ := ba h1
  exact ⟨exvB_ok h2, of_decide_eq_true h3, of_decide_eq_true h4, fun j hj => of_decide_eq_true (List.all_eq_true.mp h5 j (List.mem_range.mpr hj))⟩
end Lw
namespace Lw
open PySem PySem.Spec PyProof.Rows L2 He Evl StX
section
variable {X : Cx} {K : PySem.W.Frag} {x : Str} {p pos : Pos} {e0 : Expr} {er : List Expr} {te : TE} {ta : TA} {k : Nat} {fs ps : List Str} {sp : Sp}
theorem kv0 (h : X.K = K) (T : Ex0 K X.mg x) (hg : Gl X x := by rfl) (hdb : (x == ("__debug__" : Str)) = false := by decide) :
    PE X (.Call (.Name x p) [] [] pos) (fun _ H Q => ∀ a, H a = none → Q (.ref a) (upd H a (ExO (.ref (ga K x)) a))) := by
  subst h
  exact pe_exv0 T hg hdb
theorem pe_mkV (T : ExI X.prog X.w X.K X.mg X.base k x fs ps sp) (hr : Room (k + 1) X.A) (pa : PA X (e0 :: er) ta) (hg : Gl X x := by rfl) (hdb : (x == ("__debug__" : Str)) = false := by decide)
    (st : starEach (e0 :: er) X.env = (false, eval e0 X.env) :: starEach er X.env := by rfl) (pl : (backTo pos (starEach er X.env)).any (·.1) = false := by rfl) :
    PE X (.Call (.Name x p) (e0 :: er) [] pos) (tMkV (ga X.K x) sp ta) := by
  obtain ⟨fd, F, b⟩ := T.F
  exact pe_exvI T.T.o T.T.i T.T.t F hr b pass0 hg T.g pa hdb st pl
theorem kmkV (h : X.K = K) (T : ExI X.prog X.w K X.mg X.base k x fs ps sp) (hr : Room (k + 1) X.A) (pa : PA X (e0 :: er) ta) (hg : Gl X x := by rfl) (hdb : (x == ("__debug__" : Str)) = false := by decide)
    (st : starEach (e0 :: er) X.env = (false, eval e0 X.env) :: starEach er X.env := by rfl) (pl : (backTo pos (starEach er X.env)).any (·.1) = false := by rfl) :
    PE X (.Call (.Name x p) (e0 :: er) [] pos) (tMkV (ga K x) sp ta) := by
  subst h
  exact pe_mkV T hr pa hg hdb st pl
theorem kxv {eo : Expr} {n : Str} (h : X.K = K) (pe : PE X eo te) (hab : attributeBase eo n X.env (eval eo X.env) = eval eo X.env := by rfl) : PE X (.Attribute eo n pos) (tXv K n te) := h ▸ pe_xv pe hab
theorem kc_isX (h : X.K = K) : CallR X (.builtin "isinstance") (rIsX K) := h ▸ call_isX
def rJoin (K : PySem.W.Frag) : V → List V → Hp → VK → Prop := fun x xs H Q => ∃ a p, ∃ ys : List Str, x = .str a ∧ xs = [.ref p] ∧ (SqL K H p (ys.map V.str) ∨ SqT K H p (ys.map V.str)) ∧ (ys.map (·.length)).sum + ys.length * a.length ≤ 16777216 ∧ Q (.str (Txt.join a ys)) H
theorem kjoin {o e : Expr} {to : TE} {apos : Pos} (h : X.K = K) (ho : PE X o to) (he : PE X e te) (hs : starEach [e] X.env = [(false, eval e X.env)] := by rfl)
    (hbase : attributeBase o "join" X.env (eval o X.env) = eval o X.env := by rfl) (hline : (apos.endLine == pos.line) = true := by rfl) :
    PE X (.Call (.Attribute o "join" apos) [e] [] pos) (tM1 (rJoin K) to te) := by
  subst h
  exact pe_m1 PySem.F.slot_str_join PySem.F.type_str_join mt_join ho he hs hbase hline
/-- != of plain things or of data -/
def rNeM (K : PySem.W.Frag) : R2 := fun x y H Q => rNe x y H Q ∨ rNeD K x y H Q
theorem ko_neM {k : Nat} (hr : Room k X.A) (h : X.K = K) : OpR X (compareOp .NotEq) (rNeM K) := by
  subst h
  intro pins s σ H x y v u Q J rx ry wish
  rcases wish with a | b
  · exact op_ne pins s σ H x y v u Q J rx ry a
  · exact op_neD hr.units pins s σ H x y v u Q J rx ry b
end
section
variable {K : PySem.W.Frag} {σ : L2.St} {H : Hp} {Q : VK} {te : TE} {ta : TA} {x f g : Str} {v w : V}
theorem rd_mkV {C : Addr} {sp : Sp} (h : ta σ H fun vs H1 => vs.length ≤ 1000 ∧ ∀ a, H1 a = none → sp (.ref a :: vs) (upd H1 a (exo a C none)) (fun v H2 => v = .non ∧ Q (.ref a) H2) (fun _ _ _ => False)) : tMkV C sp ta σ H Q := h
theorem rd_made1 {R : Addr → Hp → Prop} (q : ∀ a d H', H a = none → H d = none → Ex H H' → H' a = some (exo a (ga K x) (some d)) → H' d = some (exd d [(f, v)]) → R a H') :
    [v].length ≤ 1000 ∧ ∀ a, H a = none → spIni1 K x f (.ref a :: [v]) (upd H a (exo a (ga K x) none)) (fun u H2 => u = .non ∧ R a H2) (fun _ _ _ => False) := by
  refine ⟨by show 1 ≤ 1000; decide, fun a ha => ⟨a, v, rfl, upd_same, fun d hd ne => ⟨rfl, q a d _ ha (none_up hd ne) (fun b o hb => ?_) upd_same (by rw [upd_ne ne]; exact upd_same)⟩⟩⟩
  have ba : b ≠ a := fun e => by rw [e, ha] at hb; cases hb
  have bd : b ≠ d := fun e => by rw [e, none_up hd ne] at hb; cases hb
  rw [upd_ne ba, upd_ne bd, upd_ne ba]
  exact hb
theorem rd_made2 {R : Addr → Hp → Prop} (q : ∀ a d H', H a = none → H d = none → Ex H H' → H' a = some (exo a (ga K x) (some d)) → H' d = some (exd d [(g, w), (f, v)]) → R a H') :
    [v, w].length ≤ 1000 ∧ ∀ a, H a = none → spIni2 K x f g (.ref a :: [v, w]) (upd H a (exo a (ga K x) none)) (fun u H2 => u = .non ∧ R a H2) (fun _ _ _ => False) := by
  refine ⟨by show 2 ≤ 1000; decide, fun a ha => ⟨a, v, w, rfl, upd_same, fun d hd ne => ⟨rfl, q a d _ ha (none_up hd ne) (fun b o hb => ?_) ?_ upd_same⟩⟩⟩
  · have ba : b ≠ a := fun e => by rw [e, ha] at hb; cases hb
    have bd : b ≠ d := fun e => by rw [e, none_up hd ne] at hb; cases hb
    rw [upd_ne bd, upd_ne ba, upd_ne bd, upd_ne ba]
    exact hb
  · rw [upd_ne (Ne.symm ne)]
    exact upd_same
theorem rd_xv (h : te σ H fun x H1 => ∃ (a C d : Addr) (fs : List (Str × V)) (v : V), x = .ref a ∧ XfC K C ∧ PySem.W.findIn K (.ref C) f = some none ∧ H1 a = some (exo a C (some d)) ∧ H1 d = some (exd d fs) ∧ fs.lookup f = some v ∧ Q v H1) : tXv K f te σ H Q := h
end
end Lw

set_option Elab.async false
set_option linter.all false
set_option maxRecDepth 100000
set_option maxHeartbeats 0
namespace Lw
open PySem PySem.Spec PyProof.Rows L2 He
def top (i : Nat) : Stmt := PySem.Challenge.pw_lowerwords_k68_whole_errors_side_by_side.main.body.getD i (.Pass ⟨0, 0, 0, 0⟩)
abbrev s__law_mix : Stmt := top 35
def d__law_mix : DefD := ⟨("_law_mix", none), "_law_mix", "_law_mix", defArgs s__law_mix, defBody s__law_mix, defScope s__law_mix, [], []⟩
abbrev s__law_hand : Stmt := top 36
def d__law_hand : DefD := ⟨("_law_hand", none), "_law_hand", "_law_hand", defArgs s__law_hand, defBody s__law_hand, defScope s__law_hand, [], []⟩
abbrev s__law_draw : Stmt := top 37
def d__law_draw : DefD := ⟨("_law_draw", none), "_law_draw", "_law_draw", defArgs s__law_draw, defBody s__law_draw, defScope s__law_draw, [], []⟩
abbrev s__law_plain : Stmt := top 38
def d__law_plain : DefD := ⟨("_law_plain", none), "_law_plain", "_law_plain", defArgs s__law_plain, defBody s__law_plain, defScope s__law_plain, [], []⟩
abbrev s__law_two_told : Stmt := top 39
def d__law_two_told : DefD := ⟨("_law_two_told", none), "_law_two_told", "_law_two_told", defArgs s__law_two_told, defBody s__law_two_told, defScope s__law_two_told, [], []⟩
abbrev s__law_first_names : Stmt := top 40
def d__law_first_names : DefD := ⟨("_law_first_names", none), "_law_first_names", "_law_first_names", defArgs s__law_first_names, defBody s__law_first_names, defScope s__law_first_names, [], []⟩
abbrev s_law : Stmt := top 41
def d_law : DefD := ⟨("law", none), "law", "law", defArgs s_law, defBody s_law, defScope s_law, [], []⟩
abbrev s_BadNumber___init__ : Stmt := inClass (top 5) 0
def d_BadNumber___init__ : DefD := ⟨("BadNumber", some "__init__"), "__init__", "BadNumber.__init__", defArgs s_BadNumber___init__, defBody s_BadNumber___init__, defScope s_BadNumber___init__, [], []⟩
abbrev s_BadHeap___init__ : Stmt := inClass (top 6) 0
def d_BadHeap___init__ : DefD := ⟨("BadHeap", some "__init__"), "__init__", "BadHeap.__init__", defArgs s_BadHeap___init__, defBody s_BadHeap___init__, defScope s_BadHeap___init__, [], []⟩
abbrev s_BadPlaces___init__ : Stmt := inClass (top 7) 0
def d_BadPlaces___init__ : DefD := ⟨("BadPlaces", some "__init__"), "__init__", "BadPlaces.__init__", defArgs s_BadPlaces___init__, defBody s_BadPlaces___init__, defScope s_BadPlaces___init__, [], []⟩
abbrev s_BadWord___init__ : Stmt := inClass (top 8) 0
def d_BadWord___init__ : DefD := ⟨("BadWord", some "__init__"), "__init__", "BadWord.__init__", defArgs s_BadWord___init__, defBody s_BadWord___init__, defScope s_BadWord___init__, [], []⟩
abbrev s_BadChoice___init__ : Stmt := inClass (top 10) 0
def d_BadChoice___init__ : DefD := ⟨("BadChoice", some "__init__"), "__init__", "BadChoice.__init__", defArgs s_BadChoice___init__, defBody s_BadChoice___init__, defScope s_BadChoice___init__, [], []⟩
abbrev s_OtherLetters___init__ : Stmt := inClass (top 11) 0
def d_OtherLetters___init__ : DefD := ⟨("OtherLetters", some "__init__"), "__init__", "OtherLetters.__init__", defArgs s_OtherLetters___init__, defBody s_OtherLetters___init__, defScope s_OtherLetters___init__, [], []⟩
abbrev s_TooMany___init__ : Stmt := inClass (top 13) 0
def d_TooMany___init__ : DefD := ⟨("TooMany", some "__init__"), "__init__", "TooMany.__init__", defArgs s_TooMany___init__, defBody s_TooMany___init__, defScope s_TooMany___init__, [], []⟩
abbrev s_NotInCode___init__ : Stmt := inClass (top 14) 0
def d_NotInCode___init__ : DefD := ⟨("NotInCode", some "__init__"), "__init__", "NotInCode.__init__", defArgs s_NotInCode___init__, defBody s_NotInCode___init__, defScope s_NotInCode___init__, [], []⟩
abbrev s_BadText___init__ : Stmt := inClass (top 15) 0
def d_BadText___init__ : DefD := ⟨("BadText", some "__init__"), "__init__", "BadText.__init__", defArgs s_BadText___init__, defBody s_BadText___init__, defScope s_BadText___init__, [], []⟩
abbrev s_BadSubstitution___init__ : Stmt := inClass (top 16) 0
def d_BadSubstitution___init__ : DefD := ⟨("BadSubstitution", some "__init__"), "__init__", "BadSubstitution.__init__", defArgs s_BadSubstitution___init__, defBody s_BadSubstitution___init__, defScope s_BadSubstitution___init__, [], []⟩
abbrev s_NotTriangular___init__ : Stmt := inClass (top 17) 0
def d_NotTriangular___init__ : DefD := ⟨("NotTriangular", some "__init__"), "__init__", "NotTriangular.__init__", defArgs s_NotTriangular___init__, defBody s_NotTriangular___init__, defScope s_NotTriangular___init__, [], []⟩
abbrev s_NotClosed___init__ : Stmt := inClass (top 18) 0
def d_NotClosed___init__ : DefD := ⟨("NotClosed", some "__init__"), "__init__", "NotClosed.__init__", defArgs s_NotClosed___init__, defBody s_NotClosed___init__, defScope s_NotClosed___init__, [], []⟩
abbrev s_NotFalling___init__ : Stmt := inClass (top 19) 0
def d_NotFalling___init__ : DefD := ⟨("NotFalling", some "__init__"), "__init__", "NotFalling.__init__", defArgs s_NotFalling___init__, defBody s_NotFalling___init__, defScope s_NotFalling___init__, [], []⟩
abbrev s_BadForms___init__ : Stmt := inClass (top 20) 0
def d_BadForms___init__ : DefD := ⟨("BadForms", some "__init__"), "__init__", "BadForms.__init__", defArgs s_BadForms___init__, defBody s_BadForms___init__, defScope s_BadForms___init__, [], []⟩
abbrev s_NotMade___init__ : Stmt := inClass (top 22) 0
def d_NotMade___init__ : DefD := ⟨("NotMade", some "__init__"), "__init__", "NotMade.__init__", defArgs s_NotMade___init__, defBody s_NotMade___init__, defScope s_NotMade___init__, [], []⟩
abbrev s_BadBlocks___init__ : Stmt := inClass (top 23) 0
def d_BadBlocks___init__ : DefD := ⟨("BadBlocks", some "__init__"), "__init__", "BadBlocks.__init__", defArgs s_BadBlocks___init__, defBody s_BadBlocks___init__, defScope s_BadBlocks___init__, [], []⟩
abbrev s_NotMember___init__ : Stmt := inClass (top 24) 0
def d_NotMember___init__ : DefD := ⟨("NotMember", some "__init__"), "__init__", "NotMember.__init__", defArgs s_NotMember___init__, defBody s_NotMember___init__, defScope s_NotMember___init__, [], []⟩
abbrev s_BadBits___init__ : Stmt := inClass (top 26) 0
def d_BadBits___init__ : DefD := ⟨("BadBits", some "__init__"), "__init__", "BadBits.__init__", defArgs s_BadBits___init__, defBody s_BadBits___init__, defScope s_BadBits___init__, [], []⟩
abbrev s_BadHalves___init__ : Stmt := inClass (top 29) 0
def d_BadHalves___init__ : DefD := ⟨("BadHalves", some "__init__"), "__init__", "BadHalves.__init__", defArgs s_BadHalves___init__, defBody s_BadHalves___init__, defScope s_BadHalves___init__, [], []⟩
abbrev s_BadEdit___init__ : Stmt := inClass (top 30) 0
def d_BadEdit___init__ : DefD := ⟨("BadEdit", some "__init__"), "__init__", "BadEdit.__init__", defArgs s_BadEdit___init__, defBody s_BadEdit___init__, defScope s_BadEdit___init__, [], []⟩
abbrev s_BadGoal___init__ : Stmt := inClass (top 31) 0
def d_BadGoal___init__ : DefD := ⟨("BadGoal", some "__init__"), "__init__", "BadGoal.__init__", defArgs s_BadGoal___init__, defBody s_BadGoal___init__, defScope s_BadGoal___init__, [], []⟩
abbrev s_Held___init__ : Stmt := inClass (top 32) 0
def d_Held___init__ : DefD := ⟨("Held", some "__init__"), "__init__", "Held.__init__", defArgs s_Held___init__, defBody s_Held___init__, defScope s_Held___init__, [], []⟩
def fn0 : List DefD := [d__law_mix, d__law_hand, d__law_draw, d__law_plain, d__law_two_told, d__law_first_names, d_law, d_BadNumber___init__, d_BadHeap___init__, d_BadPlaces___init__, d_BadWord___init__, d_BadChoice___init__, d_OtherLetters___init__, d_TooMany___init__, d_NotInCode___init__, d_BadText___init__, d_BadSubstitution___init__, d_NotTriangular___init__, d_NotClosed___init__, d_NotFalling___init__]
def fn1 : List DefD := [d_BadForms___init__, d_NotMade___init__, d_BadBlocks___init__, d_NotMember___init__, d_BadBits___init__, d_BadHalves___init__, d_BadEdit___init__, d_BadGoal___init__, d_Held___init__]
def fn : List DefD := fn0 ++ fn1
def fa0 : List Fa := [.glo "_law_mix", .glo "_law_hand", .glo "_law_draw", .glo "_law_plain", .glo "_law_two_told", .glo "_law_first_names", .glo "law", .glo "WordError", .glo "BadLetters", .glo "BadLetter", .glo "BadBit", .glo "BadNumber", .glo "BadHeap", .glo "BadPlaces", .glo "BadWord", .glo "BadOrder", .glo "BadChoice", .glo "OtherLetters", .glo "EmptyChoice", .glo "TooMany"]
def fa1 : List Fa := [.glo "NotInCode", .glo "BadText", .glo "BadSubstitution", .glo "NotTriangular", .glo "NotClosed", .glo "NotFalling", .glo "BadForms", .glo "NotLeast", .glo "NotMade", .glo "BadBlocks", .glo "NotMember", .glo "NoneNear", .glo "BadBits", .glo "NotData", .glo "BadMessage", .glo "BadHalves", .glo "BadEdit", .glo "BadGoal", .glo "Held", .glo "NothingDone"]
def fa2 : List Fa := [.free "ValueError", .free "abs", .free "enumerate", .free "int", .free "isinstance", .free "len", .free "range", .exc "WordError", .exc "BadLetters", .exc "BadLetter", .exc "BadBit", .exc "BadOrder", .exc "EmptyChoice", .exc "NotLeast", .exc "NoneNear", .exc "NotData", .exc "BadMessage", .exc "NothingDone"]
def fa : List Fa := fa0 ++ fa1 ++ fa2
def nm68 : List Str := ["BadLetters", "BadLetter", "BadBit", "BadOrder", "EmptyChoice", "NotLeast", "NoneNear", "NotData", "BadMessage", "NothingDone", "BadNumber", "BadHeap", "BadPlaces", "BadWord", "OtherLetters", "TooMany", "NotInCode", "BadText", "NotTriangular", "NotMade", "BadBlocks", "BadBits", "BadEdit", "BadGoal", "BadHalves", "BadChoice", "BadSubstitution", "NotClosed", "NotFalling", "BadForms", "NotMember", "Held"]
def ex (K : PySem.W.Frag) : Bool := kitsB nm68 K && (excB "BadNumber" ["most"] K && (excB "BadHeap" ["index"] K && (excB "BadPlaces" ["index"] K && (excB "BadWord" ["index"] K && (excB "BadChoice" ["index", "what"] K && (excB "OtherLetters" ["letters"] K && (excB "TooMany" ["most"] K && (excB "NotInCode" ["heap"] K && (excB "BadText" ["index"] K && (excB "BadSubstitution" ["what", "index"] K && (excB "NotTriangular" ["letter"] K && (excB "NotClosed" ["heap", "missing"] K && (excB "NotFalling" ["heap", "missing"] K && (excB "BadForms" ["index", "what"] K && (excB "NotMade" ["heap"] K && (excB "BadBlocks" ["index"] K && (excB "NotMember" ["letter", "far"] K && (excB "BadBits" ["index"] K && (excB "BadHalves" ["what"] K && (excB "BadEdit" ["index"] K && (excB "BadGoal" ["index"] K && (excB "Held" ["index", "heap"] K))))))))))))))))))))))
abbrev R : PySem.W.OpenRow := PySem.W.OpenLaw.row PySem.Challenge.rw_lowerwords_k68_whole_errors_side_by_side
abbrev hk : PySem.W.Hook := hookE 5 fa fn ex
def ob (s : PySem.W.SharedT) : AlE := obsE 5 fa fn ex (HandSHeadRun.getT s)
theorem ob_eq (s : PySem.W.SharedT) : ob s = hk.obs s.abs := obsE_eq (HandSHeadRun.getT_eq s)
def loose0 : List PySem.Str := ["WordError", "BadLetters", "BadLetter", "BadBit", "BadNumber", "BadHeap", "BadPlaces", "BadWord", "BadOrder", "BadChoice", "OtherLetters", "EmptyChoice", "TooMany", "NotInCode", "BadText", "BadSubstitution", "NotTriangular", "NotClosed", "NotFalling", "BadForms"]
def loose1 : List PySem.Str := ["NotLeast", "NotMade", "BadBlocks", "NotMember", "NoneNear", "BadBits", "NotData", "BadMessage", "BadHalves", "BadEdit", "BadGoal", "Held", "NothingDone", "_law_mix", "_law_hand", "_law_draw", "_law_plain", "_law_two_told", "_law_first_names"]
def loose : List PySem.Str := loose0 ++ loose1
theorem run (w : World) : HandSHeadRun.RunEq R (PySem.W.view R.prog [41]) hk ob 12000 loose w := by
  intro os
  kernel_rfl
end Lw

set_option Elab.async false
set_option linter.all false
set_option maxRecDepth 100000
set_option maxHeartbeats 2000000
namespace Lw
open PySem PySem.Spec PyProof.Rows L2 He
structure Ctx (K : PySem.W.Frag) (mg : Str → Option Value) : Prop where
  X : ∃ h : Heap, K.In h ∧ h.Ns mainGlobals mg
  c : SaysE fa fn ex K
section
variable {P : Program} {w : World} {K : PySem.W.Frag} {mg : Str → Option Value} {base : Heap}
theorem g__law_mix (E : Ctx K mg) : mg "_law_mix" = some (.ref (ga K "_law_mix")) := by
  obtain ⟨⟨h, X, G⟩, c⟩ := E
  exact glo_ok X G (c.d.fact 0 (f := .glo "_law_mix") rfl)
theorem g__law_hand (E : Ctx K mg) : mg "_law_hand" = some (.ref (ga K "_law_hand")) := by
  obtain ⟨⟨h, X, G⟩, c⟩ := E
  exact glo_ok X G (c.d.fact 1 (f := .glo "_law_hand") rfl)
theorem g__law_draw (E : Ctx K mg) : mg "_law_draw" = some (.ref (ga K "_law_draw")) := by
  obtain ⟨⟨h, X, G⟩, c⟩ := E
  exact glo_ok X G (c.d.fact 2 (f := .glo "_law_draw") rfl)
theorem g__law_plain (E : Ctx K mg) : mg "_law_plain" = some (.ref (ga K "_law_plain")) := by
  obtain ⟨⟨h, X, G⟩, c⟩ := E
  exact glo_ok X G (c.d.fact 3 (f := .glo "_law_plain") rfl)
theorem g__law_two_told (E : Ctx K mg) : mg "_law_two_told" = some (.ref (ga K "_law_two_told")) := by
  obtain ⟨⟨h, X, G⟩, c⟩ := E
  exact glo_ok X G (c.d.fact 4 (f := .glo "_law_two_told") rfl)
theorem g__law_first_names (E : Ctx K mg) : mg "_law_first_names" = some (.ref (ga K "_law_first_names")) := by
  obtain ⟨⟨h, X, G⟩, c⟩ := E
  exact glo_ok X G (c.d.fact 5 (f := .glo "_law_first_names") rfl)
theorem g_law (E : Ctx K mg) : mg "law" = some (.ref (ga K "law")) := by
  obtain ⟨⟨h, X, G⟩, c⟩ := E
  exact glo_ok X G (c.d.fact 6 (f := .glo "law") rfl)
theorem g_WordError (E : Ctx K mg) : mg "WordError" = some (.ref (ga K "WordError")) := by
  obtain ⟨⟨h, X, G⟩, c⟩ := E
  exact glo_ok X G (c.d.fact 7 (f := .glo "WordError") rfl)
theorem g_BadLetters (E : Ctx K mg) : mg "BadLetters" = some (.ref (ga K "BadLetters")) := by
  obtain ⟨⟨h, X, G⟩, c⟩ := E
  exact glo_ok X G (c.d.fact 8 (f := .glo "BadLetters") rfl)
theorem g_BadLetter (E : Ctx K mg) : mg "BadLetter" = some (.ref (ga K "BadLetter")) := by
  obtain ⟨⟨h, X, G⟩, c⟩ := E
  exact glo_ok X G (c.d.fact 9 (f := .glo "BadLetter") rfl)
theorem g_BadBit (E : Ctx K mg) : mg "BadBit" = some (.ref (ga K "BadBit")) := by
  obtain ⟨⟨h, X, G⟩, c⟩ := E
  exact glo_ok X G (c.d.fact 10 (f := .glo "BadBit") rfl)
theorem g_BadNumber (E : Ctx K mg) : mg "BadNumber" = some (.ref (ga K "BadNumber")) := by
  obtain ⟨⟨h, X, G⟩, c⟩ := E
  exact glo_ok X G (c.d.fact 11 (f := .glo "BadNumber") rfl)
theorem g_BadHeap (E : Ctx K mg) : mg "BadHeap" = some (.ref (ga K "BadHeap")) := by
  obtain ⟨⟨h, X, G⟩, c⟩ := E
  exact glo_ok X G (c.d.fact 12 (f := .glo "BadHeap") rfl)
theorem g_BadPlaces (E : Ctx K mg) : mg "BadPlaces" = some (.ref (ga K "BadPlaces")) := by
  obtain ⟨⟨h, X, G⟩, c⟩ := E
  exact glo_ok X G (c.d.fact 13 (f := .glo "BadPlaces") rfl)
theorem g_BadWord (E : Ctx K mg) : mg "BadWord" = some (.ref (ga K "BadWord")) := by
  obtain ⟨⟨h, X, G⟩, c⟩ := E
  exact glo_ok X G (c.d.fact 14 (f := .glo "BadWord") rfl)
theorem g_BadOrder (E : Ctx K mg) : mg "BadOrder" = some (.ref (ga K "BadOrder")) := by
  obtain ⟨⟨h, X, G⟩, c⟩ := E
  exact glo_ok X G (c.d.fact 15 (f := .glo "BadOrder") rfl)
theorem g_BadChoice (E : Ctx K mg) : mg "BadChoice" = some (.ref (ga K "BadChoice")) := by
  obtain ⟨⟨h, X, G⟩, c⟩ := E
  exact glo_ok X G (c.d.fact 16 (f := .glo "BadChoice") rfl)
theorem g_OtherLetters (E : Ctx K mg) : mg "OtherLetters" = some (.ref (ga K "OtherLetters")) := by
  obtain ⟨⟨h, X, G⟩, c⟩ := E
  exact glo_ok X G (c.d.fact 17 (f := .glo "OtherLetters") rfl)
theorem g_EmptyChoice (E : Ctx K mg) : mg "EmptyChoice" = some (.ref (ga K "EmptyChoice")) := by
  obtain ⟨⟨h, X, G⟩, c⟩ := E
  exact glo_ok X G (c.d.fact 18 (f := .glo "EmptyChoice") rfl)
theorem g_TooMany (E : Ctx K mg) : mg "TooMany" = some (.ref (ga K "TooMany")) := by
  obtain ⟨⟨h, X, G⟩, c⟩ := E
  exact glo_ok X G (c.d.fact 19 (f := .glo "TooMany") rfl)
theorem g_NotInCode (E : Ctx K mg) : mg "NotInCode" = some (.ref (ga K "NotInCode")) := by
  obtain ⟨⟨h, X, G⟩, c⟩ := E
  exact glo_ok X G (c.d.fact 20 (f := .glo "NotInCode") rfl)
theorem g_BadText (E : Ctx K mg) : mg "BadText" = some (.ref (ga K "BadText")) := by
  obtain ⟨⟨h, X, G⟩, c⟩ := E
  exact glo_ok X G (c.d.fact 21 (f := .glo "BadText") rfl)
theorem g_BadSubstitution (E : Ctx K mg) : mg "BadSubstitution" = some (.ref (ga K "BadSubstitution")) := by
  obtain ⟨⟨h, X, G⟩, c⟩ := E
  exact glo_ok X G (c.d.fact 22 (f := .glo "BadSubstitution") rfl)
theorem g_NotTriangular (E : Ctx K mg) : mg "NotTriangular" = some (.ref (ga K "NotTriangular")) := by
  obtain ⟨⟨h, X, G⟩, c⟩ := E
  exact glo_ok X G (c.d.fact 23 (f := .glo "NotTriangular") rfl)
theorem g_NotClosed (E : Ctx K mg) : mg "NotClosed" = some (.ref (ga K "NotClosed")) := by
  obtain ⟨⟨h, X, G⟩, c⟩ := E
  exact glo_ok X G (c.d.fact 24 (f := .glo "NotClosed") rfl)
theorem g_NotFalling (E : Ctx K mg) : mg "NotFalling" = some (.ref (ga K "NotFalling")) := by
  obtain ⟨⟨h, X, G⟩, c⟩ := E
  exact glo_ok X G (c.d.fact 25 (f := .glo "NotFalling") rfl)
theorem g_BadForms (E : Ctx K mg) : mg "BadForms" = some (.ref (ga K "BadForms")) := by
  obtain ⟨⟨h, X, G⟩, c⟩ := E
  exact glo_ok X G (c.d.fact 26 (f := .glo "BadForms") rfl)
theorem g_NotLeast (E : Ctx K mg) : mg "NotLeast" = some (.ref (ga K "NotLeast")) := by
  obtain ⟨⟨h, X, G⟩, c⟩ := E
  exact glo_ok X G (c.d.fact 27 (f := .glo "NotLeast") rfl)
theorem g_NotMade (E : Ctx K mg) : mg "NotMade" = some (.ref (ga K "NotMade")) := by
  obtain ⟨⟨h, X, G⟩, c⟩ := E
  exact glo_ok X G (c.d.fact 28 (f := .glo "NotMade") rfl)
theorem g_BadBlocks (E : Ctx K mg) : mg "BadBlocks" = some (.ref (ga K "BadBlocks")) := by
  obtain ⟨⟨h, X, G⟩, c⟩ := E
  exact glo_ok X G (c.d.fact 29 (f := .glo "BadBlocks") rfl)
theorem g_NotMember (E : Ctx K mg) : mg "NotMember" = some (.ref (ga K "NotMember")) := by
  obtain ⟨⟨h, X, G⟩, c⟩ := E
  exact glo_ok X G (c.d.fact 30 (f := .glo "NotMember") rfl)
theorem g_NoneNear (E : Ctx K mg) : mg "NoneNear" = some (.ref (ga K "NoneNear")) := by
  obtain ⟨⟨h, X, G⟩, c⟩ := E
  exact glo_ok X G (c.d.fact 31 (f := .glo "NoneNear") rfl)
theorem g_BadBits (E : Ctx K mg) : mg "BadBits" = some (.ref (ga K "BadBits")) := by
  obtain ⟨⟨h, X, G⟩, c⟩ := E
  exact glo_ok X G (c.d.fact 32 (f := .glo "BadBits") rfl)
theorem g_NotData (E : Ctx K mg) : mg "NotData" = some (.ref (ga K "NotData")) := by
  obtain ⟨⟨h, X, G⟩, c⟩ := E
  exact glo_ok X G (c.d.fact 33 (f := .glo "NotData") rfl)
theorem g_BadMessage (E : Ctx K mg) : mg "BadMessage" = some (.ref (ga K "BadMessage")) := by
  obtain ⟨⟨h, X, G⟩, c⟩ := E
  exact glo_ok X G (c.d.fact 34 (f := .glo "BadMessage") rfl)
theorem g_BadHalves (E : Ctx K mg) : mg "BadHalves" = some (.ref (ga K "BadHalves")) := by
  obtain ⟨⟨h, X, G⟩, c⟩ := E
  exact glo_ok X G (c.d.fact 35 (f := .glo "BadHalves") rfl)
theorem g_BadEdit (E : Ctx K mg) : mg "BadEdit" = some (.ref (ga K "BadEdit")) := by
  obtain ⟨⟨h, X, G⟩, c⟩ := E
  exact glo_ok X G (c.d.fact 36 (f := .glo "BadEdit") rfl)
theorem g_BadGoal (E : Ctx K mg) : mg "BadGoal" = some (.ref (ga K "BadGoal")) := by
  obtain ⟨⟨h, X, G⟩, c⟩ := E
  exact glo_ok X G (c.d.fact 37 (f := .glo "BadGoal") rfl)
theorem g_Held (E : Ctx K mg) : mg "Held" = some (.ref (ga K "Held")) := by
  obtain ⟨⟨h, X, G⟩, c⟩ := E
  exact glo_ok X G (c.d.fact 38 (f := .glo "Held") rfl)
theorem g_NothingDone (E : Ctx K mg) : mg "NothingDone" = some (.ref (ga K "NothingDone")) := by
  obtain ⟨⟨h, X, G⟩, c⟩ := E
  exact glo_ok X G (c.d.fact 39 (f := .glo "NothingDone") rfl)
theorem b_ValueError (E : Ctx K mg) : mg "ValueError" = none := by
  obtain ⟨⟨h, X, G⟩, c⟩ := E
  exact free_ok X G (c.d.fact 40 (f := .free "ValueError") rfl)
theorem b_abs (E : Ctx K mg) : mg "abs" = none := by
  obtain ⟨⟨h, X, G⟩, c⟩ := E
  exact free_ok X G (c.d.fact 41 (f := .free "abs") rfl)
theorem b_enumerate (E : Ctx K mg) : mg "enumerate" = none := by
  obtain ⟨⟨h, X, G⟩, c⟩ := E
  exact free_ok X G (c.d.fact 42 (f := .free "enumerate") rfl)
theorem b_int (E : Ctx K mg) : mg "int" = none := by
  obtain ⟨⟨h, X, G⟩, c⟩ := E
  exact free_ok X G (c.d.fact 43 (f := .free "int") rfl)
theorem b_isinstance (E : Ctx K mg) : mg "isinstance" = none := by
  obtain ⟨⟨h, X, G⟩, c⟩ := E
  exact free_ok X G (c.d.fact 44 (f := .free "isinstance") rfl)
theorem b_len (E : Ctx K mg) : mg "len" = none := by
  obtain ⟨⟨h, X, G⟩, c⟩ := E
  exact free_ok X G (c.d.fact 45 (f := .free "len") rfl)
theorem b_range (E : Ctx K mg) : mg "range" = none := by
  obtain ⟨⟨h, X, G⟩, c⟩ := E
  exact free_ok X G (c.d.fact 46 (f := .free "range") rfl)
theorem x0_WordError (E : Ctx K mg) : Ex0 K mg "WordError" := ⟨g_WordError E, E.c.d.fact 47 (f := .exc "WordError") rfl⟩
theorem x0_BadLetters (E : Ctx K mg) : Ex0 K mg "BadLetters" := ⟨g_BadLetters E, E.c.d.fact 48 (f := .exc "BadLetters") rfl⟩
theorem x0_BadLetter (E : Ctx K mg) : Ex0 K mg "BadLetter" := ⟨g_BadLetter E, E.c.d.fact 49 (f := .exc "BadLetter") rfl⟩
theorem x0_BadBit (E : Ctx K mg) : Ex0 K mg "BadBit" := ⟨g_BadBit E, E.c.d.fact 50 (f := .exc "BadBit") rfl⟩
theorem x0_BadOrder (E : Ctx K mg) : Ex0 K mg "BadOrder" := ⟨g_BadOrder E, E.c.d.fact 51 (f := .exc "BadOrder") rfl⟩
theorem x0_EmptyChoice (E : Ctx K mg) : Ex0 K mg "EmptyChoice" := ⟨g_EmptyChoice E, E.c.d.fact 52 (f := .exc "EmptyChoice") rfl⟩
theorem x0_NotLeast (E : Ctx K mg) : Ex0 K mg "NotLeast" := ⟨g_NotLeast E, E.c.d.fact 53 (f := .exc "NotLeast") rfl⟩
theorem x0_NoneNear (E : Ctx K mg) : Ex0 K mg "NoneNear" := ⟨g_NoneNear E, E.c.d.fact 54 (f := .exc "NoneNear") rfl⟩
theorem x0_NotData (E : Ctx K mg) : Ex0 K mg "NotData" := ⟨g_NotData E, E.c.d.fact 55 (f := .exc "NotData") rfl⟩
theorem x0_BadMessage (E : Ctx K mg) : Ex0 K mg "BadMessage" := ⟨g_BadMessage E, E.c.d.fact 56 (f := .exc "BadMessage") rfl⟩
theorem x0_NothingDone (E : Ctx K mg) : Ex0 K mg "NothingDone" := ⟨g_NothingDone E, E.c.d.fact 57 (f := .exc "NothingDone") rfl⟩
theorem f__law_mix (E : Ctx K mg) : ∃ fd, FunD K "_law_mix" "_law_mix" (defArgs s__law_mix) (defBody s__law_mix) (defScope s__law_mix) [] [] (ga K "_law_mix") fd := E.c.d.def_ 0 (d := d__law_mix) rfl
theorem f__law_hand (E : Ctx K mg) : ∃ fd, FunD K "_law_hand" "_law_hand" (defArgs s__law_hand) (defBody s__law_hand) (defScope s__law_hand) [] [] (ga K "_law_hand") fd := E.c.d.def_ 1 (d := d__law_hand) rfl
theorem f__law_draw (E : Ctx K mg) : ∃ fd, FunD K "_law_draw" "_law_draw" (defArgs s__law_draw) (defBody s__law_draw) (defScope s__law_draw) [] [] (ga K "_law_draw") fd := E.c.d.def_ 2 (d := d__law_draw) rfl
theorem f__law_plain (E : Ctx K mg) : ∃ fd, FunD K "_law_plain" "_law_plain" (defArgs s__law_plain) (defBody s__law_plain) (defScope s__law_plain) [] [] (ga K "_law_plain") fd := E.c.d.def_ 3 (d := d__law_plain) rfl
theorem f__law_two_told (E : Ctx K mg) : ∃ fd, FunD K "_law_two_told" "_law_two_told" (defArgs s__law_two_told) (defBody s__law_two_told) (defScope s__law_two_told) [] [] (ga K "_law_two_told") fd := E.c.d.def_ 4 (d := d__law_two_told) rfl
theorem f__law_first_names (E : Ctx K mg) : ∃ fd, FunD K "_law_first_names" "_law_first_names" (defArgs s__law_first_names) (defBody s__law_first_names) (defScope s__law_first_names) [] [] (ga K "_law_first_names") fd := E.c.d.def_ 5 (d := d__law_first_names) rfl
theorem f_law (E : Ctx K mg) : ∃ fd, FunD K "law" "law" (defArgs s_law) (defBody s_law) (defScope s_law) [] [] (ga K "law") fd := E.c.d.def_ 6 (d := d_law) rfl
theorem f_BadNumber___init__ (E : Ctx K mg) : ∃ fd, FunD K "__init__" "BadNumber.__init__" (defArgs s_BadNumber___init__) (defBody s_BadNumber___init__) (defScope s_BadNumber___init__) [] [] (ma K (ga K "BadNumber") "__init__") fd := E.c.d.def_ 7 (d := d_BadNumber___init__) rfl
theorem f_BadHeap___init__ (E : Ctx K mg) : ∃ fd, FunD K "__init__" "BadHeap.__init__" (defArgs s_BadHeap___init__) (defBody s_BadHeap___init__) (defScope s_BadHeap___init__) [] [] (ma K (ga K "BadHeap") "__init__") fd := E.c.d.def_ 8 (d := d_BadHeap___init__) rfl
theorem f_BadPlaces___init__ (E : Ctx K mg) : ∃ fd, FunD K "__init__" "BadPlaces.__init__" (defArgs s_BadPlaces___init__) (defBody s_BadPlaces___init__) (defScope s_BadPlaces___init__) [] [] (ma K (ga K "BadPlaces") "__init__") fd := E.c.d.def_ 9 (d := d_BadPlaces___init__) rfl
theorem f_BadWord___init__ (E : Ctx K mg) : ∃ fd, FunD K "__init__" "BadWord.__init__" (defArgs s_BadWord___init__) (defBody s_BadWord___init__) (defScope s_BadWord___init__) [] [] (ma K (ga K "BadWord") "__init__") fd := E.c.d.def_ 10 (d := d_BadWord___init__) rfl
theorem f_BadChoice___init__ (E : Ctx K mg) : ∃ fd, FunD K "__init__" "BadChoice.__init__" (defArgs s_BadChoice___init__) (defBody s_BadChoice___init__) (defScope s_BadChoice___init__) [] [] (ma K (ga K "BadChoice") "__init__") fd := E.c.d.def_ 11 (d := d_BadChoice___init__) rfl
theorem f_OtherLetters___init__ (E : Ctx K mg) : ∃ fd, FunD K "__init__" "OtherLetters.__init__" (defArgs s_OtherLetters___init__) (defBody s_OtherLetters___init__) (defScope s_OtherLetters___init__) [] [] (ma K (ga K "OtherLetters") "__init__") fd := E.c.d.def_ 12 (d := d_OtherLetters___init__) rfl
theorem f_TooMany___init__ (E : Ctx K mg) : ∃ fd, FunD K "__init__" "TooMany.__init__" (defArgs s_TooMany___init__) (defBody s_TooMany___init__) (defScope s_TooMany___init__) [] [] (ma K (ga K "TooMany") "__init__") fd := E.c.d.def_ 13 (d := d_TooMany___init__) rfl
theorem f_NotInCode___init__ (E : Ctx K mg) : ∃ fd, FunD K "__init__" "NotInCode.__init__" (defArgs s_NotInCode___init__) (defBody s_NotInCode___init__) (defScope s_NotInCode___init__) [] [] (ma K (ga K "NotInCode") "__init__") fd := E.c.d.def_ 14 (d := d_NotInCode___init__) rfl
theorem f_BadText___init__ (E : Ctx K mg) : ∃ fd, FunD K "__init__" "BadText.__init__" (defArgs s_BadText___init__) (defBody s_BadText___init__) (defScope s_BadText___init__) [] [] (ma K (ga K "BadText") "__init__") fd := E.c.d.def_ 15 (d := d_BadText___init__) rfl
theorem f_BadSubstitution___init__ (E : Ctx K mg) : ∃ fd, FunD K "__init__" "BadSubstitution.__init__" (defArgs s_BadSubstitution___init__) (defBody s_BadSubstitution___init__) (defScope s_BadSubstitution___init__) [] [] (ma K (ga K "BadSubstitution") "__init__") fd := E.c.d.def_ 16 (d := d_BadSubstitution___init__) rfl
theorem f_NotTriangular___init__ (E : Ctx K mg) : ∃ fd, FunD K "__init__" "NotTriangular.__init__" (defArgs s_NotTriangular___init__) (defBody s_NotTriangular___init__) (defScope s_NotTriangular___init__) [] [] (ma K (ga K "NotTriangular") "__init__") fd := E.c.d.def_ 17 (d := d_NotTriangular___init__) rfl
theorem f_NotClosed___init__ (E : Ctx K mg) : ∃ fd, FunD K "__init__" "NotClosed.__init__" (defArgs s_NotClosed___init__) (defBody s_NotClosed___init__) (defScope s_NotClosed___init__) [] [] (ma K (ga K "NotClosed") "__init__") fd := E.c.d.def_ 18 (d := d_NotClosed___init__) rfl
theorem f_NotFalling___init__ (E : Ctx K mg) : ∃ fd, FunD K "__init__" "NotFalling.__init__" (defArgs s_NotFalling___init__) (defBody s_NotFalling___init__) (defScope s_NotFalling___init__) [] [] (ma K (ga K "NotFalling") "__init__") fd := E.c.d.def_ 19 (d := d_NotFalling___init__) rfl
theorem f_BadForms___init__ (E : Ctx K mg) : ∃ fd, FunD K "__init__" "BadForms.__init__" (defArgs s_BadForms___init__) (defBody s_BadForms___init__) (defScope s_BadForms___init__) [] [] (ma K (ga K "BadForms") "__init__") fd := E.c.d.def_ 20 (d := d_BadForms___init__) rfl
theorem f_NotMade___init__ (E : Ctx K mg) : ∃ fd, FunD K "__init__" "NotMade.__init__" (defArgs s_NotMade___init__) (defBody s_NotMade___init__) (defScope s_NotMade___init__) [] [] (ma K (ga K "NotMade") "__init__") fd := E.c.d.def_ 21 (d := d_NotMade___init__) rfl
theorem f_BadBlocks___init__ (E : Ctx K mg) : ∃ fd, FunD K "__init__" "BadBlocks.__init__" (defArgs s_BadBlocks___init__) (defBody s_BadBlocks___init__) (defScope s_BadBlocks___init__) [] [] (ma K (ga K "BadBlocks") "__init__") fd := E.c.d.def_ 22 (d := d_BadBlocks___init__) rfl
theorem f_NotMember___init__ (E : Ctx K mg) : ∃ fd, FunD K "__init__" "NotMember.__init__" (defArgs s_NotMember___init__) (defBody s_NotMember___init__) (defScope s_NotMember___init__) [] [] (ma K (ga K "NotMember") "__init__") fd := E.c.d.def_ 23 (d := d_NotMember___init__) rfl
theorem f_BadBits___init__ (E : Ctx K mg) : ∃ fd, FunD K "__init__" "BadBits.__init__" (defArgs s_BadBits___init__) (defBody s_BadBits___init__) (defScope s_BadBits___init__) [] [] (ma K (ga K "BadBits") "__init__") fd := E.c.d.def_ 24 (d := d_BadBits___init__) rfl
theorem f_BadHalves___init__ (E : Ctx K mg) : ∃ fd, FunD K "__init__" "BadHalves.__init__" (defArgs s_BadHalves___init__) (defBody s_BadHalves___init__) (defScope s_BadHalves___init__) [] [] (ma K (ga K "BadHalves") "__init__") fd := E.c.d.def_ 25 (d := d_BadHalves___init__) rfl
theorem f_BadEdit___init__ (E : Ctx K mg) : ∃ fd, FunD K "__init__" "BadEdit.__init__" (defArgs s_BadEdit___init__) (defBody s_BadEdit___init__) (defScope s_BadEdit___init__) [] [] (ma K (ga K "BadEdit") "__init__") fd := E.c.d.def_ 26 (d := d_BadEdit___init__) rfl
theorem f_BadGoal___init__ (E : Ctx K mg) : ∃ fd, FunD K "__init__" "BadGoal.__init__" (defArgs s_BadGoal___init__) (defBody s_BadGoal___init__) (defScope s_BadGoal___init__) [] [] (ma K (ga K "BadGoal") "__init__") fd := E.c.d.def_ 27 (d := d_BadGoal___init__) rfl
theorem f_Held___init__ (E : Ctx K mg) : ∃ fd, FunD K "__init__" "Held.__init__" (defArgs s_Held___init__) (defBody s_Held___init__) (defScope s_Held___init__) [] [] (ma K (ga K "Held") "__init__") fd := E.c.d.def_ 28 (d := d_Held___init__) rfl
theorem x_BadNumber (E : Ctx K mg) : ExcT K "BadNumber" ["most"] := excB_ok ((ba (ba E.c.x).2).1)
abbrev N_BadNumber___init__ : List Str := ["self", "most"]
theorem sc_BadNumber___init__ : FnScope N_BadNumber___init__ ["self", "most"] (defScope s_BadNumber___init__) := ⟨rfl, rfl, rfl, by decide +kernel, rfl, by decide +kernel, by decide +kernel⟩
theorem i_BadNumber (E : Ctx K mg) : ExI P w K mg base 1 "BadNumber" ["most"] ["self", "most"] (spIni1 K "BadNumber" "most") := by
  obtain ⟨fd, F⟩ := f_BadNumber___init__ E
  refine ⟨g_BadNumber E, x_BadNumber E, fd, ?_, F.bindsN fun _ _ _ _ _ _ us hl => match us, hl with | [_, _], _ => rfl⟩
  refine F.ok sc_BadNumber___init__ (fun vs H Q E h => ?_) (fun cdv A outer s H vs Q E' hr h => ⟨_, PSs.nox (pss_one (ps_ost (pv 0) (pv 1))), ?_⟩)
  · obtain ⟨a, v, rfl, _⟩ := h
    rfl
  · obtain ⟨a, v, rfl, ha, q⟩ := h
    exact ⟨_, rfl, _, rfl, a, ga K "BadNumber", rfl, (x_BadNumber E).o, (x_BadNumber E).n _ (by decide), .inl ⟨ha, fun d hd ne => q d hd ne⟩⟩
theorem x_BadHeap (E : Ctx K mg) : ExcT K "BadHeap" ["index"] := excB_ok ((ba (ba (ba E.c.x).2).2).1)
abbrev N_BadHeap___init__ : List Str := ["self", "index"]
theorem sc_BadHeap___init__ : FnScope N_BadHeap___init__ ["self", "index"] (defScope s_BadHeap___init__) := ⟨rfl, rfl, rfl, by decide +kernel, rfl, by decide +kernel, by decide +kernel⟩
theorem i_BadHeap (E : Ctx K mg) : ExI P w K mg base 1 "BadHeap" ["index"] ["self", "index"] (spIni1 K "BadHeap" "index") := by
  obtain ⟨fd, F⟩ := f_BadHeap___init__ E
  refine ⟨g_BadHeap E, x_BadHeap E, fd, ?_, F.bindsN fun _ _ _ _ _ _ us hl => match us, hl with | [_, _], _ => rfl⟩
  refine F.ok sc_BadHeap___init__ (fun vs H Q E h => ?_) (fun cdv A outer s H vs Q E' hr h => ⟨_, PSs.nox (pss_one (ps_ost (pv 0) (pv 1))), ?_⟩)
  · obtain ⟨a, v, rfl, _⟩ := h
    rfl
  · obtain ⟨a, v, rfl, ha, q⟩ := h
    exact ⟨_, rfl, _, rfl, a, ga K "BadHeap", rfl, (x_BadHeap E).o, (x_BadHeap E).n _ (by decide), .inl ⟨ha, fun d hd ne => q d hd ne⟩⟩
theorem x_BadPlaces (E : Ctx K mg) : ExcT K "BadPlaces" ["index"] := excB_ok ((ba (ba (ba (ba E.c.x).2).2).2).1)
abbrev N_BadPlaces___init__ : List Str := ["self", "index"]
theorem sc_BadPlaces___init__ : FnScope N_BadPlaces___init__ ["self", "index"] (defScope s_BadPlaces___init__) := ⟨rfl, rfl, rfl, by decide +kernel, rfl, by decide +kernel, by decide +kernel⟩
theorem i_BadPlaces (E : Ctx K mg) : ExI P w K mg base 1 "BadPlaces" ["index"] ["self", "index"] (spIni1 K "BadPlaces" "index") := by
  obtain ⟨fd, F⟩ := f_BadPlaces___init__ E
  refine ⟨g_BadPlaces E, x_BadPlaces E, fd, ?_, F.bindsN fun _ _ _ _ _ _ us hl => match us, hl with | [_, _], _ => rfl⟩
  refine F.ok sc_BadPlaces___init__ (fun vs H Q E h => ?_) (fun cdv A outer s H vs Q E' hr h => ⟨_, PSs.nox (pss_one (ps_ost (pv 0) (pv 1))), ?_⟩)
  · obtain ⟨a, v, rfl, _⟩ := h
    rfl
  · obtain ⟨a, v, rfl, ha, q⟩ := h
    exact ⟨_, rfl, _, rfl, a, ga K "BadPlaces", rfl, (x_BadPlaces E).o, (x_BadPlaces E).n _ (by decide), .inl ⟨ha, fun d hd ne => q d hd ne⟩⟩
theorem x_BadWord (E : Ctx K mg) : ExcT K "BadWord" ["index"] := excB_ok ((ba (ba (ba (ba (ba E.c.x).2).2).2).2).1)
abbrev N_BadWord___init__ : List Str := ["self", "index"]
theorem sc_BadWord___init__ : FnScope N_BadWord___init__ ["self", "index"] (defScope s_BadWord___init__) := ⟨rfl, rfl, rfl, by decide +kernel, rfl, by decide +kernel, by decide +kernel⟩
theorem i_BadWord (E : Ctx K mg) : ExI P w K mg base 1 "BadWord" ["index"] ["self", "index"] (spIni1 K "BadWord" "index") := by
  obtain ⟨fd, F⟩ := f_BadWord___init__ E
  refine ⟨g_BadWord E, x_BadWord E, fd, ?_, F.bindsN fun _ _ _ _ _ _ us hl => match us, hl with | [_, _], _ => rfl⟩
  refine F.ok sc_BadWord___init__ (fun vs H Q E h => ?_) (fun cdv A outer s H vs Q E' hr h => ⟨_, PSs.nox (pss_one (ps_ost (pv 0) (pv 1))), ?_⟩)
  · obtain ⟨a, v, rfl, _⟩ := h
    rfl
  · obtain ⟨a, v, rfl, ha, q⟩ := h
    exact ⟨_, rfl, _, rfl, a, ga K "BadWord", rfl, (x_BadWord E).o, (x_BadWord E).n _ (by decide), .inl ⟨ha, fun d hd ne => q d hd ne⟩⟩
theorem x_BadChoice (E : Ctx K mg) : ExcT K "BadChoice" ["index", "what"] := excB_ok ((ba (ba (ba (ba (ba (ba E.c.x).2).2).2).2).2).1)
abbrev N_BadChoice___init__ : List Str := ["self", "index", "what"]
theorem sc_BadChoice___init__ : FnScope N_BadChoice___init__ ["self", "index", "what"] (defScope s_BadChoice___init__) := ⟨rfl, rfl, rfl, by decide +kernel, rfl, by decide +kernel, by decide +kernel⟩
theorem i_BadChoice (E : Ctx K mg) : ExI P w K mg base 1 "BadChoice" ["index", "what"] ["self", "index", "what"] (spIni2 K "BadChoice" "index" "what") := by
  obtain ⟨fd, F⟩ := f_BadChoice___init__ E
  refine ⟨g_BadChoice E, x_BadChoice E, fd, ?_, F.bindsN fun _ _ _ _ _ _ us hl => match us, hl with | [_, _, _], _ => rfl⟩
  refine F.ok sc_BadChoice___init__ (fun vs H Q E h => ?_) (fun cdv A outer s H vs Q E' hr h => ⟨_, PSs.nox (pss_cons (ps_ost (pv 0) (pv 1)) (pss_one (ps_ost (pv 0) (pv 2)))), ?_⟩)
  · obtain ⟨a, v, w', rfl, _⟩ := h
    rfl
  · obtain ⟨a, v, w', rfl, ha, q⟩ := h
    refine ⟨_, rfl, _, rfl, a, ga K "BadChoice", rfl, (x_BadChoice E).o, (x_BadChoice E).n _ (by decide), .inl ⟨ha, fun d hd ne => ?_⟩⟩
    exact ⟨_, rfl, _, rfl, a, ga K "BadChoice", rfl, (x_BadChoice E).o, (x_BadChoice E).n _ (by decide), .inr ⟨d, _, upd_same, (by rw [upd_ne ne]; exact upd_same), (by show 1 ≤ 900; decide), q d hd ne⟩⟩
theorem x_OtherLetters (E : Ctx K mg) : ExcT K "OtherLetters" ["letters"] := excB_ok ((ba (ba (ba (ba (ba (ba (ba E.c.x).2).2).2).2).2).2).1)
abbrev N_OtherLetters___init__ : List Str := ["self", "letters"]
theorem sc_OtherLetters___init__ : FnScope N_OtherLetters___init__ ["self", "letters"] (defScope s_OtherLetters___init__) := ⟨rfl, rfl, rfl, by decide +kernel, rfl, by decide +kernel, by decide +kernel⟩
theorem i_OtherLetters (E : Ctx K mg) : ExI P w K mg base 1 "OtherLetters" ["letters"] ["self", "letters"] (spIni1 K "OtherLetters" "letters") := by
  obtain ⟨fd, F⟩ := f_OtherLetters___init__ E
  refine ⟨g_OtherLetters E, x_OtherLetters E, fd, ?_, F.bindsN fun _ _ _ _ _ _ us hl => match us, hl with | [_, _], _ => rfl⟩
  refine F.ok sc_OtherLetters___init__ (fun vs H Q E h => ?_) (fun cdv A outer s H vs Q E' hr h => ⟨_, PSs.nox (pss_one (ps_ost (pv 0) (pv 1))), ?_⟩)
  · obtain ⟨a, v, rfl, _⟩ := h
    rfl
  · obtain ⟨a, v, rfl, ha, q⟩ := h
    exact ⟨_, rfl, _, rfl, a, ga K "OtherLetters", rfl, (x_OtherLetters E).o, (x_OtherLetters E).n _ (by decide), .inl ⟨ha, fun d hd ne => q d hd ne⟩⟩
theorem x_TooMany (E : Ctx K mg) : ExcT K "TooMany" ["most"] := excB_ok ((ba (ba (ba (ba (ba (ba (ba (ba E.c.x).2).2).2).2).2).2).2).1)
abbrev N_TooMany___init__ : List Str := ["self", "most"]
theorem sc_TooMany___init__ : FnScope N_TooMany___init__ ["self", "most"] (defScope s_TooMany___init__) := ⟨rfl, rfl, rfl, by decide +kernel, rfl, by decide +kernel, by decide +kernel⟩
theorem i_TooMany (E : Ctx K mg) : ExI P w K mg base 1 "TooMany" ["most"] ["self", "most"] (spIni1 K "TooMany" "most") := by
  obtain ⟨fd, F⟩ := f_TooMany___init__ E
  refine ⟨g_TooMany E, x_TooMany E, fd, ?_, F.bindsN fun _ _ _ _ _ _ us hl => match us, hl with | [_, _], _ => rfl⟩
  refine F.ok sc_TooMany___init__ (fun vs H Q E h => ?_) (fun cdv A outer s H vs Q E' hr h => ⟨_, PSs.nox (pss_one (ps_ost (pv 0) (pv 1))), ?_⟩)
  · obtain ⟨a, v, rfl, _⟩ := h
    rfl
  · obtain ⟨a, v, rfl, ha, q⟩ := h
    exact ⟨_, rfl, _, rfl, a, ga K "TooMany", rfl, (x_TooMany E).o, (x_TooMany E).n _ (by decide), .inl ⟨ha, fun d hd ne => q d hd ne⟩⟩
theorem x_NotInCode (E : Ctx K mg) : ExcT K "NotInCode" ["heap"] := excB_ok ((ba (ba (ba (ba (ba (ba (ba (ba (ba E.c.x).2).2).2).2).2).2).2).2).1)
abbrev N_NotInCode___init__ : List Str := ["self", "heap"]
theorem sc_NotInCode___init__ : FnScope N_NotInCode___init__ ["self", "heap"] (defScope s_NotInCode___init__) := ⟨rfl, rfl, rfl, by decide +kernel, rfl, by decide +kernel, by decide +kernel⟩
theorem i_NotInCode (E : Ctx K mg) : ExI P w K mg base 1 "NotInCode" ["heap"] ["self", "heap"] (spIni1 K "NotInCode" "heap") := by
  obtain ⟨fd, F⟩ := f_NotInCode___init__ E
  refine ⟨g_NotInCode E, x_NotInCode E, fd, ?_, F.bindsN fun _ _ _ _ _ _ us hl => match us, hl with | [_, _], _ => rfl⟩
  refine F.ok sc_NotInCode___init__ (fun vs H Q E h => ?_) (fun cdv A outer s H vs Q E' hr h => ⟨_, PSs.nox (pss_one (ps_ost (pv 0) (pv 1))), ?_⟩)
  · obtain ⟨a, v, rfl, _⟩ := h
    rfl
  · obtain ⟨a, v, rfl, ha, q⟩ := h
    exact ⟨_, rfl, _, rfl, a, ga K "NotInCode", rfl, (x_NotInCode E).o, (x_NotInCode E).n _ (by decide), .inl ⟨ha, fun d hd ne => q d hd ne⟩⟩
theorem x_BadText (E : Ctx K mg) : ExcT K "BadText" ["index"] := excB_ok ((ba (ba (ba (ba (ba (ba (ba (ba (ba (ba E.c.x).2).2).2).2).2).2).2).2).2).1)
abbrev N_BadText___init__ : List Str := ["self", "index"]
theorem sc_BadText___init__ : FnScope N_BadText___init__ ["self", "index"] (defScope s_BadText___init__) := ⟨rfl, rfl, rfl, by decide +kernel, rfl, by decide +kernel, by decide +kernel⟩
theorem i_BadText (E : Ctx K mg) : ExI P w K mg base 1 "BadText" ["index"] ["self", "index"] (spIni1 K "BadText" "index") := by
  obtain ⟨fd, F⟩ := f_BadText___init__ E
  refine ⟨g_BadText E, x_BadText E, fd, ?_, F.bindsN fun _ _ _ _ _ _ us hl => match us, hl with | [_, _], _ => rfl⟩
  refine F.ok sc_BadText___init__ (fun vs H Q E h => ?_) (fun cdv A outer s H vs Q E' hr h => ⟨_, PSs.nox (pss_one (ps_ost (pv 0) (pv 1))), ?_⟩)
  · obtain ⟨a, v, rfl, _⟩ := h
    rfl
  · obtain ⟨a, v, rfl, ha, q⟩ := h
    exact ⟨_, rfl, _, rfl, a, ga K "BadText", rfl, (x_BadText E).o, (x_BadText E).n _ (by decide), .inl ⟨ha, fun d hd ne => q d hd ne⟩⟩
theorem x_BadSubstitution (E : Ctx K mg) : ExcT K "BadSubstitution" ["what", "index"] := excB_ok ((ba (ba (ba (ba (ba (ba (ba (ba (ba (ba (ba E.c.x).2).2).2).2).2).2).2).2).2).2).1)
abbrev N_BadSubstitution___init__ : List Str := ["self", "what", "index"]
theorem sc_BadSubstitution___init__ : FnScope N_BadSubstitution___init__ ["self", "what", "index"] (defScope s_BadSubstitution___init__) := ⟨rfl, rfl, rfl, by decide +kernel, rfl, by decide +kernel, by decide +kernel⟩
theorem i_BadSubstitution (E : Ctx K mg) : ExI P w K mg base 1 "BadSubstitution" ["what", "index"] ["self", "what", "index"] (spIni2 K "BadSubstitution" "what" "index") := by
  obtain ⟨fd, F⟩ := f_BadSubstitution___init__ E
  refine ⟨g_BadSubstitution E, x_BadSubstitution E, fd, ?_, F.bindsN fun _ _ _ _ _ _ us hl => match us, hl with | [_, _, _], _ => rfl⟩
  refine F.ok sc_BadSubstitution___init__ (fun vs H Q E h => ?_) (fun cdv A outer s H vs Q E' hr h => ⟨_, PSs.nox (pss_cons (ps_ost (pv 0) (pv 1)) (pss_one (ps_ost (pv 0) (pv 2)))), ?_⟩)
  · obtain ⟨a, v, w', rfl, _⟩ := h
    rfl
  · obtain ⟨a, v, w', rfl, ha, q⟩ := h
    refine ⟨_, rfl, _, rfl, a, ga K "BadSubstitution", rfl, (x_BadSubstitution E).o, (x_BadSubstitution E).n _ (by decide), .inl ⟨ha, fun d hd ne => ?_⟩⟩
    exact ⟨_, rfl, _, rfl, a, ga K "BadSubstitution", rfl, (x_BadSubstitution E).o, (x_BadSubstitution E).n _ (by decide), .inr ⟨d, _, upd_same, (by rw [upd_ne ne]; exact upd_same), (by show 1 ≤ 900; decide), q d hd ne⟩⟩
theorem x_NotTriangular (E : Ctx K mg) : ExcT K "NotTriangular" ["letter"] := excB_ok ((ba (ba (ba (ba (ba (ba (ba (ba (ba (ba (ba (ba E.c.x).2).2).2).2).2).2).2).2).2).2).2).1)
abbrev N_NotTriangular___init__ : List Str := ["self", "letter"]
theorem sc_NotTriangular___init__ : FnScope N_NotTriangular___init__ ["self", "letter"] (defScope s_NotTriangular___init__) := ⟨rfl, rfl, rfl, by decide +kernel, rfl, by decide +kernel, by decide +kernel⟩
theorem i_NotTriangular (E : Ctx K mg) : ExI P w K mg base 1 "NotTriangular" ["letter"] ["self", "letter"] (spIni1 K "NotTriangular" "letter") := by
  obtain ⟨fd, F⟩ := f_NotTriangular___init__ E
  refine ⟨g_NotTriangular E, x_NotTriangular E, fd, ?_, F.bindsN fun _ _ _ _ _ _ us hl => match us, hl with | [_, _], _ => rfl⟩
  refine F.ok sc_NotTriangular___init__ (fun vs H Q E h => ?_) (fun cdv A outer s H vs Q E' hr h => ⟨_, PSs.nox (pss_one (ps_ost (pv 0) (pv 1))), ?_⟩)
  · obtain ⟨a, v, rfl, _⟩ := h
    rfl
  · obtain ⟨a, v, rfl, ha, q⟩ := h
    exact ⟨_, rfl, _, rfl, a, ga K "NotTriangular", rfl, (x_NotTriangular E).o, (x_NotTriangular E).n _ (by decide), .inl ⟨ha, fun d hd ne => q d hd ne⟩⟩
theorem x_NotClosed (E : Ctx K mg) : ExcT K "NotClosed" ["heap", "missing"] := excB_ok ((ba (ba (ba (ba (ba (ba (ba (ba (ba (ba (ba (ba (ba E.c.x).2).2).2).2).2).2).2).2).2).2).2).2).1)
abbrev N_NotClosed___init__ : List Str := ["self", "heap", "missing"]
theorem sc_NotClosed___init__ : FnScope N_NotClosed___init__ ["self", "heap", "missing"] (defScope s_NotClosed___init__) := ⟨rfl, rfl, rfl, by decide +kernel, rfl, by decide +kernel, by decide +kernel⟩
theorem i_NotClosed (E : Ctx K mg) : ExI P w K mg base 1 "NotClosed" ["heap", "missing"] ["self", "heap", "missing"] (spIni2 K "NotClosed" "heap" "missing") := by
  obtain ⟨fd, F⟩ := f_NotClosed___init__ E
  refine ⟨g_NotClosed E, x_NotClosed E, fd, ?_, F.bindsN fun _ _ _ _ _ _ us hl => match us, hl with | [_, _, _], _ => rfl⟩
  refine F.ok sc_NotClosed___init__ (fun vs H Q E h => ?_) (fun cdv A outer s H vs Q E' hr h => ⟨_, PSs.nox (pss_cons (ps_ost (pv 0) (pv 1)) (pss_one (ps_ost (pv 0) (pv 2)))), ?_⟩)
  · obtain ⟨a, v, w', rfl, _⟩ := h
    rfl
  · obtain ⟨a, v, w', rfl, ha, q⟩ := h
    refine ⟨_, rfl, _, rfl, a, ga K "NotClosed", rfl, (x_NotClosed E).o, (x_NotClosed E).n _ (by decide), .inl ⟨ha, fun d hd ne => ?_⟩⟩
    exact ⟨_, rfl, _, rfl, a, ga K "NotClosed", rfl, (x_NotClosed E).o, (x_NotClosed E).n _ (by decide), .inr ⟨d, _, upd_same, (by rw [upd_ne ne]; exact upd_same), (by show 1 ≤ 900; decide), q d hd ne⟩⟩
theorem x_NotFalling (E : Ctx K mg) : ExcT K "NotFalling" ["heap", "missing"] := excB_ok ((ba (ba (ba (ba (ba (ba (ba (ba (ba (ba (ba (ba (ba (ba E.c.x).2).2).2).2).2).2).2).2).2).2).2).2).2).1)
abbrev N_NotFalling___init__ : List Str := ["self", "heap", "missing"]
theorem sc_NotFalling___init__ : FnScope N_NotFalling___init__ ["self", "heap", "missing"] (defScope s_NotFalling___init__) := ⟨rfl, rfl, rfl, by decide +kernel, rfl, by decide +kernel, by decide +kernel⟩
theorem i_NotFalling (E : Ctx K mg) : ExI P w K mg base 1 "NotFalling" ["heap", "missing"] ["self", "heap", "missing"] (spIni2 K "NotFalling" "heap" "missing") := by
  obtain ⟨fd, F⟩ := f_NotFalling___init__ E
  refine ⟨g_NotFalling E, x_NotFalling E, fd, ?_, F.bindsN fun _ _ _ _ _ _ us hl => match us, hl with | [_, _, _], _ => rfl⟩
  refine F.ok sc_NotFalling___init__ (fun vs H Q E h => ?_) (fun cdv A outer s H vs Q E' hr h => ⟨_, PSs.nox (pss_cons (ps_ost (pv 0) (pv 1)) (pss_one (ps_ost (pv 0) (pv 2)))), ?_⟩)
  · obtain ⟨a, v, w', rfl, _⟩ := h
    rfl
  · obtain ⟨a, v, w', rfl, ha, q⟩ := h
    refine ⟨_, rfl, _, rfl, a, ga K "NotFalling", rfl, (x_NotFalling E).o, (x_NotFalling E).n _ (by decide), .inl ⟨ha, fun d hd ne => ?_⟩⟩
    exact ⟨_, rfl, _, rfl, a, ga K "NotFalling", rfl, (x_NotFalling E).o, (x_NotFalling E).n _ (by decide), .inr ⟨d, _, upd_same, (by rw [upd_ne ne]; exact upd_same), (by show 1 ≤ 900; decide), q d hd ne⟩⟩
theorem x_BadForms (E : Ctx K mg) : ExcT K "BadForms" ["index", "what"] := excB_ok ((ba (ba (ba (ba (ba (ba (ba (ba (ba (ba (ba (ba (ba (ba (ba E.c.x).2).2).2).2).2).2).2).2).2).2).2).2).2).2).1)
abbrev N_BadForms___init__ : List Str := ["self", "index", "what"]
theorem sc_BadForms___init__ : FnScope N_BadForms___init__ ["self", "index", "what"] (defScope s_BadForms___init__) := ⟨rfl, rfl, rfl, by decide +kernel, rfl, by decide +kernel, by decide +kernel⟩
theorem i_BadForms (E : Ctx K mg) : ExI P w K mg base 1 "BadForms" ["index", "what"] ["self", "index", "what"] (spIni2 K "BadForms" "index" "what") := by
  obtain ⟨fd, F⟩ := f_BadForms___init__ E
  refine ⟨g_BadForms E, x_BadForms E, fd, ?_, F.bindsN fun _ _ _ _ _ _ us hl => match us, hl with | [_, _, _], _ => rfl⟩
  refine F.ok sc_BadForms___init__ (fun vs H Q E h => ?_) (fun cdv A outer s H vs Q E' hr h => ⟨_, PSs.nox (pss_cons (ps_ost (pv 0) (pv 1)) (pss_one (ps_ost (pv 0) (pv 2)))), ?_⟩)
  · obtain ⟨a, v, w', rfl, _⟩ := h
    rfl
  · obtain ⟨a, v, w', rfl, ha, q⟩ := h
    refine ⟨_, rfl, _, rfl, a, ga K "BadForms", rfl, (x_BadForms E).o, (x_BadForms E).n _ (by decide), .inl ⟨ha, fun d hd ne => ?_⟩⟩
    exact ⟨_, rfl, _, rfl, a, ga K "BadForms", rfl, (x_BadForms E).o, (x_BadForms E).n _ (by decide), .inr ⟨d, _, upd_same, (by rw [upd_ne ne]; exact upd_same), (by show 1 ≤ 900; decide), q d hd ne⟩⟩
theorem x_NotMade (E : Ctx K mg) : ExcT K "NotMade" ["heap"] := excB_ok ((ba (ba (ba (ba (ba (ba (ba (ba (ba (ba (ba (ba (ba (ba (ba (ba E.c.x).2).2).2).2).2).2).2).2).2).2).2).2).2).2).2).1)
abbrev N_NotMade___init__ : List Str := ["self", "heap"]
theorem sc_NotMade___init__ : FnScope N_NotMade___init__ ["self", "heap"] (defScope s_NotMade___init__) := ⟨rfl, rfl, rfl, by decide +kernel, rfl, by decide +kernel, by decide +kernel⟩
theorem i_NotMade (E : Ctx K mg) : ExI P w K mg base 1 "NotMade" ["heap"] ["self", "heap"] (spIni1 K "NotMade" "heap") := by
  obtain ⟨fd, F⟩ := f_NotMade___init__ E
  refine ⟨g_NotMade E, x_NotMade E, fd, ?_, F.bindsN fun _ _ _ _ _ _ us hl => match us, hl with | [_, _], _ => rfl⟩
  refine F.ok sc_NotMade___init__ (fun vs H Q E h => ?_) (fun cdv A outer s H vs Q E' hr h => ⟨_, PSs.nox (pss_one (ps_ost (pv 0) (pv 1))), ?_⟩)
  · obtain ⟨a, v, rfl, _⟩ := h
    rfl
  · obtain ⟨a, v, rfl, ha, q⟩ := h
    exact ⟨_, rfl, _, rfl, a, ga K "NotMade", rfl, (x_NotMade E).o, (x_NotMade E).n _ (by decide), .inl ⟨ha, fun d hd ne => q d hd ne⟩⟩
theorem x_BadBlocks (E : Ctx K mg) : ExcT K "BadBlocks" ["index"] := excB_ok ((ba (ba (ba (ba (ba (ba (ba (ba (ba (ba (ba (ba (ba (ba (ba (ba (ba E.c.x).2).2).2).2).2).2).2).2).2).2).2).2).2).2).2).2).1)
abbrev N_BadBlocks___init__ : List Str := ["self", "index"]
theorem sc_BadBlocks___init__ : FnScope N_BadBlocks___init__ ["self", "index"] (defScope s_BadBlocks___init__) := ⟨rfl, rfl, rfl, by decide +kernel, rfl, by decide +kernel, by decide +kernel⟩
theorem i_BadBlocks (E : Ctx K mg) : ExI P w K mg base 1 "BadBlocks" ["index"] ["self", "index"] (spIni1 K "BadBlocks" "index") := by
  obtain ⟨fd, F⟩ := f_BadBlocks___init__ E
  refine ⟨g_BadBlocks E, x_BadBlocks E, fd, ?_, F.bindsN fun _ _ _ _ _ _ us hl => match us, hl with | [_, _], _ => rfl⟩
  refine F.ok sc_BadBlocks___init__ (fun vs H Q E h => ?_) (fun cdv A outer s H vs Q E' hr h => ⟨_, PSs.nox (pss_one (ps_ost (pv 0) (pv 1))), ?_⟩)
  · obtain ⟨a, v, rfl, _⟩ := h
    rfl
  · obtain ⟨a, v, rfl, ha, q⟩ := h
    exact ⟨_, rfl, _, rfl, a, ga K "BadBlocks", rfl, (x_BadBlocks E).o, (x_BadBlocks E).n _ (by decide), .inl ⟨ha, fun d hd ne => q d hd ne⟩⟩
theorem x_NotMember (E : Ctx K mg) : ExcT K "NotMember" ["letter", "far"] := excB_ok ((ba (ba (ba (ba (ba (ba (ba (ba (ba (ba (ba (ba (ba (ba (ba (ba (ba (ba E.c.x).2).2).2).2).2).2).2).2).2).2).2).2).2).2).2).2).2).1)
abbrev N_NotMember___init__ : List Str := ["self", "letter", "far"]
theorem sc_NotMember___init__ : FnScope N_NotMember___init__ ["self", "letter", "far"] (defScope s_NotMember___init__) := ⟨rfl, rfl, rfl, by decide +kernel, rfl, by decide +kernel, by decide +kernel⟩
theorem i_NotMember (E : Ctx K mg) : ExI P w K mg base 1 "NotMember" ["letter", "far"] ["self", "letter", "far"] (spIni2 K "NotMember" "letter" "far") := by
  obtain ⟨fd, F⟩ := f_NotMember___init__ E
  refine ⟨g_NotMember E, x_NotMember E, fd, ?_, F.bindsN fun _ _ _ _ _ _ us hl => match us, hl with | [_, _, _], _ => rfl⟩
  refine F.ok sc_NotMember___init__ (fun vs H Q E h => ?_) (fun cdv A outer s H vs Q E' hr h => ⟨_, PSs.nox (pss_cons (ps_ost (pv 0) (pv 1)) (pss_one (ps_ost (pv 0) (pv 2)))), ?_⟩)
  · obtain ⟨a, v, w', rfl, _⟩ := h
    rfl
  · obtain ⟨a, v, w', rfl, ha, q⟩ := h
    refine ⟨_, rfl, _, rfl, a, ga K "NotMember", rfl, (x_NotMember E).o, (x_NotMember E).n _ (by decide), .inl ⟨ha, fun d hd ne => ?_⟩⟩
    exact ⟨_, rfl, _, rfl, a, ga K "NotMember", rfl, (x_NotMember E).o, (x_NotMember E).n _ (by decide), .inr ⟨d, _, upd_same, (by rw [upd_ne ne]; exact upd_same), (by show 1 ≤ 900; decide), q d hd ne⟩⟩
theorem x_BadBits (E : Ctx K mg) : ExcT K "BadBits" ["index"] := excB_ok ((ba (ba (ba (ba (ba (ba (ba (ba (ba (ba (ba (ba (ba (ba (ba (ba (ba (ba (ba E.c.x).2).2).2).2).2).2).2).2).2).2).2).2).2).2).2).2).2).2).1)
abbrev N_BadBits___init__ : List Str := ["self", "index"]
theorem sc_BadBits___init__ : FnScope N_BadBits___init__ ["self", "index"] (defScope s_BadBits___init__) := ⟨rfl, rfl, rfl, by decide +kernel, rfl, by decide +kernel, by decide +kernel⟩
theorem i_BadBits (E : Ctx K mg) : ExI P w K mg base 1 "BadBits" ["index"] ["self", "index"] (spIni1 K "BadBits" "index") := by
  obtain ⟨fd, F⟩ := f_BadBits___init__ E
  refine ⟨g_BadBits E, x_BadBits E, fd, ?_, F.bindsN fun _ _ _ _ _ _ us hl => match us, hl with | [_, _], _ => rfl⟩
  refine F.ok sc_BadBits___init__ (fun vs H Q E h => ?_) (fun cdv A outer s H vs Q E' hr h => ⟨_, PSs.nox (pss_one (ps_ost (pv 0) (pv 1))), ?_⟩)
  · obtain ⟨a, v, rfl, _⟩ := h
    rfl
  · obtain ⟨a, v, rfl, ha, q⟩ := h
    exact ⟨_, rfl, _, rfl, a, ga K "BadBits", rfl, (x_BadBits E).o, (x_BadBits E).n _ (by decide), .inl ⟨ha, fun d hd ne => q d hd ne⟩⟩
theorem x_BadHalves (E : Ctx K mg) : ExcT K "BadHalves" ["what"] := excB_ok ((ba (ba (ba (ba (ba (ba (ba (ba (ba (ba (ba (ba (ba (ba (ba (ba (ba (ba (ba (ba E.c.x).2).2).2).2).2).2).2).2).2).2).2).2).2).2).2).2).2).2).2).1)
abbrev N_BadHalves___init__ : List Str := ["self", "what"]
theorem sc_BadHalves___init__ : FnScope N_BadHalves___init__ ["self", "what"] (defScope s_BadHalves___init__) := ⟨rfl, rfl, rfl, by decide +kernel, rfl, by decide +kernel, by decide +kernel⟩
theorem i_BadHalves (E : Ctx K mg) : ExI P w K mg base 1 "BadHalves" ["what"] ["self", "what"] (spIni1 K "BadHalves" "what") := by
  obtain ⟨fd, F⟩ := f_BadHalves___init__ E
  refine ⟨g_BadHalves E, x_BadHalves E, fd, ?_, F.bindsN fun _ _ _ _ _ _ us hl => match us, hl with | [_, _], _ => rfl⟩
  refine F.ok sc_BadHalves___init__ (fun vs H Q E h => ?_) (fun cdv A outer s H vs Q E' hr h => ⟨_, PSs.nox (pss_one (ps_ost (pv 0) (pv 1))), ?_⟩)
  · obtain ⟨a, v, rfl, _⟩ := h
    rfl
  · obtain ⟨a, v, rfl, ha, q⟩ := h
    exact ⟨_, rfl, _, rfl, a, ga K "BadHalves", rfl, (x_BadHalves E).o, (x_BadHalves E).n _ (by decide), .inl ⟨ha, fun d hd ne => q d hd ne⟩⟩
theorem x_BadEdit (E : Ctx K mg) : ExcT K "BadEdit" ["index"] := excB_ok ((ba (ba (ba (ba (ba (ba (ba (ba (ba (ba (ba (ba (ba (ba (ba (ba (ba (ba (ba (ba (ba E.c.x).2).2).2).2).2).2).2).2).2).2).2).2).2).2).2).2).2).2).2).2).1)
abbrev N_BadEdit___init__ : List Str := ["self", "index"]
theorem sc_BadEdit___init__ : FnScope N_BadEdit___init__ ["self", "index"] (defScope s_BadEdit___init__) := ⟨rfl, rfl, rfl, by decide +kernel, rfl, by decide +kernel, by decide +kernel⟩
theorem i_BadEdit (E : Ctx K mg) : ExI P w K mg base 1 "BadEdit" ["index"] ["self", "index"] (spIni1 K "BadEdit" "index") := by
  obtain ⟨fd, F⟩ := f_BadEdit___init__ E
  refine ⟨g_BadEdit E, x_BadEdit E, fd, ?_, F.bindsN fun _ _ _ _ _ _ us hl => match us, hl with | [_, _], _ => rfl⟩
  refine F.ok sc_BadEdit___init__ (fun vs H Q E h => ?_) (fun cdv A outer s H vs Q E' hr h => ⟨_, PSs.nox (pss_one (ps_ost (pv 0) (pv 1))), ?_⟩)
  · obtain ⟨a, v, rfl, _⟩ := h
    rfl
  · obtain ⟨a, v, rfl, ha, q⟩ := h
    exact ⟨_, rfl, _, rfl, a, ga K "BadEdit", rfl, (x_BadEdit E).o, (x_BadEdit E).n _ (by decide), .inl ⟨ha, fun d hd ne => q d hd ne⟩⟩
theorem x_BadGoal (E : Ctx K mg) : ExcT K "BadGoal" ["index"] := excB_ok ((ba (ba (ba (ba (ba (ba (ba (ba (ba (ba (ba (ba (ba (ba (ba (ba (ba (ba (ba (ba (ba (ba E.c.x).2).2).2).2).2).2).2).2).2).2).2).2).2).2).2).2).2).2).2).2).2).1)
abbrev N_BadGoal___init__ : List Str := ["self", "index"]
theorem sc_BadGoal___init__ : FnScope N_BadGoal___init__ ["self", "index"] (defScope s_BadGoal___init__) := ⟨rfl, rfl, rfl, by decide +kernel, rfl, by decide +kernel, by decide +kernel⟩
theorem i_BadGoal (E : Ctx K mg) : ExI P w K mg base 1 "BadGoal" ["index"] ["self", "index"] (spIni1 K "BadGoal" "index") := by
  obtain ⟨fd, F⟩ := f_BadGoal___init__ E
  refine ⟨g_BadGoal E, x_BadGoal E, fd, ?_, F.bindsN fun _ _ _ _ _ _ us hl => match us, hl with | [_, _], _ => rfl⟩
  refine F.ok sc_BadGoal___init__ (fun vs H Q E h => ?_) (fun cdv A outer s H vs Q E' hr h => ⟨_, PSs.nox (pss_one (ps_ost (pv 0) (pv 1))), ?_⟩)
  · obtain ⟨a, v, rfl, _⟩ := h
    rfl
  · obtain ⟨a, v, rfl, ha, q⟩ := h
    exact ⟨_, rfl, _, rfl, a, ga K "BadGoal", rfl, (x_BadGoal E).o, (x_BadGoal E).n _ (by decide), .inl ⟨ha, fun d hd ne => q d hd ne⟩⟩
theorem x_Held (E : Ctx K mg) : ExcT K "Held" ["index", "heap"] := excB_ok ((ba (ba (ba (ba (ba (ba (ba (ba (ba (ba (ba (ba (ba (ba (ba (ba (ba (ba (ba (ba (ba (ba E.c.x).2).2).2).2).2).2).2).2).2).2).2).2).2).2).2).2).2).2).2).2).2).2)
abbrev N_Held___init__ : List Str := ["self", "index", "heap"]
theorem sc_Held___init__ : FnScope N_Held___init__ ["self", "index", "heap"] (defScope s_Held___init__) := ⟨rfl, rfl, rfl, by decide +kernel, rfl, by decide +kernel, by decide +kernel⟩
theorem i_Held (E : Ctx K mg) : ExI P w K mg base 1 "Held" ["index", "heap"] ["self", "index", "heap"] (spIni2 K "Held" "index" "heap") := by
  obtain ⟨fd, F⟩ := f_Held___init__ E
  refine ⟨g_Held E, x_Held E, fd, ?_, F.bindsN fun _ _ _ _ _ _ us hl => match us, hl with | [_, _, _], _ => rfl⟩
  refine F.ok sc_Held___init__ (fun vs H Q E h => ?_) (fun cdv A outer s H vs Q E' hr h => ⟨_, PSs.nox (pss_cons (ps_ost (pv 0) (pv 1)) (pss_one (ps_ost (pv 0) (pv 2)))), ?_⟩)
  · obtain ⟨a, v, w', rfl, _⟩ := h
    rfl
  · obtain ⟨a, v, w', rfl, ha, q⟩ := h
    refine ⟨_, rfl, _, rfl, a, ga K "Held", rfl, (x_Held E).o, (x_Held E).n _ (by decide), .inl ⟨ha, fun d hd ne => ?_⟩⟩
    exact ⟨_, rfl, _, rfl, a, ga K "Held", rfl, (x_Held E).o, (x_Held E).n _ (by decide), .inr ⟨d, _, upd_same, (by rw [upd_ne ne]; exact upd_same), (by show 1 ≤ 900; decide), q d hd ne⟩⟩
end
abbrev N__law_mix : List Str := ["_law_number", "_law_turn", "_law_once", "_law_twice"]
theorem sc__law_mix : FnScope N__law_mix ["_law_number", "_law_turn"] (defScope s__law_mix) := ⟨rfl, rfl, rfl, by decide +kernel, rfl, by decide +kernel, by decide +kernel⟩
abbrev N__law_hand : List Str := ["_law_script", "_law_total", "_law_at", "_law_cell"]
theorem sc__law_hand : FnScope N__law_hand ["_law_script"] (defScope s__law_hand) := ⟨rfl, rfl, rfl, by decide +kernel, rfl, by decide +kernel, by decide +kernel⟩
abbrev N__law_draw : List Str := ["_law_hand_here", "_law_many", "_law_cell", "_law_rest"]
theorem sc__law_draw : FnScope N__law_draw ["_law_hand_here", "_law_many"] (defScope s__law_draw) := ⟨rfl, rfl, rfl, by decide +kernel, rfl, by decide +kernel, by decide +kernel⟩
abbrev N__law_plain : List Str := ["_law_one", "_law_two", "_law_word", "_law_made", "_law_rows", "_law_error"]
theorem sc__law_plain : FnScope N__law_plain ["_law_one", "_law_two", "_law_word"] (defScope s__law_plain) := ⟨rfl, rfl, rfl, by decide +kernel, rfl, by decide +kernel, by decide +kernel⟩
abbrev N__law_two_told : List Str := ["_law_one", "_law_two", "_law_word", "_law_rows", "_law_error"]
theorem sc__law_two_told : FnScope N__law_two_told ["_law_one", "_law_two", "_law_word"] (defScope s__law_two_told) := ⟨rfl, rfl, rfl, by decide +kernel, rfl, by decide +kernel, by decide +kernel⟩
abbrev N__law_first_names : List Str := ["_law_error"]
theorem sc__law_first_names : FnScope N__law_first_names ["_law_error"] (defScope s__law_first_names) := ⟨rfl, rfl, rfl, by decide +kernel, rfl, by decide +kernel, by decide +kernel⟩
abbrev N_law : List Str := ["_law_script", "_law_hand_here", "_law_one", "_law_two", "_law_word", "_law_rows", "_law_at", "_law_row", "_law_k"]
theorem sc_law : FnScope N_law ["_law_script"] (defScope s_law) := ⟨rfl, rfl, rfl, by decide +kernel, rfl, by decide +kernel, by decide +kernel⟩
end Lw

set_option Elab.async false
set_option linter.all false
set_option maxRecDepth 100000
set_option maxHeartbeats 4000000
namespace Lw
open PySem PySem.Spec PyProof.Rows L2 He Evl StX
local macro_rules | `(tactic| walk_at "rd") => `(tactic| (repeat first
  | with_reducible refine rd_seq ?_
  | with_reducible refine rd_asg ?_
  | with_reducible refine rd_ret ?_
  | with_reducible refine rd_next ?_
  | with_reducible refine rd_drop ?_
  | with_reducible refine rd_if ?_
  | with_reducible refine rd_ifE ?_
  | ((with_reducible refine' rd_var ?hv ?_); (case hv => rfl))
  | with_reducible refine rd_c ?_
  | with_reducible refine rd_op ?_
  | with_reducible refine rd_chain ?_
  | with_reducible refine rd_I0 ?_
  | with_reducible refine rd_test ?_
  | with_reducible refine rd_B ?_
  | with_reducible refine rd_bl ?_
  | with_reducible refine rd_not ?_
  | with_reducible refine rd_and ?_
  | with_reducible refine rd_or ?_
  | with_reducible refine rd_andV ?_
  | with_reducible refine rd_orV ?_
  | with_reducible refine rd_notV ?_
  | with_reducible refine rd_cons ?_
  | with_reducible refine rd_nil ?_
  | with_reducible refine rd_CB ?_
  | with_reducible refine rd_callS ?_
  | with_reducible refine rd_raise0 ?_
  | with_reducible refine rd_raise1 ?_
  | with_reducible refine rd_raise2 ?_
  | ((with_reducible refine' rd_eq ?hs ?_); (case hs => rfl))
  | ((with_reducible refine' rd_ne ?hs ?_); (case hs => rfl))
  | ((with_reducible refine' rd_isT ?th ?hT ?_); (case th => assumption); (case hT => decide))
  | with_reducible refine rd_tup ?_
  | with_reducible refine rd_lst ?_
  | with_reducible refine rd_iEnum ?_
  | with_reducible refine rd_iEnumA ?_
  | ((with_reducible refine' rd_ixl ?hl ?hk ?_); (case hl => assumption); (case hk => rfl))
  | with_reducible refine rd_int1 ?_
  | with_reducible refine rd_sub ?_
  | with_reducible refine rd_gcons ?_
  | with_reducible refine rd_gnil ?_
  | with_reducible refine rd_iZip ?_
  | with_reducible refine rd_BM ?_
  | with_reducible refine rd_neg ?_
  | ((with_reducible refine' rd_last ?hl ?_); (case hl => assumption))
  | with_reducible refine rd_lc2 ?_
  | with_reducible refine rd_Rg1 ?_
  | with_reducible refine rd_tupRg ?_
  | with_reducible refine rd_sl ?_
  | with_reducible refine rd_noPart ?_
  | with_reducible refine rd_part ?_
  | with_reducible refine rd_for ?_
  | with_reducible refine rd_iRev ?_
  | with_reducible refine rd_gname ?_
  | with_reducible refine rd_NN ?_
  | with_reducible refine rd_NL ?_
  | with_reducible refine rd_LN ?_
  | ((with_reducible refine' rd_shl1 ?hs ?_); (case hs => omega))
  | ((with_reducible refine' rd_I ?hs ?_); (case hs => first | omega | decide | exact ⟨by decide, by decide, by decide⟩ | exact ⟨by omega, by omega⟩))
  | with_reducible refine rd_tr ?_
  | with_reducible refine rd_trI ?_
  | with_reducible refine rd_star ?_
  | with_reducible refine rd_fmtB ?_
  | with_reducible refine rd_M1 ?_
  | with_reducible refine rd_un ?_
  | with_reducible refine rd_lc ?_
  | with_reducible refine rd_iT ?_
  | with_reducible refine rd_iL ?_
  | with_reducible refine rd_iR1 ?_
  | with_reducible refine rd_iR2 ?_
  | dsimp only [List.set, start]))
section
variable {P : Program} {w : World} {K : PySem.W.Frag} {mg : Str → Option Value} {base : Heap}

def spMix : Sp := fun vs H Q _ => ∃ a b : Int, vs = [.int a, .int b] ∧ (0 ≤ a ∧ a < 2147483648) ∧ (0 ≤ b ∧ b < 1024) ∧ ∀ r : Int, 0 ≤ r → r < 2147483648 → Q (.int r) H
theorem h__law_mix (E : Ctx K mg) : Has P w K mg base 2 "_law_mix" ["_law_number", "_law_turn"] (spMix) := by
  obtain ⟨fd, F⟩ := f__law_mix E
  refine ⟨⟨fd, ?_, F.bindsN fun _ _ _ _ _ _ us hl => match us, hl with | [_, _], _ => rfl⟩, g__law_mix E, F.kp⟩
  refine F.ok sc__law_mix (fun vs H Q E' h => ?len) (fun cdv A outer s H vs Q E' hr h => ⟨_, (pss_cons (ps_set (i := 2) sc__law_mix.nd rfl (.inl rfl) (pe_op op_modN (pe_callTy call_int1 rfl (b_int E) (by decide +kernel) (pa_cons (pe_op op_add (pe_op op_add (pe_op op_mulX (pv 0) pe_int) (pe_op op_mulX (pv 1) pe_int)) pe_int) pa_nil)) pe_int))
 (pss_cons (ps_set (i := 3) sc__law_mix.nd rfl (.inl rfl) (pe_op op_modN (pe_callTy call_int1 rfl (b_int E) (by decide +kernel) (pa_cons (pe_op op_add (pe_op op_add (pe_op op_mulX (pv 2) (pv 2)) (pe_op op_mulX (pe_op op_fdivW (pv 2) pe_int) pe_int)) (pe_op op_mulX (pv 1) pe_int)) pa_nil)) pe_int))
 (pss_one (ps_ret (pe_op op_fdivW (pe_op op_modN (pe_callTy call_int1 rfl (b_int E) (by decide +kernel) (pa_cons (pe_op op_add (pe_op op_fdivW (pe_op op_mulX (pv 3) (pv 3)) pe_int) (pv 2)) pa_nil)) pe_int) pe_int))))), ?rd⟩)
  case len =>
    obtain ⟨a, b, rfl, _⟩ := h
    rfl
  case rd =>
    obtain ⟨a, b, rfl, ⟨ha, ha2⟩, ⟨hb, hb2⟩, q⟩ := h
    walk_at "rd"
    refine rd_I (mulx_ok (a := 31) (b := 16) (by omega) (by decide) (by decide)) ?_
    walk_at "rd"
    refine rd_I (mulx_ok (a := 10) (b := 16) (by omega) (by decide) (by decide)) ?_
    walk_at "rd"
    obtain ⟨o1, o2⟩ := fmod_bd (a * 48271 + b * 30269 + 101) (j := 2147483647) (by decide)
    generalize (a * 48271 + b * 30269 + 101).fmod 2147483647 = x at o1 o2 ⊢
    refine rd_I (mulx_ok (a := 31) (b := 31) (by omega) (by omega) (by decide)) ?_
    walk_at "rd"
    refine rd_I (wide_div (b := 8) (by decide) (by decide) (by decide) (by decide)) ?_
    walk_at "rd"
    obtain ⟨d1, d2⟩ := div_bd o1 (j := 211) (by decide)
    generalize x / 211 = y at d1 d2 ⊢
    refine rd_I (mulx_ok (a := 31) (b := 17) (by omega) (by decide) (by decide)) ?_
    walk_at "rd"
    refine rd_I (mulx_ok (a := 10) (b := 13) (by omega) (by decide) (by decide)) ?_
    walk_at "rd"
    obtain ⟨p1, p2⟩ := fmod_bd (x * x + y * 69621 + b * 7919) (j := 2147483629) (by decide)
    generalize (x * x + y * 69621 + b * 7919).fmod 2147483629 = z at p1 p2 ⊢
    refine rd_I (mulx_ok (a := 31) (b := 31) (by omega) (by omega) (by decide)) ?_
    walk_at "rd"
    refine rd_I (wide_div (b := 11) (by decide) (by decide) (by decide) (by decide)) ?_
    walk_at "rd"
    obtain ⟨e1, e2⟩ := fmod_bd (z * z / 2003 + x) (j := 2147483587) (by decide)
    generalize (z * z / 2003 + x).fmod 2147483587 = u at e1 e2 ⊢
    refine rd_I (wide_div (b := 4) (by decide) (by decide) (by decide) (by decide)) ?_
    obtain ⟨f1, f2⟩ := div_bd e1 (j := 8) (by decide)
    exact q _ f1 (by omega)
/-- the hand of draws at h, its cells at c -/
def HandC (c : Addr) (H : Hp) (h : Addr) : Prop := ∃ (cells : List Int) (i : Nat) (r t : Int), H h = some (.lst [.ref c, .int (i : Int), .int r, .int t]) ∧ H c = some (.lst (cells.map V.int)) ∧ c ≠ h ∧
  (∀ z ∈ cells, 0 ≤ z ∧ bits z ≤ 1048576) ∧ i ≤ cells.length ∧ cells.length ≤ 63 ∧ 0 ≤ r ∧ bits r ≤ 1048576 ∧ 0 ≤ t ∧ t < 2147483629
theorem HandC.mk {H : Hp} {h c : Addr} {cells : List Int} {i : Nat} {r t : Int} (h1 : H h = some (.lst [.ref c, .int (i : Int), .int r, .int t])) (h2 : H c = some (.lst (cells.map V.int))) (h3 : c ≠ h) (h4 : ∀ z ∈ cells, 0 ≤ z ∧ bits z ≤ 1048576) (h5 : i ≤ cells.length) (h6 : cells.length ≤ 63)
  (h7 : 0 ≤ r) (h8 : bits r ≤ 1048576) (h9 : 0 ≤ t) (h10 : t < 2147483629) : HandC c H h := ⟨cells, i, r, t, h1, h2, h3, h4, h5, h6, h7, h8, h9, h10⟩
theorem HandC.ex {H H' : Hp} {h c : Addr} (e : Ex H H') (x : HandC c H h) : HandC c H' h := by
  obtain ⟨cells, i, r, t, h1, h2, rest⟩ := x
  exact ⟨cells, i, r, t, e _ _ h1, e _ _ h2, rest⟩
theorem HandC.set {H : Hp} {h c p : Addr} {o : HO} (x : HandC c H h) (n1 : p ≠ h) (n2 : p ≠ c) : HandC c (upd H p o) h := by
  obtain ⟨cells, i, r, t, h1, h2, rest⟩ := x
  exact ⟨cells, i, r, t, by rw [upd_ne (Ne.symm n1)]; exact h1, by rw [upd_ne (Ne.symm n2)]; exact h2, rest⟩
theorem HandC.away {H : Hp} {h c p : Addr} (x : HandC c H h) (hp : H p = none) : p ≠ h ∧ p ≠ c := by
  obtain ⟨cells, i, r, t, h1, h2, rest⟩ := x
  exact ⟨fun e => (by rw [e, h1] at hp; cases hp), fun e => (by rw [e, h2] at hp; cases hp)⟩
def spDraw (K : PySem.W.Frag) : Sp := fun vs H Q _ => ∃ (h c : Addr) (m : Int), vs = [.ref h, .int m] ∧ HandC c H h ∧ (0 < m ∧ m < 2 ^ 200) ∧ ∀ (r : Nat) (H' : Hp), (r : Int) < m → Dh h H H' → HandC c H' h → Q (.int (r : Int)) H'
theorem h__law_draw (E : Ctx K mg) : Has P w K mg base 3 "_law_draw" ["_law_hand_here", "_law_many"] (spDraw K) := by
  obtain ⟨fd, F⟩ := f__law_draw E
  refine ⟨⟨fd, ?_, F.bindsN fun _ _ _ _ _ _ us hl => match us, hl with | [_, _], _ => rfl⟩, g__law_draw E, F.kp⟩
  refine F.ok sc__law_draw (fun vs H Q E' h => ?len) (fun cdv A outer s H vs Q E' hr h => ⟨_, (pss_cons (ps_if (PW.pt (pw_and (pt_cmpR op_eq (pe_ix (kx_list (K := K) rfl) (pv 0) pe_int (fun _ _ => rfl)) pe_int (nomark _)) (pw_and1 (pt_cmpR op_lt (pe_ix (kx_list (K := K) rfl) (pv 0) pe_int (fun _ _ => rfl)) (pe_callB (kc_len (K := K) rfl) rfl (b_len E) (by decide +kernel) (pa_cons (pe_ix (kx_list (K := K) rfl) (pv 0) pe_int (fun _ _ => rfl)) pa_nil)) (nomark _)))))
 (pss_cons (ps_set (i := 2) sc__law_draw.nd rfl (.inl rfl) (pe_ix (kx_list (K := K) rfl) (pe_ix (kx_list (K := K) rfl) (pv 0) pe_int (fun _ _ => rfl)) (pe_ix (kx_list (K := K) rfl) (pv 0) pe_int (fun _ _ => rfl)) (fun _ _ => rfl)))
 (pss_cons (ps_asg (pe_op op_add (pe_ix (kx_list (K := K) rfl) (pv 0) pe_int (fun _ _ => rfl)) pe_int) (pg_sub (pv 0) pe_int set_list))
 (pss_cons (ps_if (pt_cmpR op_lt (pv 2) (pe_op op_pow pe_int pe_int) (nomark _))
 (pss_one (ps_ret (pe_op op_modN (pe_callTy call_int1 rfl (b_int E) (by decide +kernel) (pa_cons (pe_H (h__law_mix E) (hr.mono (by decide)) (takes_of rfl rfl rfl rfl) (pa_cons (pe_op op_modN (pe_callTy call_int1 rfl (b_int E) (by decide +kernel) (pa_cons (pv 2) pa_nil)) pe_int) (pa_cons (pe_ix (kx_list (K := K) rfl) (pv 0) pe_int (fun _ _ => rfl)) pa_nil))) pa_nil)) (pv 1))))
 pss_nil)
 (pss_one (ps_asg (pv 2) (pg_sub (pv 0) pe_int set_list))))))
 pss_nil)
 (pss_cons (ps_if (pt_cmpR op_gt (pe_ix (kx_list (K := K) rfl) (pv 0) pe_int (fun _ _ => rfl)) pe_int (nomark _))
 (pss_cons (ps_set (i := 3) sc__law_draw.nd rfl (.inl rfl) (pe_ix (kx_list (K := K) rfl) (pv 0) pe_int (fun _ _ => rfl)))
 (pss_cons (ps_asg (pe_op op_fdivW (pv 3) (pv 1)) (pg_sub (pv 0) pe_int set_list))
 (pss_one (ps_ret (pe_op op_modN (pe_callTy call_int1 rfl (b_int E) (by decide +kernel) (pa_cons (pv 3) pa_nil)) (pv 1))))))
 pss_nil)
 (pss_cons (ps_asg (pe_op op_modN (pe_callTy call_int1 rfl (b_int E) (by decide +kernel) (pa_cons (pe_op op_add (pe_ix (kx_list (K := K) rfl) (pv 0) pe_int (fun _ _ => rfl)) pe_int) pa_nil)) pe_int) (pg_sub (pv 0) pe_int set_list))
 (pss_one (ps_ret (pe_op op_modN (pe_callTy call_int1 rfl (b_int E) (by decide +kernel) (pa_cons (pe_H (h__law_mix E) (hr.mono (by decide)) (takes_of rfl rfl rfl rfl) (pa_cons (pe_ix (kx_list (K := K) rfl) (pv 0) pe_int (fun _ _ => rfl)) (pa_cons (pe_ix (kx_list (K := K) rfl) (pv 0) pe_int (fun _ _ => rfl)) pa_nil))) pa_nil)) (pv 1))))))), ?rd⟩)
  case len =>
    obtain ⟨h0, c, m, rfl, _⟩ := h
    rfl
  case rd =>
    obtain ⟨h0, c, m, rfl, ⟨cells, i, r, t, hh, hc, hne, hz, hi, hl, hr0, hrb, ht0, ht1⟩, ⟨hm0, hm1⟩, q⟩ := h
    have fin : ∀ (x : Int) (H' : Hp), Dh h0 H H' → HandC c H' h0 → Q (.int (x.fmod m)) H' := fun x H' d hd => by
      obtain ⟨f1, f2⟩ := fmod_bd x hm0
      have e : x.fmod m = ((x.fmod m).toNat : Int) := by omega
      rw [e]
      exact q _ H' (by omega) d hd
    have hcl : (cells.map V.int).length = cells.length := by simp
    refine rd_mid (fun σ H' => ∃ (v1 v2 : Option V) (i' : Nat) (r' : Int), σ = [some (.ref h0), some (.int m), v1, v2] ∧ Dh h0 H H' ∧ H' h0 = some (.lst [.ref c, .int (i' : Int), .int r', .int t]) ∧ H' c = some (.lst (cells.map V.int)) ∧ i' ≤ cells.length ∧ 0 ≤ r' ∧ bits r' ≤ 1048576) (fun N hN => ?_) ?_
    · walk_at "rd"
      have stay : N (L2.start N__law_draw [V.ref h0, V.int m]) H := hN _ _ ⟨none, none, i, r, rfl, Dh.refl _ _, hh, hc, hi, hr0, hrb⟩
      refine ⟨fun z => ?_, fun z => ⟨(fun z => nomatch z), fun _ => stay⟩⟩
      walk_at "rd"
      refine ⟨c, _, rfl, .inl (sq_of hc), ?_⟩
      walk_at "rd"
      refine ⟨fun z2 => ?_, fun z2 => stay⟩
      have hi2 : i < cells.length := by
        have := of_decide_eq_true z2
        rw [hcl] at this
        omega
      walk_at "rd"
      have hx : (cells.map V.int)[i]? = some (.int cells[i]) := by
        rw [List.getElem?_map, List.getElem?_eq_getElem hi2]
        rfl
      obtain ⟨x0, xb⟩ := hz cells[i] (List.getElem_mem hi2)
      refine rd_ix (sq_of hc) hx ?_
      walk_at "rd"
      refine rd_setH (k := 1) hh (by show 1 < 4; omega) ?_
      have e1 : ((i : Nat) : Int) + 1 = ((i + 1 : Nat) : Int) := by omega
      rw [e1]
      have hh1 : upd H h0 (.lst ([V.ref c, V.int (i : Int), V.int r, V.int t].set 1 (V.int ((i + 1 : Nat) : Int)))) h0 = some (.lst [.ref c, .int ((i + 1 : Nat) : Int), .int r, .int t]) := upd_same
      have hc1 : upd H h0 (.lst ([V.ref c, V.int (i : Int), V.int r, V.int t].set 1 (V.int ((i + 1 : Nat) : Int)))) c = some (.lst (cells.map V.int)) := by rw [upd_ne hne]; exact hc
      have d1 : Dh h0 H (upd H h0 (.lst ([V.ref c, V.int (i : Int), V.int r, V.int t].set 1 (V.int ((i + 1 : Nat) : Int))))) := Dh.upd
      generalize upd H h0 (.lst ([V.ref c, V.int (i : Int), V.int r, V.int t].set 1 (V.int ((i + 1 : Nat) : Int)))) = H1 at hh1 hc1 d1 ⊢
      walk_at "rd"
      refine ⟨fun z3 => ?_, fun z3 => ?_⟩
      · walk_at "rd"
        obtain ⟨f1, f2⟩ := fmod_bd cells[i] (j := 2147483647) (by decide)
        refine ⟨_, _, rfl, ⟨f1, by omega⟩, ⟨by omega, by omega⟩, fun u u0 u1 => ?_⟩
        walk_at "rd"
        exact fin u H1 d1 (HandC.mk hh1 hc1 hne hz (by omega) hl hr0 hrb ht0 ht1)
      · walk_at "rd"
        refine rd_setH (k := 2) hh1 (by show 2 < 4; omega) ?_
        refine hN _ _ ⟨_, none, i + 1, cells[i], rfl, d1.trans Dh.upd, upd_same, by rw [upd_ne hne]; exact hc1, by omega, x0, xb⟩
    · rintro σ H1 ⟨v1, v2, i', r', rfl, d1, hh1, hc1, hi', hr', hrb'⟩
      walk_at "rd"
      refine ⟨fun z => ?_, fun z => ?_⟩
      · walk_at "rd"
        refine rd_I (wide_div (b := 200) hm0 (by omega) (by decide) (by decide)) ?_
        walk_at "rd"
        obtain ⟨q0, q1⟩ := div_bd hr' hm0
        refine rd_setH (k := 2) hh1 (by show 2 < 4; omega) ?_
        walk_at "rd"
        exact fin r' _ (d1.trans Dh.upd) (HandC.mk upd_same (by rw [upd_ne hne]; exact hc1) hne hz hi' hl q0 (Nat.le_trans (bits_mono q0 q1) hrb') ht0 ht1)
      · walk_at "rd"
        obtain ⟨f1, f2⟩ := fmod_bd (t + 1) (j := 2147483629) (by decide)
        refine rd_setH (k := 3) hh1 (by show 3 < 4; omega) ?_
        have hh2 : upd H1 h0 (.lst ([V.ref c, V.int (i' : Int), V.int r', V.int t].set 3 (V.int ((t + 1).fmod 2147483629)))) h0 = some (.lst [.ref c, .int (i' : Int), .int r', .int ((t + 1).fmod 2147483629)]) := upd_same
        have hc2 : upd H1 h0 (.lst ([V.ref c, V.int (i' : Int), V.int r', V.int t].set 3 (V.int ((t + 1).fmod 2147483629)))) c = some (.lst (cells.map V.int)) := by rw [upd_ne hne]; exact hc1
        have d2 : Dh h0 H (upd H1 h0 (.lst ([V.ref c, V.int (i' : Int), V.int r', V.int t].set 3 (V.int ((t + 1).fmod 2147483629))))) := d1.trans Dh.upd
        generalize upd H1 h0 (.lst ([V.ref c, V.int (i' : Int), V.int r', V.int t].set 3 (V.int ((t + 1).fmod 2147483629)))) = H2 at hh2 hc2 d2 ⊢
        walk_at "rd"
        refine ⟨_, _, rfl, ⟨f1, by omega⟩, ⟨by omega, by omega⟩, fun u u0 u1 => ?_⟩
        walk_at "rd"
        exact fin u H2 d2 (HandC.mk hh2 hc2 hne hz hi' hl hr' hrb' f1 f2)
def spHand (K : PySem.W.Frag) : Sp := fun vs H Q _ => ∃ (a : Addr) (ns : List Int), vs = [.ref a] ∧ SqL K H a (ns.map V.int) ∧ ns.length ≤ 63 ∧ (∀ z ∈ ns, bits z ≤ 1048576) ∧ ∀ (h c : Addr) (H' : Hp), H h = none → Ex H H' → HandC c H' h → Q (.ref h) H'
theorem h__law_hand (E : Ctx K mg) : Has P w K mg base 2 "_law_hand" ["_law_script"] (spHand K) := by
  obtain ⟨fd, F⟩ := f__law_hand E
  refine ⟨⟨fd, ?_, F.bindsN fun _ _ _ _ _ _ us hl => match us, hl with | [_], _ => rfl⟩, g__law_hand E, F.kp⟩
  refine F.ok sc__law_hand (fun vs H Q E' h => ?len) (fun cdv A outer s H vs Q E' hr h => ⟨_, (pss_cons (ps_set (i := 1) sc__law_hand.nd rfl (.inl rfl) pe_int)
 (pss_cons (ps_for (passes_of rfl) rfl (pi_enum rfl (b_enumerate E) (pa_cons (pv 0) pa_nil)) (pg_tup rfl (pgs_cons (pg_name (i := 2) sc__law_hand.nd rfl (.inl rfl)) (pgs_cons (pg_name (i := 3) sc__law_hand.nd rfl (.inl rfl)) pgs_nil)))
 (pss_one (ps_set (i := 1) sc__law_hand.nd rfl (.inl rfl) (pe_op op_modN (pe_callTy call_int1 rfl (b_int E) (by decide +kernel) (pa_cons (pe_op op_add (pe_op op_mulX (pv 1) pe_int) (pe_op op_mulX (pe_callTy call_int1 rfl (b_int E) (by decide +kernel) (pa_cons (pv 3) pa_nil)) (pe_op op_add (pe_op op_mulX pe_int (pv 2)) pe_int))) pa_nil)) pe_int))))
 (pss_one (ps_ret (pe_lst (pa_cons (pe_lc (own := [("_law_cell", 3)]) (g := gName 3) (tt := tYes) rfl sc__law_hand.nd (ki_list (K := K) rfl (pv 0)) (blkOk_by (own := [("_law_cell", 3)]) (N := N__law_hand) (sc := defScope s__law_hand) (by decide +kernel)) (fun _ _ _ _ _ => (pg_name (i := 3) sc__law_hand.nd rfl (.inl rfl))) (fun _ _ _ _ _ => pts_nil) (fun _ _ _ _ _ => (pe_callB call_abs rfl (b_abs E) (by decide +kernel) (pa_cons (pe_callTy call_int1 rfl (b_int E) (by decide +kernel) (pa_cons (pv 3) pa_nil)) pa_nil)))) (pa_cons pe_int (pa_cons pe_int (pa_cons (pv 1) pa_nil))))))))), ?rd⟩)
  case len =>
    obtain ⟨a, ns, rfl, _⟩ := h
    rfl
  case rd =>
    obtain ⟨a, ns, rfl, hs, hl, hb, q⟩ := h
    have hcl : (ns.map V.int).length = ns.length := by simp
    have item : ∀ {i : Nat} {x : V}, (ns.map V.int)[i]? = some x → ∃ z, z ∈ ns ∧ ns[i]? = some z ∧ x = .int z := fun {i x} hx => by
      rw [List.getElem?_map] at hx
      cases e : ns[i]? with
      | none => rw [e] at hx; cases hx
      | some z => rw [e] at hx; exact ⟨z, List.mem_of_getElem? e, rfl, (Option.some.inj hx).symm⟩
    walk_at "rd"
    refine ⟨a, _, rfl, hs, for_it walk_enum (fun i σ H' => ∃ (t : Int) (v2 v3 : Option V), σ = [some (.ref a), some (.int t), v2, v3] ∧ Ex H H' ∧ 0 ≤ t ∧ t < 2147483629) ⟨17, none, none, rfl, Ex.refl H, by decide, by decide⟩ (fun i σ H' _ ⟨_, _, _, _, e, _⟩ => ex_l e hs) ?_ ?_⟩
    · rintro i x σ H1 H2 hi ⟨t, v2, v3, rfl, e1, t0, t1⟩ ⟨T, p, y, rfl, hT, rfl, hp, hy⟩
      obtain rfl : V.int ((i : Nat) : Int) = p := Option.some.inj hp
      obtain ⟨z, hz, _, rfl⟩ := item hy
      refine ⟨T, _, rfl, st_of upd_same, rfl, ?_⟩
      walk_at "rd"
      refine rd_I (mulx_ok (a := 31) (b := 6) (by omega) (by decide) (by decide)) ?_
      walk_at "rd"
      refine rd_I (mulx_ok (a := 2) (b := 20) (by decide) (by rw [hcl] at hi; omega) (by decide)) ?_
      walk_at "rd"
      refine rd_I (mulx_bits (a := 1048576) (b := 20) (hb z hz) (bits_le (by rw [hcl] at hi; omega)) (by decide)) ?_
      walk_at "rd"
      obtain ⟨f1, f2⟩ := fmod_bd (t * 37 + z * (2 * ((i : Nat) : Int) + 3)) (j := 2147483629) (by decide)
      exact ⟨_, _, _, rfl, e1.trans (Ex.new hT), f1, f2⟩
    · rintro σ H1 ⟨t, v2, v3, rfl, e1, t0, t1⟩
      walk_at "rd"
      refine ⟨a, rfl, ⟨_, ex_l e1 hs⟩, lc_lstT (fun _ => true) (fun i => .int (if ns.getD i 0 < 0 then -(ns.getD i 0) else ns.getD i 0)) (ex_l e1 hs) (by rw [hcl]; omega) (fun _ => rfl) (fun i x H2 e2 hx H3 e3 R q => q _ (Ex.refl _)) (fun i x H2 e2 hx hf H3 e3 R q => ?_) fun c H2 hc e2 h2 => ?_⟩
      · obtain ⟨z, hz, hz2, rfl⟩ := item hx
        walk_at "rd"
        refine rd_ex1 ?_
        have q2 := q _ (Ex.refl _)
        rw [List.getD_eq_getElem?_getD, hz2] at q2
        exact q2
      · walk_at "rd"
        refine ⟨by show 4 ≤ sizeLine; decide, fun h0 hh0 => ?_⟩
        have ec : given (ns.map V.int).length (fun _ => true) (fun i => V.int (if ns.getD i 0 < 0 then -(ns.getD i 0) else ns.getD i 0)) = (ns.map fun z => if z < 0 then -z else z).map V.int := by
          rw [hcl, given_map]
          refine List.ext_getElem (by simp) fun i h1 h2 => ?_
          simp only [List.getElem_map, List.getElem_range]
          rw [List.getD_eq_getElem?_getD, List.getElem?_eq_getElem (by simpa using h2)]
          rfl
        rw [ec] at h2
        have ne : c ≠ h0 := ne_of_none h2 hh0
        refine q h0 c _ (fresh_back (e1.trans e2) hh0) ((e1.trans e2).trans (Ex.new hh0)) (HandC.mk (i := 0) upd_same (by rw [upd_ne ne]; exact h2) ne (fun z hz => ?_) (Nat.zero_le _) (by rw [List.length_map]; exact hl) (Int.le_refl 0) (by decide) t0 t1)
        obtain ⟨y, hy, rfl⟩ := List.mem_map.mp hz
        refine ⟨by split <;> omega, ?_⟩
        rw [bits_abs]
        exact hb y hy

end
end Lw

set_option Elab.async false
set_option linter.all false
set_option maxRecDepth 100000
set_option maxHeartbeats 4000000
namespace Lw
open PySem PySem.Spec PyProof.Rows L2 He Evl StX
local macro_rules | `(tactic| walk_at "rd") => `(tactic| (repeat first
  | with_reducible refine rd_seq ?_
  | with_reducible refine rd_asg ?_
  | with_reducible refine rd_ret ?_
  | with_reducible refine rd_next ?_
  | with_reducible refine rd_drop ?_
  | with_reducible refine rd_if ?_
  | with_reducible refine rd_ifE ?_
  | ((with_reducible refine' rd_var ?hv ?_); (case hv => rfl))
  | with_reducible refine rd_c ?_
  | with_reducible refine rd_op ?_
  | with_reducible refine rd_chain ?_
  | with_reducible refine rd_I0 ?_
  | with_reducible refine rd_test ?_
  | with_reducible refine rd_B ?_
  | with_reducible refine rd_bl ?_
  | with_reducible refine rd_not ?_
  | with_reducible refine rd_and ?_
  | with_reducible refine rd_or ?_
  | with_reducible refine rd_andV ?_
  | with_reducible refine rd_orV ?_
  | with_reducible refine rd_notV ?_
  | with_reducible refine rd_cons ?_
  | with_reducible refine rd_nil ?_
  | with_reducible refine rd_CB ?_
  | with_reducible refine rd_callS ?_
  | with_reducible refine rd_raise0 ?_
  | with_reducible refine rd_raise1 ?_
  | with_reducible refine rd_raise2 ?_
  | ((with_reducible refine' rd_eq ?hs ?_); (case hs => rfl))
  | ((with_reducible refine' rd_ne ?hs ?_); (case hs => rfl))
  | ((with_reducible refine' rd_isT ?th ?hT ?_); (case th => assumption); (case hT => decide))
  | with_reducible refine rd_tup ?_
  | with_reducible refine rd_lst ?_
  | with_reducible refine rd_iEnum ?_
  | with_reducible refine rd_iEnumA ?_
  | ((with_reducible refine' rd_ixl ?hl ?hk ?_); (case hl => assumption); (case hk => rfl))
  | with_reducible refine rd_int1 ?_
  | with_reducible refine rd_sub ?_
  | with_reducible refine rd_gcons ?_
  | with_reducible refine rd_gnil ?_
  | with_reducible refine rd_iZip ?_
  | with_reducible refine rd_BM ?_
  | with_reducible refine rd_neg ?_
  | ((with_reducible refine' rd_last ?hl ?_); (case hl => assumption))
  | with_reducible refine rd_lc2 ?_
  | with_reducible refine rd_Rg1 ?_
  | with_reducible refine rd_tupRg ?_
  | with_reducible refine rd_sl ?_
  | with_reducible refine rd_noPart ?_
  | with_reducible refine rd_part ?_
  | with_reducible refine rd_for ?_
  | with_reducible refine rd_iRev ?_
  | with_reducible refine rd_gname ?_
  | with_reducible refine rd_NN ?_
  | with_reducible refine rd_NL ?_
  | with_reducible refine rd_LN ?_
  | ((with_reducible refine' rd_shl1 ?hs ?_); (case hs => omega))
  | ((with_reducible refine' rd_I ?hs ?_); (case hs => first | omega | decide | exact ⟨by decide, by decide, by decide⟩ | exact ⟨by omega, by omega⟩))
  | with_reducible refine rd_tr ?_
  | with_reducible refine rd_trI ?_
  | with_reducible refine rd_star ?_
  | with_reducible refine rd_fmtB ?_
  | with_reducible refine rd_M1 ?_
  | with_reducible refine rd_un ?_
  | with_reducible refine rd_lc ?_
  | with_reducible refine rd_iT ?_
  | with_reducible refine rd_iL ?_
  | with_reducible refine rd_iR1 ?_
  | with_reducible refine rd_iR2 ?_
  | dsimp only [List.set, start]))
section
variable {P : Program} {w : World} {K : PySem.W.Frag} {mg : Str → Option Value} {base : Heap}

theorem kits (E : Ctx K mg) {i : Nat} (hi : i < 32) : Kits nm68 K i := kitsB_ok (ba E.c.x).1 hi
def nm (K : PySem.W.Frag) (i : Nat) : Addr := ga K (nm68.getD i Str.empty)
theorem rd_isX {H : Hp} {Q : VK} {a : Addr} {i j : Nat} {c : V} (T : Kits nm68 K i) (h : IsE H a (nm K i)) (hj : j < 32) (hc : c = .ref (nm K j)) (q : Q (.bl (decide (i = j))) H) : rIsX K [.ref a, c] H Q :=
  ⟨a, nm K i, c, .ref (nm K j), _, rfl, h, T.e, fun u r => by rw [hc] at r; exact r, T.k j hj, q⟩
theorem rd_isW {H : Hp} {Q : VK} {a : Addr} {i : Nat} (T : Kits nm68 K i) (h : IsE H a (nm K i)) (q : Q (.bl true) H) : rIsX K [.ref a, .ref (ga K "WordError")] H Q :=
  ⟨a, nm K i, _, .ref (ga K "WordError"), _, rfl, h, T.e, fun u r => r, T.w, q⟩
theorem rd_isV {H : Hp} {Q : VK} {a : Addr} {i : Nat} (T : Kits nm68 K i) (h : IsE H a (nm K i)) (q : Q (.bl true) H) : rIsX K [.ref a, .ty "ValueError"] H Q :=
  ⟨a, nm K i, _, .type "ValueError", _, rfl, h, T.e, fun u r => r, T.v, q⟩
def oneHot (n i : Nat) : List Bool := (List.range n).map fun j => decide (i = j)
def spFirst (K : PySem.W.Frag) : Sp := fun vs H Q _ => ∃ (a : Addr) (i : Nat), vs = [.ref a] ∧ i < 32 ∧ IsE H a (nm K i) ∧ ∀ p H', H p = none → Ex H H' → H' p = some (.lst ((oneHot 32 i).map V.bl)) → Q (.ref p) H'
theorem h__law_first_names (E : Ctx K mg) : Has P w K mg base 2 "_law_first_names" ["_law_error"] (spFirst K) := by
  obtain ⟨fd, F⟩ := f__law_first_names E
  refine ⟨⟨fd, ?_, F.bindsN fun _ _ _ _ _ _ us hl => match us, hl with | [_], _ => rfl⟩, g__law_first_names E, F.kp⟩
  refine F.ok sc__law_first_names (fun vs H Q E' h => ?len) (fun cdv A outer s H vs Q E' hr h => ⟨_, (pss_one (ps_ret (pe_lst (pa_cons (pe_callB (kc_isX (K := K) rfl) rfl (b_isinstance E) (by decide +kernel) (pa_cons (pv 0) (pa_cons (pe_glob rfl (g_BadLetters E) (v := .ref (ga K "BadLetters")) rfl) pa_nil))) (pa_cons (pe_callB (kc_isX (K := K) rfl) rfl (b_isinstance E) (by decide +kernel) (pa_cons (pv 0) (pa_cons (pe_glob rfl (g_BadLetter E) (v := .ref (ga K "BadLetter")) rfl) pa_nil))) (pa_cons (pe_callB (kc_isX (K := K) rfl) rfl (b_isinstance E) (by decide +kernel) (pa_cons (pv 0) (pa_cons (pe_glob rfl (g_BadBit E) (v := .ref (ga K "BadBit")) rfl) pa_nil))) (pa_cons (pe_callB (kc_isX (K := K) rfl) rfl (b_isinstance E) (by decide +kernel) (pa_cons (pv 0) (pa_cons (pe_glob rfl (g_BadOrder E) (v := .ref (ga K "BadOrder")) rfl) pa_nil))) (pa_cons (pe_callB (kc_isX (K := K) rfl) rfl (b_isinstance E) (by decide +kernel) (pa_cons (pv 0) (pa_cons (pe_glob rfl (g_EmptyChoice E) (v := .ref (ga K "EmptyChoice")) rfl) pa_nil))) (pa_cons (pe_callB (kc_isX (K := K) rfl) rfl (b_isinstance E) (by decide +kernel) (pa_cons (pv 0) (pa_cons (pe_glob rfl (g_NotLeast E) (v := .ref (ga K "NotLeast")) rfl) pa_nil))) (pa_cons (pe_callB (kc_isX (K := K) rfl) rfl (b_isinstance E) (by decide +kernel) (pa_cons (pv 0) (pa_cons (pe_glob rfl (g_NoneNear E) (v := .ref (ga K "NoneNear")) rfl) pa_nil))) (pa_cons (pe_callB (kc_isX (K := K) rfl) rfl (b_isinstance E) (by decide +kernel) (pa_cons (pv 0) (pa_cons (pe_glob rfl (g_NotData E) (v := .ref (ga K "NotData")) rfl) pa_nil))) (pa_cons (pe_callB (kc_isX (K := K) rfl) rfl (b_isinstance E) (by decide +kernel) (pa_cons (pv 0) (pa_cons (pe_glob rfl (g_BadMessage E) (v := .ref (ga K "BadMessage")) rfl) pa_nil))) (pa_cons (pe_callB (kc_isX (K := K) rfl) rfl (b_isinstance E) (by decide +kernel) (pa_cons (pv 0) (pa_cons (pe_glob rfl (g_NothingDone E) (v := .ref (ga K "NothingDone")) rfl) pa_nil))) (pa_cons (pe_callB (kc_isX (K := K) rfl) rfl (b_isinstance E) (by decide +kernel) (pa_cons (pv 0) (pa_cons (pe_glob rfl (g_BadNumber E) (v := .ref (ga K "BadNumber")) rfl) pa_nil))) (pa_cons (pe_callB (kc_isX (K := K) rfl) rfl (b_isinstance E) (by decide +kernel) (pa_cons (pv 0) (pa_cons (pe_glob rfl (g_BadHeap E) (v := .ref (ga K "BadHeap")) rfl) pa_nil))) (pa_cons (pe_callB (kc_isX (K := K) rfl) rfl (b_isinstance E) (by decide +kernel) (pa_cons (pv 0) (pa_cons (pe_glob rfl (g_BadPlaces E) (v := .ref (ga K "BadPlaces")) rfl) pa_nil))) (pa_cons (pe_callB (kc_isX (K := K) rfl) rfl (b_isinstance E) (by decide +kernel) (pa_cons (pv 0) (pa_cons (pe_glob rfl (g_BadWord E) (v := .ref (ga K "BadWord")) rfl) pa_nil))) (pa_cons (pe_callB (kc_isX (K := K) rfl) rfl (b_isinstance E) (by decide +kernel) (pa_cons (pv 0) (pa_cons (pe_glob rfl (g_OtherLetters E) (v := .ref (ga K "OtherLetters")) rfl) pa_nil))) (pa_cons (pe_callB (kc_isX (K := K) rfl) rfl (b_isinstance E) (by decide +kernel) (pa_cons (pv 0) (pa_cons (pe_glob rfl (g_TooMany E) (v := .ref (ga K "TooMany")) rfl) pa_nil))) (pa_cons (pe_callB (kc_isX (K := K) rfl) rfl (b_isinstance E) (by decide +kernel) (pa_cons (pv 0) (pa_cons (pe_glob rfl (g_NotInCode E) (v := .ref (ga K "NotInCode")) rfl) pa_nil))) (pa_cons (pe_callB (kc_isX (K := K) rfl) rfl (b_isinstance E) (by decide +kernel) (pa_cons (pv 0) (pa_cons (pe_glob rfl (g_BadText E) (v := .ref (ga K "BadText")) rfl) pa_nil))) (pa_cons (pe_callB (kc_isX (K := K) rfl) rfl (b_isinstance E) (by decide +kernel) (pa_cons (pv 0) (pa_cons (pe_glob rfl (g_NotTriangular E) (v := .ref (ga K "NotTriangular")) rfl) pa_nil))) (pa_cons (pe_callB (kc_isX (K := K) rfl) rfl (b_isinstance E) (by decide +kernel) (pa_cons (pv 0) (pa_cons (pe_glob rfl (g_NotMade E) (v := .ref (ga K "NotMade")) rfl) pa_nil))) (pa_cons (pe_callB (kc_isX (K := K) rfl) rfl (b_isinstance E) (by decide +kernel) (pa_cons (pv 0) (pa_cons (pe_glob rfl (g_BadBlocks E) (v := .ref (ga K "BadBlocks")) rfl) pa_nil))) (pa_cons (pe_callB (kc_isX (K := K) rfl) rfl (b_isinstance E) (by decide +kernel) (pa_cons (pv 0) (pa_cons (pe_glob rfl (g_BadBits E) (v := .ref (ga K "BadBits")) rfl) pa_nil))) (pa_cons (pe_callB (kc_isX (K := K) rfl) rfl (b_isinstance E) (by decide +kernel) (pa_cons (pv 0) (pa_cons (pe_glob rfl (g_BadEdit E) (v := .ref (ga K "BadEdit")) rfl) pa_nil))) (pa_cons (pe_callB (kc_isX (K := K) rfl) rfl (b_isinstance E) (by decide +kernel) (pa_cons (pv 0) (pa_cons (pe_glob rfl (g_BadGoal E) (v := .ref (ga K "BadGoal")) rfl) pa_nil))) (pa_cons (pe_callB (kc_isX (K := K) rfl) rfl (b_isinstance E) (by decide +kernel) (pa_cons (pv 0) (pa_cons (pe_glob rfl (g_BadHalves E) (v := .ref (ga K "BadHalves")) rfl) pa_nil))) (pa_cons (pe_callB (kc_isX (K := K) rfl) rfl (b_isinstance E) (by decide +kernel) (pa_cons (pv 0) (pa_cons (pe_glob rfl (g_BadChoice E) (v := .ref (ga K "BadChoice")) rfl) pa_nil))) (pa_cons (pe_callB (kc_isX (K := K) rfl) rfl (b_isinstance E) (by decide +kernel) (pa_cons (pv 0) (pa_cons (pe_glob rfl (g_BadSubstitution E) (v := .ref (ga K "BadSubstitution")) rfl) pa_nil))) (pa_cons (pe_callB (kc_isX (K := K) rfl) rfl (b_isinstance E) (by decide +kernel) (pa_cons (pv 0) (pa_cons (pe_glob rfl (g_NotClosed E) (v := .ref (ga K "NotClosed")) rfl) pa_nil))) (pa_cons (pe_callB (kc_isX (K := K) rfl) rfl (b_isinstance E) (by decide +kernel) (pa_cons (pv 0) (pa_cons (pe_glob rfl (g_NotFalling E) (v := .ref (ga K "NotFalling")) rfl) pa_nil))) (pa_cons (pe_callB (kc_isX (K := K) rfl) rfl (b_isinstance E) (by decide +kernel) (pa_cons (pv 0) (pa_cons (pe_glob rfl (g_BadForms E) (v := .ref (ga K "BadForms")) rfl) pa_nil))) (pa_cons (pe_callB (kc_isX (K := K) rfl) rfl (b_isinstance E) (by decide +kernel) (pa_cons (pv 0) (pa_cons (pe_glob rfl (g_NotMember E) (v := .ref (ga K "NotMember")) rfl) pa_nil))) (pa_cons (pe_callB (kc_isX (K := K) rfl) rfl (b_isinstance E) (by decide +kernel) (pa_cons (pv 0) (pa_cons (pe_glob rfl (g_Held E) (v := .ref (ga K "Held")) rfl) pa_nil))) pa_nil))))))))))))))))))))))))))))))))))), ?rd⟩)
  case len =>
    obtain ⟨a, i, rfl, _⟩ := h
    rfl
  case rd =>
    obtain ⟨a, i, rfl, hi, isE, q⟩ := h
    have T := kits E hi
    walk_at "rd"
    refine rd_isX (j := 0) T isE (by decide) rfl ?_
    walk_at "rd"
    refine rd_isX (j := 1) T isE (by decide) rfl ?_
    walk_at "rd"
    refine rd_isX (j := 2) T isE (by decide) rfl ?_
    walk_at "rd"
    refine rd_isX (j := 3) T isE (by decide) rfl ?_
    walk_at "rd"
    refine rd_isX (j := 4) T isE (by decide) rfl ?_
    walk_at "rd"
    refine rd_isX (j := 5) T isE (by decide) rfl ?_
    walk_at "rd"
    refine rd_isX (j := 6) T isE (by decide) rfl ?_
    walk_at "rd"
    refine rd_isX (j := 7) T isE (by decide) rfl ?_
    walk_at "rd"
    refine rd_isX (j := 8) T isE (by decide) rfl ?_
    walk_at "rd"
    refine rd_isX (j := 9) T isE (by decide) rfl ?_
    walk_at "rd"
    refine rd_isX (j := 10) T isE (by decide) rfl ?_
    walk_at "rd"
    refine rd_isX (j := 11) T isE (by decide) rfl ?_
    walk_at "rd"
    refine rd_isX (j := 12) T isE (by decide) rfl ?_
    walk_at "rd"
    refine rd_isX (j := 13) T isE (by decide) rfl ?_
    walk_at "rd"
    refine rd_isX (j := 14) T isE (by decide) rfl ?_
    walk_at "rd"
    refine rd_isX (j := 15) T isE (by decide) rfl ?_
    walk_at "rd"
    refine rd_isX (j := 16) T isE (by decide) rfl ?_
    walk_at "rd"
    refine rd_isX (j := 17) T isE (by decide) rfl ?_
    walk_at "rd"
    refine rd_isX (j := 18) T isE (by decide) rfl ?_
    walk_at "rd"
    refine rd_isX (j := 19) T isE (by decide) rfl ?_
    walk_at "rd"
    refine rd_isX (j := 20) T isE (by decide) rfl ?_
    walk_at "rd"
    refine rd_isX (j := 21) T isE (by decide) rfl ?_
    walk_at "rd"
    refine rd_isX (j := 22) T isE (by decide) rfl ?_
    walk_at "rd"
    refine rd_isX (j := 23) T isE (by decide) rfl ?_
    walk_at "rd"
    refine rd_isX (j := 24) T isE (by decide) rfl ?_
    walk_at "rd"
    refine rd_isX (j := 25) T isE (by decide) rfl ?_
    walk_at "rd"
    refine rd_isX (j := 26) T isE (by decide) rfl ?_
    walk_at "rd"
    refine rd_isX (j := 27) T isE (by decide) rfl ?_
    walk_at "rd"
    refine rd_isX (j := 28) T isE (by decide) rfl ?_
    walk_at "rd"
    refine rd_isX (j := 29) T isE (by decide) rfl ?_
    walk_at "rd"
    refine rd_isX (j := 30) T isE (by decide) rfl ?_
    walk_at "rd"
    refine rd_isX (j := 31) T isE (by decide) rfl ?_
    walk_at "rd"
    refine ⟨by show 32 ≤ sizeLine; decide, fun p hp => ?_⟩
    exact q p _ hp (Ex.new hp) upd_same

end
end Lw

set_option Elab.async false
set_option linter.all false
set_option maxRecDepth 100000
set_option maxHeartbeats 4000000
namespace Lw
open PySem PySem.Spec PyProof.Rows L2 He Evl StX
local macro_rules | `(tactic| walk_at "rd") => `(tactic| (repeat first
  | with_reducible refine rd_seq ?_
  | with_reducible refine rd_asg ?_
  | with_reducible refine rd_ret ?_
  | with_reducible refine rd_next ?_
  | with_reducible refine rd_drop ?_
  | with_reducible refine rd_if ?_
  | with_reducible refine rd_ifE ?_
  | ((with_reducible refine' rd_var ?hv ?_); (case hv => rfl))
  | with_reducible refine rd_c ?_
  | with_reducible refine rd_op ?_
  | with_reducible refine rd_chain ?_
  | with_reducible refine rd_I0 ?_
  | with_reducible refine rd_test ?_
  | with_reducible refine rd_B ?_
  | with_reducible refine rd_bl ?_
  | with_reducible refine rd_not ?_
  | with_reducible refine rd_and ?_
  | with_reducible refine rd_or ?_
  | with_reducible refine rd_andV ?_
  | with_reducible refine rd_orV ?_
  | with_reducible refine rd_notV ?_
  | with_reducible refine rd_cons ?_
  | with_reducible refine rd_nil ?_
  | with_reducible refine rd_CB ?_
  | with_reducible refine rd_callS ?_
  | with_reducible refine rd_raise0 ?_
  | with_reducible refine rd_raise1 ?_
  | with_reducible refine rd_raise2 ?_
  | ((with_reducible refine' rd_eq ?hs ?_); (case hs => rfl))
  | ((with_reducible refine' rd_ne ?hs ?_); (case hs => rfl))
  | ((with_reducible refine' rd_isT ?th ?hT ?_); (case th => assumption); (case hT => decide))
  | with_reducible refine rd_tup ?_
  | with_reducible refine rd_lst ?_
  | with_reducible refine rd_iEnum ?_
  | with_reducible refine rd_iEnumA ?_
  | ((with_reducible refine' rd_ixl ?hl ?hk ?_); (case hl => assumption); (case hk => rfl))
  | with_reducible refine rd_int1 ?_
  | with_reducible refine rd_sub ?_
  | with_reducible refine rd_gcons ?_
  | with_reducible refine rd_gnil ?_
  | with_reducible refine rd_iZip ?_
  | with_reducible refine rd_BM ?_
  | with_reducible refine rd_neg ?_
  | ((with_reducible refine' rd_last ?hl ?_); (case hl => assumption))
  | with_reducible refine rd_lc2 ?_
  | with_reducible refine rd_Rg1 ?_
  | with_reducible refine rd_tupRg ?_
  | with_reducible refine rd_sl ?_
  | with_reducible refine rd_noPart ?_
  | with_reducible refine rd_part ?_
  | with_reducible refine rd_for ?_
  | with_reducible refine rd_iRev ?_
  | with_reducible refine rd_gname ?_
  | with_reducible refine rd_NN ?_
  | with_reducible refine rd_NL ?_
  | with_reducible refine rd_LN ?_
  | ((with_reducible refine' rd_shl1 ?hs ?_); (case hs => omega))
  | ((with_reducible refine' rd_I ?hs ?_); (case hs => first | omega | decide | exact ⟨by decide, by decide, by decide⟩ | exact ⟨by omega, by omega⟩))
  | with_reducible refine rd_tr ?_
  | with_reducible refine rd_trI ?_
  | with_reducible refine rd_star ?_
  | with_reducible refine rd_fmtB ?_
  | with_reducible refine rd_M1 ?_
  | with_reducible refine rd_un ?_
  | with_reducible refine rd_lc ?_
  | with_reducible refine rd_iT ?_
  | with_reducible refine rd_iL ?_
  | with_reducible refine rd_iR1 ?_
  | with_reducible refine rd_iR2 ?_
  | dsimp only [List.set, start]))
section
variable {P : Program} {w : World} {K : PySem.W.Frag} {mg : Str → Option Value} {base : Heap}

/-- a plain thing: an int or a text of good signs -/
def Sc (v : V) : Prop := (∃ i, v = .int i) ∨ ∃ s, v = .str s ∧ PyData.canLay0 (.str s) = true
/-- the same plain thing, or two lists of the same two -/
def SameD (H : Hp) (v w : V) : Prop := (v = w ∧ Sc v) ∨ ∃ p q x y, v = .ref p ∧ w = .ref q ∧ H p = some (.lst [x, y]) ∧ H q = some (.lst [x, y]) ∧ Sc x ∧ Sc y
theorem SameD.ex {H H' : Hp} {v w : V} (h : SameD H v w) (e : Ex H H') : SameD H' v w := by
  rcases h with h | ⟨p, q, x, y, h1, h2, h3, h4, h5⟩
  · exact .inl h
  · exact .inr ⟨p, q, x, y, h1, h2, e _ _ h3, e _ _ h4, h5⟩
/-- row i: an error of name i, and two things that are the same -/
def RowOk (K : PySem.W.Frag) (H : Hp) (r : V) (i : Nat) : Prop := ∃ (t e : Addr) (v w : V), r = .ref t ∧ H t = some (.tup [.ref e, v, w]) ∧ IsE H e (nm K i) ∧ SameD H v w
theorem RowOk.ex {H H' : Hp} {r : V} {i : Nat} (h : RowOk K H r i) (e : Ex H H') : RowOk K H' r i := by
  obtain ⟨t, a, v, w, h1, h2, h3, h4⟩ := h
  exact ⟨t, a, v, w, h1, e _ _ h2, h3.ex e, h4.ex e⟩
def AllOk (K : PySem.W.Frag) (H : Hp) (rs : List V) (b : Nat) : Prop := ∀ j r, rs[j]? = some r → RowOk K H r (b + j)
theorem AllOk.ex {H H' : Hp} {rs : List V} {b : Nat} (h : AllOk K H rs b) (e : Ex H H') : AllOk K H' rs b := fun j r hr => (h j r hr).ex e
theorem AllOk.app {H : Hp} {rs : List V} {r : V} {b : Nat} (h : AllOk K H rs b) (n : RowOk K H r (b + rs.length)) : AllOk K H (rs ++ [r]) b := fun j x hx => by
  by_cases c : j < rs.length
  · rw [List.getElem?_append_left c] at hx
    exact h j x hx
  · rw [List.getElem?_append_right (by omega)] at hx
    have e : j = rs.length := by
      obtain ⟨lt, _⟩ := List.getElem?_eq_some_iff.mp hx
      simp at lt
      omega
    subst e
    rw [Nat.sub_self] at hx
    obtain rfl : r = x := Option.some.inj hx
    exact n
theorem AllOk.cat {H : Hp} {xs ys : List V} {b : Nat} (h1 : AllOk K H xs b) (h2 : AllOk K H ys (b + xs.length)) : AllOk K H (xs ++ ys) b := fun j x hx => by
  by_cases c : j < xs.length
  · rw [List.getElem?_append_left c] at hx
    exact h1 j x hx
  · rw [List.getElem?_append_right (by omega)] at hx
    have := h2 _ x hx
    rw [show b + xs.length + (j - xs.length) = b + j by omega] at this
    exact this
theorem AllOk.nil {H : Hp} {b : Nat} : AllOk K H [] b := fun j r hr => by simp at hr
theorem ex_del {H H' : Hp} {p : Addr} (e : Ex H H') : Ex (del H p) (del H' p) := fun a o h => by
  by_cases c : a = p
  · subst c
    rw [del_same] at h
    cases h
  · rw [del_ne c] at h ⊢
    exact e _ _ h
theorem del_ex {H : Hp} {p : Addr} : Ex (del H p) H := fun a o h => by
  by_cases c : a = p
  · subst c
    rw [del_same] at h
    cases h
  · rw [del_ne c] at h
    exact h
theorem del_upd {H : Hp} {p : Addr} {o : HO} : del (upd H p o) p = del H p := by
  funext a
  by_cases c : a = p
  · subst c
    rw [del_same, del_same]
  · rw [del_ne c, del_ne c, upd_ne c]
/-- a row made beside the list of rows -/
theorem row_new {H H1 : Hp} {p t e : Addr} {v w : V} {i : Nat} {u : HO} (hp : H p = some u) (e1 : Ex H H1) (ht : H1 t = some (.tup [.ref e, v, w])) (nt : H t = none) (he : IsE (del H1 p) e (nm K i)) (sm : SameD (del H1 p) v w) : RowOk K (del H1 p) (.ref t) i :=
  ⟨t, e, v, w, rfl, by rw [del_ne (fun c => by rw [c, hp] at nt; cases nt)]; exact ht, he, sm⟩
/-- the list of rows at p, rs so far -/
structure Rows (K : PySem.W.Frag) (B : Hp) (p : Addr) (b : Nat) (rs : List V) (H : Hp) : Prop where
  fr : B p = none
  ex : Ex B H
  at_ : H p = some (.lst rs)
  ok : AllOk K (del H p) rs b
theorem Rows.to {B H H' : Hp} {p : Addr} {b : Nat} {rs : List V} (h : Rows K B p b rs H) (e : Ex H H') : Rows K B p b rs H' :=
  ⟨h.fr, h.ex.trans e, e _ _ h.at_, h.ok.ex (ex_del e)⟩
theorem Rows.app {B H H' : Hp} {p : Addr} {b : Nat} {rs : List V} {r : V} (h : Rows K B p b rs H) (n : RowOk K (del H p) r (b + rs.length)) (e : H' = upd H p (.lst (rs ++ [r]))) : Rows K B p b (rs ++ [r]) H' := by
  subst e
  refine ⟨h.fr, fun a o ha => ?_, upd_same, ?_⟩
  · have c : a ≠ p := fun c => by rw [c, h.fr] at ha; cases ha
    rw [upd_ne c]
    exact h.ex _ _ ha
  · rw [del_upd]
    exact h.ok.app n
/-- the one-field error just made, in its row -/
theorem row_made {H H1 H2 : Hp} {p t a d : Addr} {x f : Str} {v : V} {i : Nat} {u : HO} (hp : H p = some u) (ha0 : H a = none) (hd0 : H d = none) (e1 : Ex H H1) (ha : H1 a = some (exo a (ga K x) (some d))) (hd : H1 d = some (exd d [(f, v)])) (ht0 : H1 t = none) (e2 : H2 = upd H1 t (.tup [.ref a, v, v])) (en : ga K x = nm K i) (sc : Sc v) : RowOk K (del H2 p) (.ref t) i := by
  have e12 : Ex H1 H2 := by rw [e2]; exact Ex.new ht0
  have nz : ∀ {c : Addr}, H c = none → c ≠ p := fun {c} hc q => by rw [q, hp] at hc; cases hc
  have nt : t ≠ p := fun q => by rw [q, e1 _ _ hp] at ht0; cases ht0
  refine ⟨t, a, v, v, rfl, by rw [del_ne nt, e2, upd_same], .inr ⟨d, [(f, v)], ?_, ?_⟩, .inl ⟨rfl, sc⟩⟩
  · rw [del_ne (nz ha0), ← en]
    exact e12 _ _ ha
  · rw [del_ne (nz hd0)]
    exact e12 _ _ hd
theorem row_made2 {H H1 H2 : Hp} {p t a d q1 q2 : Addr} {x : Str} {fs : List (Str × V)} {v w : V} {i : Nat} {u : HO} (hp : H p = some u) (ha0 : H a = none) (hd0 : H d = none) (e1 : Ex H H1) (ha : H1 a = some (exo a (ga K x) (some d))) (hd : H1 d = some (exd d fs)) (e2 : Ex H1 H2)
    (h1 : H2 q1 = some (.lst [v, w])) (h2 : H2 q2 = some (.lst [v, w])) (n1 : H q1 = none) (n2 : H q2 = none) (ht : H2 t = some (.tup [.ref a, .ref q1, .ref q2])) (nt : H t = none) (en : ga K x = nm K i) (sv : Sc v) (sw : Sc w) : RowOk K (del H2 p) (.ref t) i := by
  have nz : ∀ {c : Addr}, H c = none → c ≠ p := fun {c} hc q => by rw [q, hp] at hc; cases hc
  refine ⟨t, a, _, _, rfl, by rw [del_ne (nz nt)]; exact ht, .inr ⟨d, fs, ?_, ?_⟩, .inr ⟨q1, q2, v, w, rfl, rfl, ?_, ?_, sv, sw⟩⟩
  · rw [del_ne (nz ha0), ← en]
    exact e2 _ _ ha
  · rw [del_ne (nz hd0)]
    exact e2 _ _ hd
  · rw [del_ne (nz n1)]
    exact h1
  · rw [del_ne (nz n2)]
    exact h2

end
end Lw

set_option Elab.async false
set_option linter.all false
set_option maxRecDepth 100000
set_option maxHeartbeats 4000000
namespace Lw
open PySem PySem.Spec PyProof.Rows L2 He Evl StX
local macro_rules | `(tactic| walk_at "rd") => `(tactic| (repeat first
  | with_reducible refine rd_seq ?_
  | with_reducible refine rd_asg ?_
  | with_reducible refine rd_ret ?_
  | with_reducible refine rd_next ?_
  | with_reducible refine rd_drop ?_
  | with_reducible refine rd_if ?_
  | with_reducible refine rd_ifE ?_
  | ((with_reducible refine' rd_var ?hv ?_); (case hv => rfl))
  | with_reducible refine rd_c ?_
  | with_reducible refine rd_op ?_
  | with_reducible refine rd_chain ?_
  | with_reducible refine rd_I0 ?_
  | with_reducible refine rd_test ?_
  | with_reducible refine rd_B ?_
  | with_reducible refine rd_bl ?_
  | with_reducible refine rd_not ?_
  | with_reducible refine rd_and ?_
  | with_reducible refine rd_or ?_
  | with_reducible refine rd_andV ?_
  | with_reducible refine rd_orV ?_
  | with_reducible refine rd_notV ?_
  | with_reducible refine rd_cons ?_
  | with_reducible refine rd_nil ?_
  | with_reducible refine rd_CB ?_
  | with_reducible refine rd_callS ?_
  | with_reducible refine rd_raise0 ?_
  | with_reducible refine rd_raise1 ?_
  | with_reducible refine rd_raise2 ?_
  | ((with_reducible refine' rd_eq ?hs ?_); (case hs => rfl))
  | ((with_reducible refine' rd_ne ?hs ?_); (case hs => rfl))
  | ((with_reducible refine' rd_isT ?th ?hT ?_); (case th => assumption); (case hT => decide))
  | with_reducible refine rd_tup ?_
  | with_reducible refine rd_lst ?_
  | with_reducible refine rd_iEnum ?_
  | with_reducible refine rd_iEnumA ?_
  | ((with_reducible refine' rd_ixl ?hl ?hk ?_); (case hl => assumption); (case hk => rfl))
  | with_reducible refine rd_int1 ?_
  | with_reducible refine rd_sub ?_
  | with_reducible refine rd_gcons ?_
  | with_reducible refine rd_gnil ?_
  | with_reducible refine rd_iZip ?_
  | with_reducible refine rd_BM ?_
  | with_reducible refine rd_neg ?_
  | ((with_reducible refine' rd_last ?hl ?_); (case hl => assumption))
  | with_reducible refine rd_lc2 ?_
  | with_reducible refine rd_Rg1 ?_
  | with_reducible refine rd_tupRg ?_
  | with_reducible refine rd_sl ?_
  | with_reducible refine rd_noPart ?_
  | with_reducible refine rd_part ?_
  | with_reducible refine rd_for ?_
  | with_reducible refine rd_iRev ?_
  | with_reducible refine rd_gname ?_
  | with_reducible refine rd_NN ?_
  | with_reducible refine rd_NL ?_
  | with_reducible refine rd_LN ?_
  | ((with_reducible refine' rd_shl1 ?hs ?_); (case hs => omega))
  | ((with_reducible refine' rd_I ?hs ?_); (case hs => first | omega | decide | exact ⟨by decide, by decide, by decide⟩ | exact ⟨by omega, by omega⟩))
  | with_reducible refine rd_tr ?_
  | with_reducible refine rd_trI ?_
  | with_reducible refine rd_star ?_
  | with_reducible refine rd_fmtB ?_
  | with_reducible refine rd_M1 ?_
  | with_reducible refine rd_un ?_
  | with_reducible refine rd_lc ?_
  | with_reducible refine rd_iT ?_
  | with_reducible refine rd_iL ?_
  | with_reducible refine rd_iR1 ?_
  | with_reducible refine rd_iR2 ?_
  | dsimp only [List.set, start]))
section
variable {P : Program} {w : World} {K : PySem.W.Frag} {mg : Str → Option Value} {base : Heap}

def spPlain (K : PySem.W.Frag) : Sp := fun vs H Q _ => ∃ (one two word : V), vs = [one, two, word] ∧ Sc one ∧ Sc two ∧ Sc word ∧ ∀ p rs H', H p = none → Ex H H' → H' p = some (.lst rs) → rs.length = 25 → AllOk K H' rs 0 → Q (.ref p) H'
theorem sz_of {n : Nat} (h : n ≤ 1000) : n ≤ sizeLine := Nat.le_trans h (by decide)
theorem h__law_plain (E : Ctx K mg) : Has P w K mg base 4 "_law_plain" ["_law_one", "_law_two", "_law_word"] (spPlain K) := by
  obtain ⟨fd, F⟩ := f__law_plain E
  refine ⟨⟨fd, ?_, F.bindsN fun _ _ _ _ _ _ us hl => match us, hl with | [_, _, _], _ => rfl⟩, g__law_plain E, F.kp⟩
  refine F.ok sc__law_plain (fun vs H Q E' h => ?len) (fun cdv A outer s H vs Q E' hr h => ⟨_, (pss_cons (ps_set (i := 3) sc__law_plain.nd rfl (.inl rfl) (pe_lst (pa_cons (kv0 (K := K) rfl (x0_BadLetters E)) (pa_cons (kv0 (K := K) rfl (x0_BadLetter E)) (pa_cons (kv0 (K := K) rfl (x0_BadBit E)) (pa_cons (kv0 (K := K) rfl (x0_BadOrder E)) (pa_cons (kv0 (K := K) rfl (x0_EmptyChoice E)) (pa_cons (kv0 (K := K) rfl (x0_NotLeast E)) (pa_cons (kv0 (K := K) rfl (x0_NoneNear E)) (pa_cons (kv0 (K := K) rfl (x0_NotData E)) pa_nil))))))))))
 (pss_cons (ps_set (i := 3) sc__law_plain.nd rfl (.inl rfl) (pe_op op_cat (pv 3) (pe_lst (pa_cons (kv0 (K := K) rfl (x0_BadMessage E)) (pa_cons (kv0 (K := K) rfl (x0_NothingDone E)) pa_nil)))))
 (pss_cons (ps_setLc (i := 4) (own := [("_law_error", 5)]) (g := gName 5) (tt := tYes) rfl sc__law_plain.nd rfl rfl (sw_true rfl rfl rfl (by decide +kernel)) (ki_list (K := K) rfl (pv 3)) (blkOk_by (own := [("_law_error", 5)]) (N := N__law_plain) (sc := defScope s__law_plain) (by decide +kernel)) (fun _ _ _ _ _ => (pg_name (i := 5) sc__law_plain.nd rfl (.inl rfl))) (fun _ _ _ _ _ => pts_nil) (fun _ _ _ _ _ => (pe_tup (pa_cons (pv 5) (pa_cons pe_int (pa_cons pe_int pa_nil))))))
 (pss_cons (ps_set (i := 5) sc__law_plain.nd rfl (.inl rfl) (kmkV (K := K) rfl (i_BadNumber E) (hr.mono (by decide)) (pa_cons (pv 0) pa_nil)))
 (pss_cons (ps_expr (pe_bm PySem.F.plainAttrs_list PySem.F.slot_list_append PySem.F.type_list_append mt_append (pv 4) (pa_cons (pe_tup (pa_cons (pv 5) (pa_cons (kxv (K := K) rfl (pv 5)) (pa_cons (pv 0) pa_nil)))) pa_nil)))
 (pss_cons (ps_set (i := 5) sc__law_plain.nd rfl (.inl rfl) (kmkV (K := K) rfl (i_BadHeap E) (hr.mono (by decide)) (pa_cons (pv 0) pa_nil)))
 (pss_cons (ps_expr (pe_bm PySem.F.plainAttrs_list PySem.F.slot_list_append PySem.F.type_list_append mt_append (pv 4) (pa_cons (pe_tup (pa_cons (pv 5) (pa_cons (kxv (K := K) rfl (pv 5)) (pa_cons (pv 0) pa_nil)))) pa_nil)))
 (pss_cons (ps_set (i := 5) sc__law_plain.nd rfl (.inl rfl) (kmkV (K := K) rfl (i_BadPlaces E) (hr.mono (by decide)) (pa_cons (pv 0) pa_nil)))
 (pss_cons (ps_expr (pe_bm PySem.F.plainAttrs_list PySem.F.slot_list_append PySem.F.type_list_append mt_append (pv 4) (pa_cons (pe_tup (pa_cons (pv 5) (pa_cons (kxv (K := K) rfl (pv 5)) (pa_cons (pv 0) pa_nil)))) pa_nil)))
 (pss_cons (ps_set (i := 5) sc__law_plain.nd rfl (.inl rfl) (kmkV (K := K) rfl (i_BadWord E) (hr.mono (by decide)) (pa_cons (pv 0) pa_nil)))
 (pss_cons (ps_expr (pe_bm PySem.F.plainAttrs_list PySem.F.slot_list_append PySem.F.type_list_append mt_append (pv 4) (pa_cons (pe_tup (pa_cons (pv 5) (pa_cons (kxv (K := K) rfl (pv 5)) (pa_cons (pv 0) pa_nil)))) pa_nil)))
 (pss_cons (ps_set (i := 5) sc__law_plain.nd rfl (.inl rfl) (kmkV (K := K) rfl (i_OtherLetters E) (hr.mono (by decide)) (pa_cons (pv 0) pa_nil)))
 (pss_cons (ps_expr (pe_bm PySem.F.plainAttrs_list PySem.F.slot_list_append PySem.F.type_list_append mt_append (pv 4) (pa_cons (pe_tup (pa_cons (pv 5) (pa_cons (kxv (K := K) rfl (pv 5)) (pa_cons (pv 0) pa_nil)))) pa_nil)))
 (pss_cons (ps_set (i := 5) sc__law_plain.nd rfl (.inl rfl) (kmkV (K := K) rfl (i_TooMany E) (hr.mono (by decide)) (pa_cons (pv 0) pa_nil)))
 (pss_cons (ps_expr (pe_bm PySem.F.plainAttrs_list PySem.F.slot_list_append PySem.F.type_list_append mt_append (pv 4) (pa_cons (pe_tup (pa_cons (pv 5) (pa_cons (kxv (K := K) rfl (pv 5)) (pa_cons (pv 0) pa_nil)))) pa_nil)))
 (pss_cons (ps_set (i := 5) sc__law_plain.nd rfl (.inl rfl) (kmkV (K := K) rfl (i_NotInCode E) (hr.mono (by decide)) (pa_cons (pv 1) pa_nil)))
 (pss_cons (ps_expr (pe_bm PySem.F.plainAttrs_list PySem.F.slot_list_append PySem.F.type_list_append mt_append (pv 4) (pa_cons (pe_tup (pa_cons (pv 5) (pa_cons (kxv (K := K) rfl (pv 5)) (pa_cons (pv 1) pa_nil)))) pa_nil)))
 (pss_cons (ps_set (i := 5) sc__law_plain.nd rfl (.inl rfl) (kmkV (K := K) rfl (i_BadText E) (hr.mono (by decide)) (pa_cons (pv 1) pa_nil)))
 (pss_cons (ps_expr (pe_bm PySem.F.plainAttrs_list PySem.F.slot_list_append PySem.F.type_list_append mt_append (pv 4) (pa_cons (pe_tup (pa_cons (pv 5) (pa_cons (kxv (K := K) rfl (pv 5)) (pa_cons (pv 1) pa_nil)))) pa_nil)))
 (pss_cons (ps_set (i := 5) sc__law_plain.nd rfl (.inl rfl) (kmkV (K := K) rfl (i_NotTriangular E) (hr.mono (by decide)) (pa_cons (pv 1) pa_nil)))
 (pss_cons (ps_expr (pe_bm PySem.F.plainAttrs_list PySem.F.slot_list_append PySem.F.type_list_append mt_append (pv 4) (pa_cons (pe_tup (pa_cons (pv 5) (pa_cons (kxv (K := K) rfl (pv 5)) (pa_cons (pv 1) pa_nil)))) pa_nil)))
 (pss_cons (ps_set (i := 5) sc__law_plain.nd rfl (.inl rfl) (kmkV (K := K) rfl (i_NotMade E) (hr.mono (by decide)) (pa_cons (pv 1) pa_nil)))
 (pss_cons (ps_expr (pe_bm PySem.F.plainAttrs_list PySem.F.slot_list_append PySem.F.type_list_append mt_append (pv 4) (pa_cons (pe_tup (pa_cons (pv 5) (pa_cons (kxv (K := K) rfl (pv 5)) (pa_cons (pv 1) pa_nil)))) pa_nil)))
 (pss_cons (ps_set (i := 5) sc__law_plain.nd rfl (.inl rfl) (kmkV (K := K) rfl (i_BadBlocks E) (hr.mono (by decide)) (pa_cons (pv 1) pa_nil)))
 (pss_cons (ps_expr (pe_bm PySem.F.plainAttrs_list PySem.F.slot_list_append PySem.F.type_list_append mt_append (pv 4) (pa_cons (pe_tup (pa_cons (pv 5) (pa_cons (kxv (K := K) rfl (pv 5)) (pa_cons (pv 1) pa_nil)))) pa_nil)))
 (pss_cons (ps_set (i := 5) sc__law_plain.nd rfl (.inl rfl) (kmkV (K := K) rfl (i_BadBits E) (hr.mono (by decide)) (pa_cons (pv 0) pa_nil)))
 (pss_cons (ps_expr (pe_bm PySem.F.plainAttrs_list PySem.F.slot_list_append PySem.F.type_list_append mt_append (pv 4) (pa_cons (pe_tup (pa_cons (pv 5) (pa_cons (kxv (K := K) rfl (pv 5)) (pa_cons (pv 0) pa_nil)))) pa_nil)))
 (pss_cons (ps_set (i := 5) sc__law_plain.nd rfl (.inl rfl) (kmkV (K := K) rfl (i_BadEdit E) (hr.mono (by decide)) (pa_cons (pv 0) pa_nil)))
 (pss_cons (ps_expr (pe_bm PySem.F.plainAttrs_list PySem.F.slot_list_append PySem.F.type_list_append mt_append (pv 4) (pa_cons (pe_tup (pa_cons (pv 5) (pa_cons (kxv (K := K) rfl (pv 5)) (pa_cons (pv 0) pa_nil)))) pa_nil)))
 (pss_cons (ps_set (i := 5) sc__law_plain.nd rfl (.inl rfl) (kmkV (K := K) rfl (i_BadGoal E) (hr.mono (by decide)) (pa_cons (pv 1) pa_nil)))
 (pss_cons (ps_expr (pe_bm PySem.F.plainAttrs_list PySem.F.slot_list_append PySem.F.type_list_append mt_append (pv 4) (pa_cons (pe_tup (pa_cons (pv 5) (pa_cons (kxv (K := K) rfl (pv 5)) (pa_cons (pv 1) pa_nil)))) pa_nil)))
 (pss_cons (ps_set (i := 5) sc__law_plain.nd rfl (.inl rfl) (kmkV (K := K) rfl (i_BadHalves E) (hr.mono (by decide)) (pa_cons (pv 2) pa_nil)))
 (pss_cons (ps_expr (pe_bm PySem.F.plainAttrs_list PySem.F.slot_list_append PySem.F.type_list_append mt_append (pv 4) (pa_cons (pe_tup (pa_cons (pv 5) (pa_cons (kxv (K := K) rfl (pv 5)) (pa_cons (pv 2) pa_nil)))) pa_nil)))
 (pss_one (ps_ret (pv 4)))))))))))))))))))))))))))))))))))), ?rd⟩)
  case len =>
    obtain ⟨one, two, word, rfl, _⟩ := h
    rfl
  case rd =>
    obtain ⟨one, two, word, rfl, s1, s2, s3, q⟩ := h
    rw [show L2.start N__law_plain [one, two, word] = [some one, some two, some word, none, none, none] from rfl]
    walk_at "rd"
    try dsimp only [List.set_cons_succ, List.set_cons_zero]
    refine fun a0 h0 => ?_
    have x0 : Ex H (upd H a0 (ExO (.ref (ga K "BadLetters")) a0)) := Ex.new h0
    have f0 : (upd H a0 (ExO (.ref (ga K "BadLetters")) a0)) a0 = some (ExO (.ref (nm K 0)) a0) := upd_same
    generalize upd H a0 (ExO (.ref (ga K "BadLetters")) a0) = G0 at x0 f0 ⊢
    walk_at "rd"
    try dsimp only [List.set_cons_succ, List.set_cons_zero]
    refine fun a1 h1 => ?_
    have x1 : Ex G0 (upd G0 a1 (ExO (.ref (ga K "BadLetter")) a1)) := Ex.new h1
    have f1 : (upd G0 a1 (ExO (.ref (ga K "BadLetter")) a1)) a1 = some (ExO (.ref (nm K 1)) a1) := upd_same
    generalize upd G0 a1 (ExO (.ref (ga K "BadLetter")) a1) = G1 at x1 f1 ⊢
    walk_at "rd"
    try dsimp only [List.set_cons_succ, List.set_cons_zero]
    refine fun a2 h2 => ?_
    have x2 : Ex G1 (upd G1 a2 (ExO (.ref (ga K "BadBit")) a2)) := Ex.new h2
    have f2 : (upd G1 a2 (ExO (.ref (ga K "BadBit")) a2)) a2 = some (ExO (.ref (nm K 2)) a2) := upd_same
    generalize upd G1 a2 (ExO (.ref (ga K "BadBit")) a2) = G2 at x2 f2 ⊢
    walk_at "rd"
    try dsimp only [List.set_cons_succ, List.set_cons_zero]
    refine fun a3 h3 => ?_
    have x3 : Ex G2 (upd G2 a3 (ExO (.ref (ga K "BadOrder")) a3)) := Ex.new h3
    have f3 : (upd G2 a3 (ExO (.ref (ga K "BadOrder")) a3)) a3 = some (ExO (.ref (nm K 3)) a3) := upd_same
    generalize upd G2 a3 (ExO (.ref (ga K "BadOrder")) a3) = G3 at x3 f3 ⊢
    walk_at "rd"
    try dsimp only [List.set_cons_succ, List.set_cons_zero]
    refine fun a4 h4 => ?_
    have x4 : Ex G3 (upd G3 a4 (ExO (.ref (ga K "EmptyChoice")) a4)) := Ex.new h4
    have f4 : (upd G3 a4 (ExO (.ref (ga K "EmptyChoice")) a4)) a4 = some (ExO (.ref (nm K 4)) a4) := upd_same
    generalize upd G3 a4 (ExO (.ref (ga K "EmptyChoice")) a4) = G4 at x4 f4 ⊢
    walk_at "rd"
    try dsimp only [List.set_cons_succ, List.set_cons_zero]
    refine fun a5 h5 => ?_
    have x5 : Ex G4 (upd G4 a5 (ExO (.ref (ga K "NotLeast")) a5)) := Ex.new h5
    have f5 : (upd G4 a5 (ExO (.ref (ga K "NotLeast")) a5)) a5 = some (ExO (.ref (nm K 5)) a5) := upd_same
    generalize upd G4 a5 (ExO (.ref (ga K "NotLeast")) a5) = G5 at x5 f5 ⊢
    walk_at "rd"
    try dsimp only [List.set_cons_succ, List.set_cons_zero]
    refine fun a6 h6 => ?_
    have x6 : Ex G5 (upd G5 a6 (ExO (.ref (ga K "NoneNear")) a6)) := Ex.new h6
    have f6 : (upd G5 a6 (ExO (.ref (ga K "NoneNear")) a6)) a6 = some (ExO (.ref (nm K 6)) a6) := upd_same
    generalize upd G5 a6 (ExO (.ref (ga K "NoneNear")) a6) = G6 at x6 f6 ⊢
    walk_at "rd"
    try dsimp only [List.set_cons_succ, List.set_cons_zero]
    refine fun a7 h7 => ?_
    have x7 : Ex G6 (upd G6 a7 (ExO (.ref (ga K "NotData")) a7)) := Ex.new h7
    have f7 : (upd G6 a7 (ExO (.ref (ga K "NotData")) a7)) a7 = some (ExO (.ref (nm K 7)) a7) := upd_same
    generalize upd G6 a7 (ExO (.ref (ga K "NotData")) a7) = G7 at x7 f7 ⊢
    walk_at "rd"
    try dsimp only [List.set_cons_succ, List.set_cons_zero]
    refine ⟨by show 8 ≤ sizeLine; decide, fun p8 hp8 => ?_⟩
    have y8 : Ex G7 (upd G7 p8 (.lst [.ref a0, .ref a1, .ref a2, .ref a3, .ref a4, .ref a5, .ref a6, .ref a7])) := Ex.new hp8
    have z8 : (upd G7 p8 (.lst [.ref a0, .ref a1, .ref a2, .ref a3, .ref a4, .ref a5, .ref a6, .ref a7])) p8 = some (.lst [.ref a0, .ref a1, .ref a2, .ref a3, .ref a4, .ref a5, .ref a6, .ref a7]) := upd_same
    generalize upd G7 p8 (.lst [.ref a0, .ref a1, .ref a2, .ref a3, .ref a4, .ref a5, .ref a6, .ref a7]) = K8 at y8 z8 ⊢
    walk_at "rd"
    try dsimp only [List.set_cons_succ, List.set_cons_zero]
    refine fun a8 h8 => ?_
    have x8 : Ex K8 (upd K8 a8 (ExO (.ref (ga K "BadMessage")) a8)) := Ex.new h8
    have f8 : (upd K8 a8 (ExO (.ref (ga K "BadMessage")) a8)) a8 = some (ExO (.ref (nm K 8)) a8) := upd_same
    generalize upd K8 a8 (ExO (.ref (ga K "BadMessage")) a8) = G8 at x8 f8 ⊢
    walk_at "rd"
    try dsimp only [List.set_cons_succ, List.set_cons_zero]
    refine fun a9 h9 => ?_
    have x9 : Ex G8 (upd G8 a9 (ExO (.ref (ga K "NothingDone")) a9)) := Ex.new h9
    have f9 : (upd G8 a9 (ExO (.ref (ga K "NothingDone")) a9)) a9 = some (ExO (.ref (nm K 9)) a9) := upd_same
    generalize upd G8 a9 (ExO (.ref (ga K "NothingDone")) a9) = G9 at x9 f9 ⊢
    walk_at "rd"
    try dsimp only [List.set_cons_succ, List.set_cons_zero]
    refine ⟨by show 2 ≤ sizeLine; decide, fun p9 hp9 => ?_⟩
    have y9 : Ex G9 (upd G9 p9 (.lst [.ref a8, .ref a9])) := Ex.new hp9
    have z9 : (upd G9 p9 (.lst [.ref a8, .ref a9])) p9 = some (.lst [.ref a8, .ref a9]) := upd_same
    generalize upd G9 p9 (.lst [.ref a8, .ref a9]) = K9 at y9 z9 ⊢
    have w8 : K9 p8 = some (.lst [.ref a0, .ref a1, .ref a2, .ref a3, .ref a4, .ref a5, .ref a6, .ref a7]) := y9 _ _ (x9 _ _ (x8 _ _ z8))
    refine ⟨p8, p9, _, _, rfl, rfl, w8, z9, sz_of (by simp), fun mp hmp => ?_⟩
    have ym : Ex K9 (upd K9 mp (.lst [.ref a0, .ref a1, .ref a2, .ref a3, .ref a4, .ref a5, .ref a6, .ref a7, .ref a8, .ref a9])) := Ex.new hmp
    have zm : (upd K9 mp (.lst [.ref a0, .ref a1, .ref a2, .ref a3, .ref a4, .ref a5, .ref a6, .ref a7, .ref a8, .ref a9])) mp = some (.lst [.ref a0, .ref a1, .ref a2, .ref a3, .ref a4, .ref a5, .ref a6, .ref a7, .ref a8, .ref a9]) := upd_same
    rw [show ([.ref a0, .ref a1, .ref a2, .ref a3, .ref a4, .ref a5, .ref a6, .ref a7] : List V) ++ [.ref a8, .ref a9] = [.ref a0, .ref a1, .ref a2, .ref a3, .ref a4, .ref a5, .ref a6, .ref a7, .ref a8, .ref a9] from rfl]
    generalize upd K9 mp (.lst [.ref a0, .ref a1, .ref a2, .ref a3, .ref a4, .ref a5, .ref a6, .ref a7, .ref a8, .ref a9]) = M at ym zm ⊢
    have eM : Ex H M := (((((((((((x0.trans x1).trans x2).trans x3).trans x4).trans x5).trans x6).trans x7).trans y8).trans x8).trans x9).trans y9).trans ym
    have made : ∀ i x, ([.ref a0, .ref a1, .ref a2, .ref a3, .ref a4, .ref a5, .ref a6, .ref a7, .ref a8, .ref a9] : List V)[i]? = some x → ∃ a, x = .ref a ∧ IsE M a (nm K i) := fun i x hx => by
      have lt : i < 10 := (List.getElem?_eq_some_iff.mp hx).1
      rcases (show i = 0 ∨ i = 1 ∨ i = 2 ∨ i = 3 ∨ i = 4 ∨ i = 5 ∨ i = 6 ∨ i = 7 ∨ i = 8 ∨ i = 9 by omega) with rfl | rfl | rfl | rfl | rfl | rfl | rfl | rfl | rfl | rfl
      · exact ⟨a0, (Option.some.inj hx).symm, .inl (ym _ _ (y9 _ _ (x9 _ _ (x8 _ _ (y8 _ _ (x7 _ _ (x6 _ _ (x5 _ _ (x4 _ _ (x3 _ _ (x2 _ _ (x1 _ _ f0))))))))))))⟩
      · exact ⟨a1, (Option.some.inj hx).symm, .inl (ym _ _ (y9 _ _ (x9 _ _ (x8 _ _ (y8 _ _ (x7 _ _ (x6 _ _ (x5 _ _ (x4 _ _ (x3 _ _ (x2 _ _ f1)))))))))))⟩
      · exact ⟨a2, (Option.some.inj hx).symm, .inl (ym _ _ (y9 _ _ (x9 _ _ (x8 _ _ (y8 _ _ (x7 _ _ (x6 _ _ (x5 _ _ (x4 _ _ (x3 _ _ f2))))))))))⟩
      · exact ⟨a3, (Option.some.inj hx).symm, .inl (ym _ _ (y9 _ _ (x9 _ _ (x8 _ _ (y8 _ _ (x7 _ _ (x6 _ _ (x5 _ _ (x4 _ _ f3)))))))))⟩
      · exact ⟨a4, (Option.some.inj hx).symm, .inl (ym _ _ (y9 _ _ (x9 _ _ (x8 _ _ (y8 _ _ (x7 _ _ (x6 _ _ (x5 _ _ f4))))))))⟩
      · exact ⟨a5, (Option.some.inj hx).symm, .inl (ym _ _ (y9 _ _ (x9 _ _ (x8 _ _ (y8 _ _ (x7 _ _ (x6 _ _ f5)))))))⟩
      · exact ⟨a6, (Option.some.inj hx).symm, .inl (ym _ _ (y9 _ _ (x9 _ _ (x8 _ _ (y8 _ _ (x7 _ _ f6))))))⟩
      · exact ⟨a7, (Option.some.inj hx).symm, .inl (ym _ _ (y9 _ _ (x9 _ _ (x8 _ _ (y8 _ _ f7)))))⟩
      · exact ⟨a8, (Option.some.inj hx).symm, .inl (ym _ _ (y9 _ _ (x9 _ _ f8)))⟩
      · exact ⟨a9, (Option.some.inj hx).symm, .inl (ym _ _ (y9 _ _ f9))⟩
    clear x0 f0 x1 f1 x2 f2 x3 f3 x4 f4 x5 f5 x6 f6 x7 f7 x8 f8 x9 f9 y8 z8 y9 z9 w8 ym
    walk_at "rd"
    try dsimp only [List.set_cons_succ, List.set_cons_zero]
    refine ⟨mp, rfl, ⟨_, sq_of zm⟩, fun D hD => lc_list (xs := [.ref a0, .ref a1, .ref a2, .ref a3, .ref a4, .ref a5, .ref a6, .ref a7, .ref a8, .ref a9]) (fun i H' => ∃ rs, rs.length = i ∧ Rows K M D 0 rs H') ⟨[], rfl, hD, Ex.new hD, upd_same, AllOk.nil⟩ (fun i H' _ ⟨rs, _, r⟩ => sq_of (r.ex _ _ zm)) (fun i x H' hx ⟨rs, len, r⟩ => ⟨rfl, ?_⟩) fun H' ⟨rs, len, r⟩ => ?_⟩
    · obtain ⟨a, rfl, isE⟩ := made i x hx
      have lt : i < 10 := (List.getElem?_eq_some_iff.mp hx).1
      dsimp only [tYes]
      rw [if_pos rfl]
      walk_at "rd"
      try dsimp only [List.set_cons_succ, List.set_cons_zero]
      refine ⟨by show 3 ≤ sizeLine; decide, fun t ht => ⟨rs, (Ex.new ht) _ _ r.at_, Nat.lt_of_lt_of_le (show rs.length < 1000 by omega) (sz_of (Nat.le_refl _)), rs ++ [.ref t], by rw [List.length_append, len]; rfl, ?_⟩⟩
      have e1 : Ex H' (upd H' t (.tup [.ref a, .int 0, .int 0])) := Ex.new ht
      have nt : t ≠ D := fun c => by rw [c, r.at_] at ht; cases ht
      have md : Ex M (del (upd H' t (.tup [.ref a, .int 0, .int 0])) D) := fun b o hb => by
        have c : b ≠ D := fun c => by rw [c, hD] at hb; cases hb
        rw [del_ne c]
        exact e1 _ _ (r.ex _ _ hb)
      exact (r.to e1).app ⟨t, a, _, _, rfl, by rw [del_ne nt]; exact upd_same, by rw [Nat.zero_add, len]; exact isE.ex md, .inl ⟨rfl, .inl ⟨0, rfl⟩⟩⟩ rfl
    have R : Rows K M D 0 rs H' := r
    have ln : rs.length = 10 := len
    clear made zm r len
    walk_at "rd"
    try dsimp only [List.set_cons_succ, List.set_cons_zero]
    refine rd_mkV ?_
    walk_at "rd"
    try dsimp only [List.set_cons_succ, List.set_cons_zero]
    refine rd_made1 fun e10 d10 E10 he10 hd10 ex10 ae10 ad10 => ?_
    walk_at "rd"
    try dsimp only [List.set_cons_succ, List.set_cons_zero]
    have R10 := R.to ex10
    refine ⟨ty_lst R10.at_, ?_⟩
    walk_at "rd"
    try dsimp only [List.set_cons_succ, List.set_cons_zero]
    refine rd_xv ?_
    walk_at "rd"
    try dsimp only [List.set_cons_succ, List.set_cons_zero]
    refine ⟨e10, ga K "BadNumber", d10, _, one, rfl, (x_BadNumber E).f, (x_BadNumber E).n _ (by decide), ae10, ad10, rfl, ?_⟩
    walk_at "rd"
    try dsimp only [List.set_cons_succ, List.set_cons_zero]
    refine ⟨by show 3 ≤ sizeLine; decide, fun t10 ht10 => ?_⟩
    have w10 : Ex E10 (upd E10 t10 (.tup [.ref e10, one, one])) := Ex.new ht10
    have row10 : RowOk K (del (upd E10 t10 (.tup [.ref e10, one, one])) D) (.ref t10) 10 := row_made R.at_ he10 hd10 ex10 ae10 ad10 ht10 rfl rfl s1
    have S10 := R10.to w10
    generalize upd E10 t10 (.tup [.ref e10, one, one]) = F10 at w10 row10 S10 ⊢
    walk_at "rd"
    try dsimp only [List.set_cons_succ, List.set_cons_zero]
    refine rd_app S10.at_ (by simp only [List.length_append, List.length_cons, List.length_nil, ln]; decide) ?_
    have T10 := S10.app (r := .ref t10) (by simp only [List.length_append, List.length_cons, List.length_nil, ln]; exact row10) rfl
    generalize upd F10 D _ = J10 at T10 ⊢
    clear R10 S10 row10 w10 ae10 ad10 ex10 he10 hd10
    walk_at "rd"
    try dsimp only [List.set_cons_succ, List.set_cons_zero]
    refine rd_mkV ?_
    walk_at "rd"
    try dsimp only [List.set_cons_succ, List.set_cons_zero]
    refine rd_made1 fun e11 d11 E11 he11 hd11 ex11 ae11 ad11 => ?_
    walk_at "rd"
    try dsimp only [List.set_cons_succ, List.set_cons_zero]
    have R11 := T10.to ex11
    refine ⟨ty_lst R11.at_, ?_⟩
    walk_at "rd"
    try dsimp only [List.set_cons_succ, List.set_cons_zero]
    refine rd_xv ?_
    walk_at "rd"
    try dsimp only [List.set_cons_succ, List.set_cons_zero]
    refine ⟨e11, ga K "BadHeap", d11, _, one, rfl, (x_BadHeap E).f, (x_BadHeap E).n _ (by decide), ae11, ad11, rfl, ?_⟩
    walk_at "rd"
    try dsimp only [List.set_cons_succ, List.set_cons_zero]
    refine ⟨by show 3 ≤ sizeLine; decide, fun t11 ht11 => ?_⟩
    have w11 : Ex E11 (upd E11 t11 (.tup [.ref e11, one, one])) := Ex.new ht11
    have row11 : RowOk K (del (upd E11 t11 (.tup [.ref e11, one, one])) D) (.ref t11) 11 := row_made T10.at_ he11 hd11 ex11 ae11 ad11 ht11 rfl rfl s1
    have S11 := R11.to w11
    generalize upd E11 t11 (.tup [.ref e11, one, one]) = F11 at w11 row11 S11 ⊢
    walk_at "rd"
    try dsimp only [List.set_cons_succ, List.set_cons_zero]
    refine rd_app S11.at_ (by simp only [List.length_append, List.length_cons, List.length_nil, ln]; decide) ?_
    have T11 := S11.app (r := .ref t11) (by simp only [List.length_append, List.length_cons, List.length_nil, ln]; exact row11) rfl
    generalize upd F11 D _ = J11 at T11 ⊢
    clear R11 S11 row11 w11 ae11 ad11 ex11 he11 hd11
    walk_at "rd"
    try dsimp only [List.set_cons_succ, List.set_cons_zero]
    refine rd_mkV ?_
    walk_at "rd"
    try dsimp only [List.set_cons_succ, List.set_cons_zero]
    refine rd_made1 fun e12 d12 E12 he12 hd12 ex12 ae12 ad12 => ?_
    walk_at "rd"
    try dsimp only [List.set_cons_succ, List.set_cons_zero]
    have R12 := T11.to ex12
    refine ⟨ty_lst R12.at_, ?_⟩
    walk_at "rd"
    try dsimp only [List.set_cons_succ, List.set_cons_zero]
    refine rd_xv ?_
    walk_at "rd"
    try dsimp only [List.set_cons_succ, List.set_cons_zero]
    refine ⟨e12, ga K "BadPlaces", d12, _, one, rfl, (x_BadPlaces E).f, (x_BadPlaces E).n _ (by decide), ae12, ad12, rfl, ?_⟩
    walk_at "rd"
    try dsimp only [List.set_cons_succ, List.set_cons_zero]
    refine ⟨by show 3 ≤ sizeLine; decide, fun t12 ht12 => ?_⟩
    have w12 : Ex E12 (upd E12 t12 (.tup [.ref e12, one, one])) := Ex.new ht12
    have row12 : RowOk K (del (upd E12 t12 (.tup [.ref e12, one, one])) D) (.ref t12) 12 := row_made T11.at_ he12 hd12 ex12 ae12 ad12 ht12 rfl rfl s1
    have S12 := R12.to w12
    generalize upd E12 t12 (.tup [.ref e12, one, one]) = F12 at w12 row12 S12 ⊢
    walk_at "rd"
    try dsimp only [List.set_cons_succ, List.set_cons_zero]
    refine rd_app S12.at_ (by simp only [List.length_append, List.length_cons, List.length_nil, ln]; decide) ?_
    have T12 := S12.app (r := .ref t12) (by simp only [List.length_append, List.length_cons, List.length_nil, ln]; exact row12) rfl
    generalize upd F12 D _ = J12 at T12 ⊢
    clear R12 S12 row12 w12 ae12 ad12 ex12 he12 hd12
    walk_at "rd"
    try dsimp only [List.set_cons_succ, List.set_cons_zero]
    refine rd_mkV ?_
    walk_at "rd"
    try dsimp only [List.set_cons_succ, List.set_cons_zero]
    refine rd_made1 fun e13 d13 E13 he13 hd13 ex13 ae13 ad13 => ?_
    walk_at "rd"
    try dsimp only [List.set_cons_succ, List.set_cons_zero]
    have R13 := T12.to ex13
    refine ⟨ty_lst R13.at_, ?_⟩
    walk_at "rd"
    try dsimp only [List.set_cons_succ, List.set_cons_zero]
    refine rd_xv ?_
    walk_at "rd"
    try dsimp only [List.set_cons_succ, List.set_cons_zero]
    refine ⟨e13, ga K "BadWord", d13, _, one, rfl, (x_BadWord E).f, (x_BadWord E).n _ (by decide), ae13, ad13, rfl, ?_⟩
    walk_at "rd"
    try dsimp only [List.set_cons_succ, List.set_cons_zero]
    refine ⟨by show 3 ≤ sizeLine; decide, fun t13 ht13 => ?_⟩
    have w13 : Ex E13 (upd E13 t13 (.tup [.ref e13, one, one])) := Ex.new ht13
    have row13 : RowOk K (del (upd E13 t13 (.tup [.ref e13, one, one])) D) (.ref t13) 13 := row_made T12.at_ he13 hd13 ex13 ae13 ad13 ht13 rfl rfl s1
    have S13 := R13.to w13
    generalize upd E13 t13 (.tup [.ref e13, one, one]) = F13 at w13 row13 S13 ⊢
    walk_at "rd"
    try dsimp only [List.set_cons_succ, List.set_cons_zero]
    refine rd_app S13.at_ (by simp only [List.length_append, List.length_cons, List.length_nil, ln]; decide) ?_
    have T13 := S13.app (r := .ref t13) (by simp only [List.length_append, List.length_cons, List.length_nil, ln]; exact row13) rfl
    generalize upd F13 D _ = J13 at T13 ⊢
    clear R13 S13 row13 w13 ae13 ad13 ex13 he13 hd13
    walk_at "rd"
    try dsimp only [List.set_cons_succ, List.set_cons_zero]
    refine rd_mkV ?_
    walk_at "rd"
    try dsimp only [List.set_cons_succ, List.set_cons_zero]
    refine rd_made1 fun e14 d14 E14 he14 hd14 ex14 ae14 ad14 => ?_
    walk_at "rd"
    try dsimp only [List.set_cons_succ, List.set_cons_zero]
    have R14 := T13.to ex14
    refine ⟨ty_lst R14.at_, ?_⟩
    walk_at "rd"
    try dsimp only [List.set_cons_succ, List.set_cons_zero]
    refine rd_xv ?_
    walk_at "rd"
    try dsimp only [List.set_cons_succ, List.set_cons_zero]
    refine ⟨e14, ga K "OtherLetters", d14, _, one, rfl, (x_OtherLetters E).f, (x_OtherLetters E).n _ (by decide), ae14, ad14, rfl, ?_⟩
    walk_at "rd"
    try dsimp only [List.set_cons_succ, List.set_cons_zero]
    refine ⟨by show 3 ≤ sizeLine; decide, fun t14 ht14 => ?_⟩
    have w14 : Ex E14 (upd E14 t14 (.tup [.ref e14, one, one])) := Ex.new ht14
    have row14 : RowOk K (del (upd E14 t14 (.tup [.ref e14, one, one])) D) (.ref t14) 14 := row_made T13.at_ he14 hd14 ex14 ae14 ad14 ht14 rfl rfl s1
    have S14 := R14.to w14
    generalize upd E14 t14 (.tup [.ref e14, one, one]) = F14 at w14 row14 S14 ⊢
    walk_at "rd"
    try dsimp only [List.set_cons_succ, List.set_cons_zero]
    refine rd_app S14.at_ (by simp only [List.length_append, List.length_cons, List.length_nil, ln]; decide) ?_
    have T14 := S14.app (r := .ref t14) (by simp only [List.length_append, List.length_cons, List.length_nil, ln]; exact row14) rfl
    generalize upd F14 D _ = J14 at T14 ⊢
    clear R14 S14 row14 w14 ae14 ad14 ex14 he14 hd14
    walk_at "rd"
    try dsimp only [List.set_cons_succ, List.set_cons_zero]
    refine rd_mkV ?_
    walk_at "rd"
    try dsimp only [List.set_cons_succ, List.set_cons_zero]
    refine rd_made1 fun e15 d15 E15 he15 hd15 ex15 ae15 ad15 => ?_
    walk_at "rd"
    try dsimp only [List.set_cons_succ, List.set_cons_zero]
    have R15 := T14.to ex15
    refine ⟨ty_lst R15.at_, ?_⟩
    walk_at "rd"
    try dsimp only [List.set_cons_succ, List.set_cons_zero]
    refine rd_xv ?_
    walk_at "rd"
    try dsimp only [List.set_cons_succ, List.set_cons_zero]
    refine ⟨e15, ga K "TooMany", d15, _, one, rfl, (x_TooMany E).f, (x_TooMany E).n _ (by decide), ae15, ad15, rfl, ?_⟩
    walk_at "rd"
    try dsimp only [List.set_cons_succ, List.set_cons_zero]
    refine ⟨by show 3 ≤ sizeLine; decide, fun t15 ht15 => ?_⟩
    have w15 : Ex E15 (upd E15 t15 (.tup [.ref e15, one, one])) := Ex.new ht15
    have row15 : RowOk K (del (upd E15 t15 (.tup [.ref e15, one, one])) D) (.ref t15) 15 := row_made T14.at_ he15 hd15 ex15 ae15 ad15 ht15 rfl rfl s1
    have S15 := R15.to w15
    generalize upd E15 t15 (.tup [.ref e15, one, one]) = F15 at w15 row15 S15 ⊢
    walk_at "rd"
    try dsimp only [List.set_cons_succ, List.set_cons_zero]
    refine rd_app S15.at_ (by simp only [List.length_append, List.length_cons, List.length_nil, ln]; decide) ?_
    have T15 := S15.app (r := .ref t15) (by simp only [List.length_append, List.length_cons, List.length_nil, ln]; exact row15) rfl
    generalize upd F15 D _ = J15 at T15 ⊢
    clear R15 S15 row15 w15 ae15 ad15 ex15 he15 hd15
    walk_at "rd"
    try dsimp only [List.set_cons_succ, List.set_cons_zero]
    refine rd_mkV ?_
    walk_at "rd"
    try dsimp only [List.set_cons_succ, List.set_cons_zero]
    refine rd_made1 fun e16 d16 E16 he16 hd16 ex16 ae16 ad16 => ?_
    walk_at "rd"
    try dsimp only [List.set_cons_succ, List.set_cons_zero]
    have R16 := T15.to ex16
    refine ⟨ty_lst R16.at_, ?_⟩
    walk_at "rd"
    try dsimp only [List.set_cons_succ, List.set_cons_zero]
    refine rd_xv ?_
    walk_at "rd"
    try dsimp only [List.set_cons_succ, List.set_cons_zero]
    refine ⟨e16, ga K "NotInCode", d16, _, two, rfl, (x_NotInCode E).f, (x_NotInCode E).n _ (by decide), ae16, ad16, rfl, ?_⟩
    walk_at "rd"
    try dsimp only [List.set_cons_succ, List.set_cons_zero]
    refine ⟨by show 3 ≤ sizeLine; decide, fun t16 ht16 => ?_⟩
    have w16 : Ex E16 (upd E16 t16 (.tup [.ref e16, two, two])) := Ex.new ht16
    have row16 : RowOk K (del (upd E16 t16 (.tup [.ref e16, two, two])) D) (.ref t16) 16 := row_made T15.at_ he16 hd16 ex16 ae16 ad16 ht16 rfl rfl s2
    have S16 := R16.to w16
    generalize upd E16 t16 (.tup [.ref e16, two, two]) = F16 at w16 row16 S16 ⊢
    walk_at "rd"
    try dsimp only [List.set_cons_succ, List.set_cons_zero]
    refine rd_app S16.at_ (by simp only [List.length_append, List.length_cons, List.length_nil, ln]; decide) ?_
    have T16 := S16.app (r := .ref t16) (by simp only [List.length_append, List.length_cons, List.length_nil, ln]; exact row16) rfl
    generalize upd F16 D _ = J16 at T16 ⊢
    clear R16 S16 row16 w16 ae16 ad16 ex16 he16 hd16
    walk_at "rd"
    try dsimp only [List.set_cons_succ, List.set_cons_zero]
    refine rd_mkV ?_
    walk_at "rd"
    try dsimp only [List.set_cons_succ, List.set_cons_zero]
    refine rd_made1 fun e17 d17 E17 he17 hd17 ex17 ae17 ad17 => ?_
    walk_at "rd"
    try dsimp only [List.set_cons_succ, List.set_cons_zero]
    have R17 := T16.to ex17
    refine ⟨ty_lst R17.at_, ?_⟩
    walk_at "rd"
    try dsimp only [List.set_cons_succ, List.set_cons_zero]
    refine rd_xv ?_
    walk_at "rd"
    try dsimp only [List.set_cons_succ, List.set_cons_zero]
    refine ⟨e17, ga K "BadText", d17, _, two, rfl, (x_BadText E).f, (x_BadText E).n _ (by decide), ae17, ad17, rfl, ?_⟩
    walk_at "rd"
    try dsimp only [List.set_cons_succ, List.set_cons_zero]
    refine ⟨by show 3 ≤ sizeLine; decide, fun t17 ht17 => ?_⟩
    have w17 : Ex E17 (upd E17 t17 (.tup [.ref e17, two, two])) := Ex.new ht17
    have row17 : RowOk K (del (upd E17 t17 (.tup [.ref e17, two, two])) D) (.ref t17) 17 := row_made T16.at_ he17 hd17 ex17 ae17 ad17 ht17 rfl rfl s2
    have S17 := R17.to w17
    generalize upd E17 t17 (.tup [.ref e17, two, two]) = F17 at w17 row17 S17 ⊢
    walk_at "rd"
    try dsimp only [List.set_cons_succ, List.set_cons_zero]
    refine rd_app S17.at_ (by simp only [List.length_append, List.length_cons, List.length_nil, ln]; decide) ?_
    have T17 := S17.app (r := .ref t17) (by simp only [List.length_append, List.length_cons, List.length_nil, ln]; exact row17) rfl
    generalize upd F17 D _ = J17 at T17 ⊢
    clear R17 S17 row17 w17 ae17 ad17 ex17 he17 hd17
    walk_at "rd"
    try dsimp only [List.set_cons_succ, List.set_cons_zero]
    refine rd_mkV ?_
    walk_at "rd"
    try dsimp only [List.set_cons_succ, List.set_cons_zero]
    refine rd_made1 fun e18 d18 E18 he18 hd18 ex18 ae18 ad18 => ?_
    walk_at "rd"
    try dsimp only [List.set_cons_succ, List.set_cons_zero]
    have R18 := T17.to ex18
    refine ⟨ty_lst R18.at_, ?_⟩
    walk_at "rd"
    try dsimp only [List.set_cons_succ, List.set_cons_zero]
    refine rd_xv ?_
    walk_at "rd"
    try dsimp only [List.set_cons_succ, List.set_cons_zero]
    refine ⟨e18, ga K "NotTriangular", d18, _, two, rfl, (x_NotTriangular E).f, (x_NotTriangular E).n _ (by decide), ae18, ad18, rfl, ?_⟩
    walk_at "rd"
    try dsimp only [List.set_cons_succ, List.set_cons_zero]
    refine ⟨by show 3 ≤ sizeLine; decide, fun t18 ht18 => ?_⟩
    have w18 : Ex E18 (upd E18 t18 (.tup [.ref e18, two, two])) := Ex.new ht18
    have row18 : RowOk K (del (upd E18 t18 (.tup [.ref e18, two, two])) D) (.ref t18) 18 := row_made T17.at_ he18 hd18 ex18 ae18 ad18 ht18 rfl rfl s2
    have S18 := R18.to w18
    generalize upd E18 t18 (.tup [.ref e18, two, two]) = F18 at w18 row18 S18 ⊢
    walk_at "rd"
    try dsimp only [List.set_cons_succ, List.set_cons_zero]
    refine rd_app S18.at_ (by simp only [List.length_append, List.length_cons, List.length_nil, ln]; decide) ?_
    have T18 := S18.app (r := .ref t18) (by simp only [List.length_append, List.length_cons, List.length_nil, ln]; exact row18) rfl
    generalize upd F18 D _ = J18 at T18 ⊢
    clear R18 S18 row18 w18 ae18 ad18 ex18 he18 hd18
    walk_at "rd"
    try dsimp only [List.set_cons_succ, List.set_cons_zero]
    refine rd_mkV ?_
    walk_at "rd"
    try dsimp only [List.set_cons_succ, List.set_cons_zero]
    refine rd_made1 fun e19 d19 E19 he19 hd19 ex19 ae19 ad19 => ?_
    walk_at "rd"
    try dsimp only [List.set_cons_succ, List.set_cons_zero]
    have R19 := T18.to ex19
    refine ⟨ty_lst R19.at_, ?_⟩
    walk_at "rd"
    try dsimp only [List.set_cons_succ, List.set_cons_zero]
    refine rd_xv ?_
    walk_at "rd"
    try dsimp only [List.set_cons_succ, List.set_cons_zero]
    refine ⟨e19, ga K "NotMade", d19, _, two, rfl, (x_NotMade E).f, (x_NotMade E).n _ (by decide), ae19, ad19, rfl, ?_⟩
    walk_at "rd"
    try dsimp only [List.set_cons_succ, List.set_cons_zero]
    refine ⟨by show 3 ≤ sizeLine; decide, fun t19 ht19 => ?_⟩
    have w19 : Ex E19 (upd E19 t19 (.tup [.ref e19, two, two])) := Ex.new ht19
    have row19 : RowOk K (del (upd E19 t19 (.tup [.ref e19, two, two])) D) (.ref t19) 19 := row_made T18.at_ he19 hd19 ex19 ae19 ad19 ht19 rfl rfl s2
    have S19 := R19.to w19
    generalize upd E19 t19 (.tup [.ref e19, two, two]) = F19 at w19 row19 S19 ⊢
    walk_at "rd"
    try dsimp only [List.set_cons_succ, List.set_cons_zero]
    refine rd_app S19.at_ (by simp only [List.length_append, List.length_cons, List.length_nil, ln]; decide) ?_
    have T19 := S19.app (r := .ref t19) (by simp only [List.length_append, List.length_cons, List.length_nil, ln]; exact row19) rfl
    generalize upd F19 D _ = J19 at T19 ⊢
    clear R19 S19 row19 w19 ae19 ad19 ex19 he19 hd19
    walk_at "rd"
    try dsimp only [List.set_cons_succ, List.set_cons_zero]
    refine rd_mkV ?_
    walk_at "rd"
    try dsimp only [List.set_cons_succ, List.set_cons_zero]
    refine rd_made1 fun e20 d20 E20 he20 hd20 ex20 ae20 ad20 => ?_
    walk_at "rd"
    try dsimp only [List.set_cons_succ, List.set_cons_zero]
    have R20 := T19.to ex20
    refine ⟨ty_lst R20.at_, ?_⟩
    walk_at "rd"
    try dsimp only [List.set_cons_succ, List.set_cons_zero]
    refine rd_xv ?_
    walk_at "rd"
    try dsimp only [List.set_cons_succ, List.set_cons_zero]
    refine ⟨e20, ga K "BadBlocks", d20, _, two, rfl, (x_BadBlocks E).f, (x_BadBlocks E).n _ (by decide), ae20, ad20, rfl, ?_⟩
    walk_at "rd"
    try dsimp only [List.set_cons_succ, List.set_cons_zero]
    refine ⟨by show 3 ≤ sizeLine; decide, fun t20 ht20 => ?_⟩
    have w20 : Ex E20 (upd E20 t20 (.tup [.ref e20, two, two])) := Ex.new ht20
    have row20 : RowOk K (del (upd E20 t20 (.tup [.ref e20, two, two])) D) (.ref t20) 20 := row_made T19.at_ he20 hd20 ex20 ae20 ad20 ht20 rfl rfl s2
    have S20 := R20.to w20
    generalize upd E20 t20 (.tup [.ref e20, two, two]) = F20 at w20 row20 S20 ⊢
    walk_at "rd"
    try dsimp only [List.set_cons_succ, List.set_cons_zero]
    refine rd_app S20.at_ (by simp only [List.length_append, List.length_cons, List.length_nil, ln]; decide) ?_
    have T20 := S20.app (r := .ref t20) (by simp only [List.length_append, List.length_cons, List.length_nil, ln]; exact row20) rfl
    generalize upd F20 D _ = J20 at T20 ⊢
    clear R20 S20 row20 w20 ae20 ad20 ex20 he20 hd20
    walk_at "rd"
    try dsimp only [List.set_cons_succ, List.set_cons_zero]
    refine rd_mkV ?_
    walk_at "rd"
    try dsimp only [List.set_cons_succ, List.set_cons_zero]
    refine rd_made1 fun e21 d21 E21 he21 hd21 ex21 ae21 ad21 => ?_
    walk_at "rd"
    try dsimp only [List.set_cons_succ, List.set_cons_zero]
    have R21 := T20.to ex21
    refine ⟨ty_lst R21.at_, ?_⟩
    walk_at "rd"
    try dsimp only [List.set_cons_succ, List.set_cons_zero]
    refine rd_xv ?_
    walk_at "rd"
    try dsimp only [List.set_cons_succ, List.set_cons_zero]
    refine ⟨e21, ga K "BadBits", d21, _, one, rfl, (x_BadBits E).f, (x_BadBits E).n _ (by decide), ae21, ad21, rfl, ?_⟩
    walk_at "rd"
    try dsimp only [List.set_cons_succ, List.set_cons_zero]
    refine ⟨by show 3 ≤ sizeLine; decide, fun t21 ht21 => ?_⟩
    have w21 : Ex E21 (upd E21 t21 (.tup [.ref e21, one, one])) := Ex.new ht21
    have row21 : RowOk K (del (upd E21 t21 (.tup [.ref e21, one, one])) D) (.ref t21) 21 := row_made T20.at_ he21 hd21 ex21 ae21 ad21 ht21 rfl rfl s1
    have S21 := R21.to w21
    generalize upd E21 t21 (.tup [.ref e21, one, one]) = F21 at w21 row21 S21 ⊢
    walk_at "rd"
    try dsimp only [List.set_cons_succ, List.set_cons_zero]
    refine rd_app S21.at_ (by simp only [List.length_append, List.length_cons, List.length_nil, ln]; decide) ?_
    have T21 := S21.app (r := .ref t21) (by simp only [List.length_append, List.length_cons, List.length_nil, ln]; exact row21) rfl
    generalize upd F21 D _ = J21 at T21 ⊢
    clear R21 S21 row21 w21 ae21 ad21 ex21 he21 hd21
    walk_at "rd"
    try dsimp only [List.set_cons_succ, List.set_cons_zero]
    refine rd_mkV ?_
    walk_at "rd"
    try dsimp only [List.set_cons_succ, List.set_cons_zero]
    refine rd_made1 fun e22 d22 E22 he22 hd22 ex22 ae22 ad22 => ?_
    walk_at "rd"
    try dsimp only [List.set_cons_succ, List.set_cons_zero]
    have R22 := T21.to ex22
    refine ⟨ty_lst R22.at_, ?_⟩
    walk_at "rd"
    try dsimp only [List.set_cons_succ, List.set_cons_zero]
    refine rd_xv ?_
    walk_at "rd"
    try dsimp only [List.set_cons_succ, List.set_cons_zero]
    refine ⟨e22, ga K "BadEdit", d22, _, one, rfl, (x_BadEdit E).f, (x_BadEdit E).n _ (by decide), ae22, ad22, rfl, ?_⟩
    walk_at "rd"
    try dsimp only [List.set_cons_succ, List.set_cons_zero]
    refine ⟨by show 3 ≤ sizeLine; decide, fun t22 ht22 => ?_⟩
    have w22 : Ex E22 (upd E22 t22 (.tup [.ref e22, one, one])) := Ex.new ht22
    have row22 : RowOk K (del (upd E22 t22 (.tup [.ref e22, one, one])) D) (.ref t22) 22 := row_made T21.at_ he22 hd22 ex22 ae22 ad22 ht22 rfl rfl s1
    have S22 := R22.to w22
    generalize upd E22 t22 (.tup [.ref e22, one, one]) = F22 at w22 row22 S22 ⊢
    walk_at "rd"
    try dsimp only [List.set_cons_succ, List.set_cons_zero]
    refine rd_app S22.at_ (by simp only [List.length_append, List.length_cons, List.length_nil, ln]; decide) ?_
    have T22 := S22.app (r := .ref t22) (by simp only [List.length_append, List.length_cons, List.length_nil, ln]; exact row22) rfl
    generalize upd F22 D _ = J22 at T22 ⊢
    clear R22 S22 row22 w22 ae22 ad22 ex22 he22 hd22
    walk_at "rd"
    try dsimp only [List.set_cons_succ, List.set_cons_zero]
    refine rd_mkV ?_
    walk_at "rd"
    try dsimp only [List.set_cons_succ, List.set_cons_zero]
    refine rd_made1 fun e23 d23 E23 he23 hd23 ex23 ae23 ad23 => ?_
    walk_at "rd"
    try dsimp only [List.set_cons_succ, List.set_cons_zero]
    have R23 := T22.to ex23
    refine ⟨ty_lst R23.at_, ?_⟩
    walk_at "rd"
    try dsimp only [List.set_cons_succ, List.set_cons_zero]
    refine rd_xv ?_
    walk_at "rd"
    try dsimp only [List.set_cons_succ, List.set_cons_zero]
    refine ⟨e23, ga K "BadGoal", d23, _, two, rfl, (x_BadGoal E).f, (x_BadGoal E).n _ (by decide), ae23, ad23, rfl, ?_⟩
    walk_at "rd"
    try dsimp only [List.set_cons_succ, List.set_cons_zero]
    refine ⟨by show 3 ≤ sizeLine; decide, fun t23 ht23 => ?_⟩
    have w23 : Ex E23 (upd E23 t23 (.tup [.ref e23, two, two])) := Ex.new ht23
    have row23 : RowOk K (del (upd E23 t23 (.tup [.ref e23, two, two])) D) (.ref t23) 23 := row_made T22.at_ he23 hd23 ex23 ae23 ad23 ht23 rfl rfl s2
    have S23 := R23.to w23
    generalize upd E23 t23 (.tup [.ref e23, two, two]) = F23 at w23 row23 S23 ⊢
    walk_at "rd"
    try dsimp only [List.set_cons_succ, List.set_cons_zero]
    refine rd_app S23.at_ (by simp only [List.length_append, List.length_cons, List.length_nil, ln]; decide) ?_
    have T23 := S23.app (r := .ref t23) (by simp only [List.length_append, List.length_cons, List.length_nil, ln]; exact row23) rfl
    generalize upd F23 D _ = J23 at T23 ⊢
    clear R23 S23 row23 w23 ae23 ad23 ex23 he23 hd23
    walk_at "rd"
    try dsimp only [List.set_cons_succ, List.set_cons_zero]
    refine rd_mkV ?_
    walk_at "rd"
    try dsimp only [List.set_cons_succ, List.set_cons_zero]
    refine rd_made1 fun e24 d24 E24 he24 hd24 ex24 ae24 ad24 => ?_
    walk_at "rd"
    try dsimp only [List.set_cons_succ, List.set_cons_zero]
    have R24 := T23.to ex24
    refine ⟨ty_lst R24.at_, ?_⟩
    walk_at "rd"
    try dsimp only [List.set_cons_succ, List.set_cons_zero]
    refine rd_xv ?_
    walk_at "rd"
    try dsimp only [List.set_cons_succ, List.set_cons_zero]
    refine ⟨e24, ga K "BadHalves", d24, _, word, rfl, (x_BadHalves E).f, (x_BadHalves E).n _ (by decide), ae24, ad24, rfl, ?_⟩
    walk_at "rd"
    try dsimp only [List.set_cons_succ, List.set_cons_zero]
    refine ⟨by show 3 ≤ sizeLine; decide, fun t24 ht24 => ?_⟩
    have w24 : Ex E24 (upd E24 t24 (.tup [.ref e24, word, word])) := Ex.new ht24
    have row24 : RowOk K (del (upd E24 t24 (.tup [.ref e24, word, word])) D) (.ref t24) 24 := row_made T23.at_ he24 hd24 ex24 ae24 ad24 ht24 rfl rfl s3
    have S24 := R24.to w24
    generalize upd E24 t24 (.tup [.ref e24, word, word]) = F24 at w24 row24 S24 ⊢
    walk_at "rd"
    try dsimp only [List.set_cons_succ, List.set_cons_zero]
    refine rd_app S24.at_ (by simp only [List.length_append, List.length_cons, List.length_nil, ln]; decide) ?_
    have T24 := S24.app (r := .ref t24) (by simp only [List.length_append, List.length_cons, List.length_nil, ln]; exact row24) rfl
    generalize upd F24 D _ = J24 at T24 ⊢
    clear R24 S24 row24 w24 ae24 ad24 ex24 he24 hd24
    walk_at "rd"
    try dsimp only [List.set_cons_succ, List.set_cons_zero]
    exact q D _ J24 (fresh_back eM hD) (eM.trans T24.ex) T24.at_ (by simp only [List.length_append, List.length_cons, List.length_nil, ln]) (T24.ok.ex del_ex)

end
end Lw

set_option Elab.async false
set_option linter.all false
set_option maxRecDepth 100000
set_option maxHeartbeats 4000000
namespace Lw
open PySem PySem.Spec PyProof.Rows L2 He Evl StX
local macro_rules | `(tactic| walk_at "rd") => `(tactic| (repeat first
  | with_reducible refine rd_seq ?_
  | with_reducible refine rd_asg ?_
  | with_reducible refine rd_ret ?_
  | with_reducible refine rd_next ?_
  | with_reducible refine rd_drop ?_
  | with_reducible refine rd_if ?_
  | with_reducible refine rd_ifE ?_
  | ((with_reducible refine' rd_var ?hv ?_); (case hv => rfl))
  | with_reducible refine rd_c ?_
  | with_reducible refine rd_op ?_
  | with_reducible refine rd_chain ?_
  | with_reducible refine rd_I0 ?_
  | with_reducible refine rd_test ?_
  | with_reducible refine rd_B ?_
  | with_reducible refine rd_bl ?_
  | with_reducible refine rd_not ?_
  | with_reducible refine rd_and ?_
  | with_reducible refine rd_or ?_
  | with_reducible refine rd_andV ?_
  | with_reducible refine rd_orV ?_
  | with_reducible refine rd_notV ?_
  | with_reducible refine rd_cons ?_
  | with_reducible refine rd_nil ?_
  | with_reducible refine rd_CB ?_
  | with_reducible refine rd_callS ?_
  | with_reducible refine rd_raise0 ?_
  | with_reducible refine rd_raise1 ?_
  | with_reducible refine rd_raise2 ?_
  | ((with_reducible refine' rd_eq ?hs ?_); (case hs => rfl))
  | ((with_reducible refine' rd_ne ?hs ?_); (case hs => rfl))
  | ((with_reducible refine' rd_isT ?th ?hT ?_); (case th => assumption); (case hT => decide))
  | with_reducible refine rd_tup ?_
  | with_reducible refine rd_lst ?_
  | with_reducible refine rd_iEnum ?_
  | with_reducible refine rd_iEnumA ?_
  | ((with_reducible refine' rd_ixl ?hl ?hk ?_); (case hl => assumption); (case hk => rfl))
  | with_reducible refine rd_int1 ?_
  | with_reducible refine rd_sub ?_
  | with_reducible refine rd_gcons ?_
  | with_reducible refine rd_gnil ?_
  | with_reducible refine rd_iZip ?_
  | with_reducible refine rd_BM ?_
  | with_reducible refine rd_neg ?_
  | ((with_reducible refine' rd_last ?hl ?_); (case hl => assumption))
  | with_reducible refine rd_lc2 ?_
  | with_reducible refine rd_Rg1 ?_
  | with_reducible refine rd_tupRg ?_
  | with_reducible refine rd_sl ?_
  | with_reducible refine rd_noPart ?_
  | with_reducible refine rd_part ?_
  | with_reducible refine rd_for ?_
  | with_reducible refine rd_iRev ?_
  | with_reducible refine rd_gname ?_
  | with_reducible refine rd_NN ?_
  | with_reducible refine rd_NL ?_
  | with_reducible refine rd_LN ?_
  | ((with_reducible refine' rd_shl1 ?hs ?_); (case hs => omega))
  | ((with_reducible refine' rd_I ?hs ?_); (case hs => first | omega | decide | exact ⟨by decide, by decide, by decide⟩ | exact ⟨by omega, by omega⟩))
  | with_reducible refine rd_tr ?_
  | with_reducible refine rd_trI ?_
  | with_reducible refine rd_star ?_
  | with_reducible refine rd_fmtB ?_
  | with_reducible refine rd_M1 ?_
  | with_reducible refine rd_un ?_
  | with_reducible refine rd_lc ?_
  | with_reducible refine rd_iT ?_
  | with_reducible refine rd_iL ?_
  | with_reducible refine rd_iR1 ?_
  | with_reducible refine rd_iR2 ?_
  | dsimp only [List.set, start]))
section
variable {P : Program} {w : World} {K : PySem.W.Frag} {mg : Str → Option Value} {base : Heap}

def spTwo (K : PySem.W.Frag) : Sp := fun vs H Q _ => ∃ (one two word : V), vs = [one, two, word] ∧ Sc one ∧ Sc two ∧ Sc word ∧ ∀ p rs H', H p = none → Ex H H' → H' p = some (.lst rs) → rs.length = 7 → AllOk K H' rs 25 → Q (.ref p) H'
theorem h__law_two_told (E : Ctx K mg) : Has P w K mg base 4 "_law_two_told" ["_law_one", "_law_two", "_law_word"] (spTwo K) := by
  obtain ⟨fd, F⟩ := f__law_two_told E
  refine ⟨⟨fd, ?_, F.bindsN fun _ _ _ _ _ _ us hl => match us, hl with | [_, _, _], _ => rfl⟩, g__law_two_told E, F.kp⟩
  refine F.ok sc__law_two_told (fun vs H Q E' h => ?len) (fun cdv A outer s H vs Q E' hr h => ⟨_, (pss_cons (ps_set (i := 3) sc__law_two_told.nd rfl (.inl rfl) (pe_lst pa_nil))
 (pss_cons (ps_set (i := 4) sc__law_two_told.nd rfl (.inl rfl) (kmkV (K := K) rfl (i_BadChoice E) (hr.mono (by decide)) (pa_cons (pv 0) (pa_cons (pv 2) pa_nil))))
 (pss_cons (ps_expr (pe_bm PySem.F.plainAttrs_list PySem.F.slot_list_append PySem.F.type_list_append mt_append (pv 3) (pa_cons (pe_tup (pa_cons (pv 4) (pa_cons (pe_lst (pa_cons (kxv (K := K) rfl (pv 4)) (pa_cons (kxv (K := K) rfl (pv 4)) pa_nil))) (pa_cons (pe_lst (pa_cons (pv 0) (pa_cons (pv 2) pa_nil))) pa_nil)))) pa_nil)))
 (pss_cons (ps_set (i := 4) sc__law_two_told.nd rfl (.inl rfl) (kmkV (K := K) rfl (i_BadSubstitution E) (hr.mono (by decide)) (pa_cons (pv 2) (pa_cons (pv 0) pa_nil))))
 (pss_cons (ps_expr (pe_bm PySem.F.plainAttrs_list PySem.F.slot_list_append PySem.F.type_list_append mt_append (pv 3) (pa_cons (pe_tup (pa_cons (pv 4) (pa_cons (pe_lst (pa_cons (kxv (K := K) rfl (pv 4)) (pa_cons (kxv (K := K) rfl (pv 4)) pa_nil))) (pa_cons (pe_lst (pa_cons (pv 2) (pa_cons (pv 0) pa_nil))) pa_nil)))) pa_nil)))
 (pss_cons (ps_set (i := 4) sc__law_two_told.nd rfl (.inl rfl) (kmkV (K := K) rfl (i_NotClosed E) (hr.mono (by decide)) (pa_cons (pv 0) (pa_cons (pv 1) pa_nil))))
 (pss_cons (ps_expr (pe_bm PySem.F.plainAttrs_list PySem.F.slot_list_append PySem.F.type_list_append mt_append (pv 3) (pa_cons (pe_tup (pa_cons (pv 4) (pa_cons (pe_lst (pa_cons (kxv (K := K) rfl (pv 4)) (pa_cons (kxv (K := K) rfl (pv 4)) pa_nil))) (pa_cons (pe_lst (pa_cons (pv 0) (pa_cons (pv 1) pa_nil))) pa_nil)))) pa_nil)))
 (pss_cons (ps_set (i := 4) sc__law_two_told.nd rfl (.inl rfl) (kmkV (K := K) rfl (i_NotFalling E) (hr.mono (by decide)) (pa_cons (pv 0) (pa_cons (pv 1) pa_nil))))
 (pss_cons (ps_expr (pe_bm PySem.F.plainAttrs_list PySem.F.slot_list_append PySem.F.type_list_append mt_append (pv 3) (pa_cons (pe_tup (pa_cons (pv 4) (pa_cons (pe_lst (pa_cons (kxv (K := K) rfl (pv 4)) (pa_cons (kxv (K := K) rfl (pv 4)) pa_nil))) (pa_cons (pe_lst (pa_cons (pv 0) (pa_cons (pv 1) pa_nil))) pa_nil)))) pa_nil)))
 (pss_cons (ps_set (i := 4) sc__law_two_told.nd rfl (.inl rfl) (kmkV (K := K) rfl (i_BadForms E) (hr.mono (by decide)) (pa_cons (pv 1) (pa_cons (pv 2) pa_nil))))
 (pss_cons (ps_expr (pe_bm PySem.F.plainAttrs_list PySem.F.slot_list_append PySem.F.type_list_append mt_append (pv 3) (pa_cons (pe_tup (pa_cons (pv 4) (pa_cons (pe_lst (pa_cons (kxv (K := K) rfl (pv 4)) (pa_cons (kxv (K := K) rfl (pv 4)) pa_nil))) (pa_cons (pe_lst (pa_cons (pv 1) (pa_cons (pv 2) pa_nil))) pa_nil)))) pa_nil)))
 (pss_cons (ps_set (i := 4) sc__law_two_told.nd rfl (.inl rfl) (kmkV (K := K) rfl (i_NotMember E) (hr.mono (by decide)) (pa_cons (pv 0) (pa_cons (pv 1) pa_nil))))
 (pss_cons (ps_expr (pe_bm PySem.F.plainAttrs_list PySem.F.slot_list_append PySem.F.type_list_append mt_append (pv 3) (pa_cons (pe_tup (pa_cons (pv 4) (pa_cons (pe_lst (pa_cons (kxv (K := K) rfl (pv 4)) (pa_cons (kxv (K := K) rfl (pv 4)) pa_nil))) (pa_cons (pe_lst (pa_cons (pv 0) (pa_cons (pv 1) pa_nil))) pa_nil)))) pa_nil)))
 (pss_cons (ps_set (i := 4) sc__law_two_told.nd rfl (.inl rfl) (kmkV (K := K) rfl (i_Held E) (hr.mono (by decide)) (pa_cons (pv 0) (pa_cons (pv 1) pa_nil))))
 (pss_cons (ps_expr (pe_bm PySem.F.plainAttrs_list PySem.F.slot_list_append PySem.F.type_list_append mt_append (pv 3) (pa_cons (pe_tup (pa_cons (pv 4) (pa_cons (pe_lst (pa_cons (kxv (K := K) rfl (pv 4)) (pa_cons (kxv (K := K) rfl (pv 4)) pa_nil))) (pa_cons (pe_lst (pa_cons (pv 0) (pa_cons (pv 1) pa_nil))) pa_nil)))) pa_nil)))
 (pss_one (ps_ret (pv 3)))))))))))))))))), ?rd⟩)
  case len =>
    obtain ⟨one, two, word, rfl, _⟩ := h
    rfl
  case rd =>
    obtain ⟨one, two, word, rfl, s1, s2, s3, q⟩ := h
    rw [show L2.start N__law_two_told [one, two, word] = [some one, some two, some word, none, none] from rfl]
    walk_at "rd"
    try dsimp only [List.set_cons_succ, List.set_cons_zero]
    refine ⟨by show 0 ≤ sizeLine; exact Nat.zero_le _, fun D hD => ?_⟩
    have R0 : Rows K H D 25 [] (upd H D (.lst [])) := ⟨hD, Ex.new hD, upd_same, AllOk.nil⟩
    generalize upd H D (.lst []) = J0 at R0 ⊢
    walk_at "rd"
    try dsimp only [List.set_cons_succ, List.set_cons_zero]
    refine rd_mkV ?_
    walk_at "rd"
    try dsimp only [List.set_cons_succ, List.set_cons_zero]
    refine rd_made2 fun e1 d1 E1 he1 hd1 ex1 ae1 ad1 => ?_
    walk_at "rd"
    try dsimp only [List.set_cons_succ, List.set_cons_zero]
    have R1 := R0.to ex1
    refine ⟨ty_lst R1.at_, ?_⟩
    walk_at "rd"
    try dsimp only [List.set_cons_succ, List.set_cons_zero]
    refine rd_xv ?_
    walk_at "rd"
    try dsimp only [List.set_cons_succ, List.set_cons_zero]
    refine ⟨e1, ga K "BadChoice", d1, _, one, rfl, (x_BadChoice E).f, (x_BadChoice E).n _ (by decide), ae1, ad1, rfl, ?_⟩
    refine rd_xv ?_
    walk_at "rd"
    try dsimp only [List.set_cons_succ, List.set_cons_zero]
    refine ⟨e1, ga K "BadChoice", d1, _, word, rfl, (x_BadChoice E).f, (x_BadChoice E).n _ (by decide), ae1, ad1, rfl, ?_⟩
    walk_at "rd"
    try dsimp only [List.set_cons_succ, List.set_cons_zero]
    refine ⟨by show 2 ≤ sizeLine; decide, fun q1 hq1 => ?_⟩
    have u1 : Ex E1 (upd E1 q1 (.lst [one, word])) := Ex.new hq1
    have v1 : (upd E1 q1 (.lst [one, word])) q1 = some (.lst [one, word]) := upd_same
    generalize upd E1 q1 (.lst [one, word]) = U1 at u1 v1 ⊢
    walk_at "rd"
    try dsimp only [List.set_cons_succ, List.set_cons_zero]
    refine ⟨by show 2 ≤ sizeLine; decide, fun r1 hr1 => ?_⟩
    have y1 : Ex U1 (upd U1 r1 (.lst [one, word])) := Ex.new hr1
    have z1 : (upd U1 r1 (.lst [one, word])) r1 = some (.lst [one, word]) := upd_same
    generalize upd U1 r1 (.lst [one, word]) = Y1 at y1 z1 ⊢
    walk_at "rd"
    try dsimp only [List.set_cons_succ, List.set_cons_zero]
    refine ⟨by show 3 ≤ sizeLine; decide, fun t1 ht1 => ?_⟩
    have w1 : Ex Y1 (upd Y1 t1 (.tup [.ref e1, .ref q1, .ref r1])) := Ex.new ht1
    have g1 : (upd Y1 t1 (.tup [.ref e1, .ref q1, .ref r1])) t1 = some (.tup [.ref e1, .ref q1, .ref r1]) := upd_same
    generalize upd Y1 t1 (.tup [.ref e1, .ref q1, .ref r1]) = F1 at w1 g1 ⊢
    have l1 : Ex E1 F1 := (u1.trans y1).trans w1
    have row1 : RowOk K (del F1 D) (.ref t1) 25 := row_made2 R0.at_ he1 hd1 ex1 ae1 ad1 l1 (w1 _ _ (y1 _ _ v1)) (w1 _ _ z1) (fresh_back ex1 hq1) (fresh_back (ex1.trans u1) hr1) g1 (fresh_back ((ex1.trans u1).trans y1) ht1) rfl s1 s3
    have S1 := R1.to l1
    walk_at "rd"
    try dsimp only [List.set_cons_succ, List.set_cons_zero]
    refine rd_app S1.at_ (by simp only [List.length_append, List.length_cons, List.length_nil]; decide) ?_
    have T1 := S1.app (r := .ref t1) row1 rfl
    generalize upd F1 D _ = J1 at T1 ⊢
    clear R1 S1 row1 w1 ae1 ad1 ex1 he1 hd1 u1 v1 y1 z1 g1 l1
    walk_at "rd"
    try dsimp only [List.set_cons_succ, List.set_cons_zero]
    refine rd_mkV ?_
    walk_at "rd"
    try dsimp only [List.set_cons_succ, List.set_cons_zero]
    refine rd_made2 fun e2 d2 E2 he2 hd2 ex2 ae2 ad2 => ?_
    walk_at "rd"
    try dsimp only [List.set_cons_succ, List.set_cons_zero]
    have R2 := T1.to ex2
    refine ⟨ty_lst R2.at_, ?_⟩
    walk_at "rd"
    try dsimp only [List.set_cons_succ, List.set_cons_zero]
    refine rd_xv ?_
    walk_at "rd"
    try dsimp only [List.set_cons_succ, List.set_cons_zero]
    refine ⟨e2, ga K "BadSubstitution", d2, _, word, rfl, (x_BadSubstitution E).f, (x_BadSubstitution E).n _ (by decide), ae2, ad2, rfl, ?_⟩
    refine rd_xv ?_
    walk_at "rd"
    try dsimp only [List.set_cons_succ, List.set_cons_zero]
    refine ⟨e2, ga K "BadSubstitution", d2, _, one, rfl, (x_BadSubstitution E).f, (x_BadSubstitution E).n _ (by decide), ae2, ad2, rfl, ?_⟩
    walk_at "rd"
    try dsimp only [List.set_cons_succ, List.set_cons_zero]
    refine ⟨by show 2 ≤ sizeLine; decide, fun q2 hq2 => ?_⟩
    have u2 : Ex E2 (upd E2 q2 (.lst [word, one])) := Ex.new hq2
    have v2 : (upd E2 q2 (.lst [word, one])) q2 = some (.lst [word, one]) := upd_same
    generalize upd E2 q2 (.lst [word, one]) = U2 at u2 v2 ⊢
    walk_at "rd"
    try dsimp only [List.set_cons_succ, List.set_cons_zero]
    refine ⟨by show 2 ≤ sizeLine; decide, fun r2 hr2 => ?_⟩
    have y2 : Ex U2 (upd U2 r2 (.lst [word, one])) := Ex.new hr2
    have z2 : (upd U2 r2 (.lst [word, one])) r2 = some (.lst [word, one]) := upd_same
    generalize upd U2 r2 (.lst [word, one]) = Y2 at y2 z2 ⊢
    walk_at "rd"
    try dsimp only [List.set_cons_succ, List.set_cons_zero]
    refine ⟨by show 3 ≤ sizeLine; decide, fun t2 ht2 => ?_⟩
    have w2 : Ex Y2 (upd Y2 t2 (.tup [.ref e2, .ref q2, .ref r2])) := Ex.new ht2
    have g2 : (upd Y2 t2 (.tup [.ref e2, .ref q2, .ref r2])) t2 = some (.tup [.ref e2, .ref q2, .ref r2]) := upd_same
    generalize upd Y2 t2 (.tup [.ref e2, .ref q2, .ref r2]) = F2 at w2 g2 ⊢
    have l2 : Ex E2 F2 := (u2.trans y2).trans w2
    have row2 : RowOk K (del F2 D) (.ref t2) 26 := row_made2 T1.at_ he2 hd2 ex2 ae2 ad2 l2 (w2 _ _ (y2 _ _ v2)) (w2 _ _ z2) (fresh_back ex2 hq2) (fresh_back (ex2.trans u2) hr2) g2 (fresh_back ((ex2.trans u2).trans y2) ht2) rfl s3 s1
    have S2 := R2.to l2
    walk_at "rd"
    try dsimp only [List.set_cons_succ, List.set_cons_zero]
    refine rd_app S2.at_ (by simp only [List.length_append, List.length_cons, List.length_nil]; decide) ?_
    have T2 := S2.app (r := .ref t2) row2 rfl
    generalize upd F2 D _ = J2 at T2 ⊢
    clear R2 S2 row2 w2 ae2 ad2 ex2 he2 hd2 u2 v2 y2 z2 g2 l2
    walk_at "rd"
    try dsimp only [List.set_cons_succ, List.set_cons_zero]
    refine rd_mkV ?_
    walk_at "rd"
    try dsimp only [List.set_cons_succ, List.set_cons_zero]
    refine rd_made2 fun e3 d3 E3 he3 hd3 ex3 ae3 ad3 => ?_
    walk_at "rd"
    try dsimp only [List.set_cons_succ, List.set_cons_zero]
    have R3 := T2.to ex3
    refine ⟨ty_lst R3.at_, ?_⟩
    walk_at "rd"
    try dsimp only [List.set_cons_succ, List.set_cons_zero]
    refine rd_xv ?_
    walk_at "rd"
    try dsimp only [List.set_cons_succ, List.set_cons_zero]
    refine ⟨e3, ga K "NotClosed", d3, _, one, rfl, (x_NotClosed E).f, (x_NotClosed E).n _ (by decide), ae3, ad3, rfl, ?_⟩
    refine rd_xv ?_
    walk_at "rd"
    try dsimp only [List.set_cons_succ, List.set_cons_zero]
    refine ⟨e3, ga K "NotClosed", d3, _, two, rfl, (x_NotClosed E).f, (x_NotClosed E).n _ (by decide), ae3, ad3, rfl, ?_⟩
    walk_at "rd"
    try dsimp only [List.set_cons_succ, List.set_cons_zero]
    refine ⟨by show 2 ≤ sizeLine; decide, fun q3 hq3 => ?_⟩
    have u3 : Ex E3 (upd E3 q3 (.lst [one, two])) := Ex.new hq3
    have v3 : (upd E3 q3 (.lst [one, two])) q3 = some (.lst [one, two]) := upd_same
    generalize upd E3 q3 (.lst [one, two]) = U3 at u3 v3 ⊢
    walk_at "rd"
    try dsimp only [List.set_cons_succ, List.set_cons_zero]
    refine ⟨by show 2 ≤ sizeLine; decide, fun r3 hr3 => ?_⟩
    have y3 : Ex U3 (upd U3 r3 (.lst [one, two])) := Ex.new hr3
    have z3 : (upd U3 r3 (.lst [one, two])) r3 = some (.lst [one, two]) := upd_same
    generalize upd U3 r3 (.lst [one, two]) = Y3 at y3 z3 ⊢
    walk_at "rd"
    try dsimp only [List.set_cons_succ, List.set_cons_zero]
    refine ⟨by show 3 ≤ sizeLine; decide, fun t3 ht3 => ?_⟩
    have w3 : Ex Y3 (upd Y3 t3 (.tup [.ref e3, .ref q3, .ref r3])) := Ex.new ht3
    have g3 : (upd Y3 t3 (.tup [.ref e3, .ref q3, .ref r3])) t3 = some (.tup [.ref e3, .ref q3, .ref r3]) := upd_same
    generalize upd Y3 t3 (.tup [.ref e3, .ref q3, .ref r3]) = F3 at w3 g3 ⊢
    have l3 : Ex E3 F3 := (u3.trans y3).trans w3
    have row3 : RowOk K (del F3 D) (.ref t3) 27 := row_made2 T2.at_ he3 hd3 ex3 ae3 ad3 l3 (w3 _ _ (y3 _ _ v3)) (w3 _ _ z3) (fresh_back ex3 hq3) (fresh_back (ex3.trans u3) hr3) g3 (fresh_back ((ex3.trans u3).trans y3) ht3) rfl s1 s2
    have S3 := R3.to l3
    walk_at "rd"
    try dsimp only [List.set_cons_succ, List.set_cons_zero]
    refine rd_app S3.at_ (by simp only [List.length_append, List.length_cons, List.length_nil]; decide) ?_
    have T3 := S3.app (r := .ref t3) row3 rfl
    generalize upd F3 D _ = J3 at T3 ⊢
    clear R3 S3 row3 w3 ae3 ad3 ex3 he3 hd3 u3 v3 y3 z3 g3 l3
    walk_at "rd"
    try dsimp only [List.set_cons_succ, List.set_cons_zero]
    refine rd_mkV ?_
    walk_at "rd"
    try dsimp only [List.set_cons_succ, List.set_cons_zero]
    refine rd_made2 fun e4 d4 E4 he4 hd4 ex4 ae4 ad4 => ?_
    walk_at "rd"
    try dsimp only [List.set_cons_succ, List.set_cons_zero]
    have R4 := T3.to ex4
    refine ⟨ty_lst R4.at_, ?_⟩
    walk_at "rd"
    try dsimp only [List.set_cons_succ, List.set_cons_zero]
    refine rd_xv ?_
    walk_at "rd"
    try dsimp only [List.set_cons_succ, List.set_cons_zero]
    refine ⟨e4, ga K "NotFalling", d4, _, one, rfl, (x_NotFalling E).f, (x_NotFalling E).n _ (by decide), ae4, ad4, rfl, ?_⟩
    refine rd_xv ?_
    walk_at "rd"
    try dsimp only [List.set_cons_succ, List.set_cons_zero]
    refine ⟨e4, ga K "NotFalling", d4, _, two, rfl, (x_NotFalling E).f, (x_NotFalling E).n _ (by decide), ae4, ad4, rfl, ?_⟩
    walk_at "rd"
    try dsimp only [List.set_cons_succ, List.set_cons_zero]
    refine ⟨by show 2 ≤ sizeLine; decide, fun q4 hq4 => ?_⟩
    have u4 : Ex E4 (upd E4 q4 (.lst [one, two])) := Ex.new hq4
    have v4 : (upd E4 q4 (.lst [one, two])) q4 = some (.lst [one, two]) := upd_same
    generalize upd E4 q4 (.lst [one, two]) = U4 at u4 v4 ⊢
    walk_at "rd"
    try dsimp only [List.set_cons_succ, List.set_cons_zero]
    refine ⟨by show 2 ≤ sizeLine; decide, fun r4 hr4 => ?_⟩
    have y4 : Ex U4 (upd U4 r4 (.lst [one, two])) := Ex.new hr4
    have z4 : (upd U4 r4 (.lst [one, two])) r4 = some (.lst [one, two]) := upd_same
    generalize upd U4 r4 (.lst [one, two]) = Y4 at y4 z4 ⊢
    walk_at "rd"
    try dsimp only [List.set_cons_succ, List.set_cons_zero]
    refine ⟨by show 3 ≤ sizeLine; decide, fun t4 ht4 => ?_⟩
    have w4 : Ex Y4 (upd Y4 t4 (.tup [.ref e4, .ref q4, .ref r4])) := Ex.new ht4
    have g4 : (upd Y4 t4 (.tup [.ref e4, .ref q4, .ref r4])) t4 = some (.tup [.ref e4, .ref q4, .ref r4]) := upd_same
    generalize upd Y4 t4 (.tup [.ref e4, .ref q4, .ref r4]) = F4 at w4 g4 ⊢
    have l4 : Ex E4 F4 := (u4.trans y4).trans w4
    have row4 : RowOk K (del F4 D) (.ref t4) 28 := row_made2 T3.at_ he4 hd4 ex4 ae4 ad4 l4 (w4 _ _ (y4 _ _ v4)) (w4 _ _ z4) (fresh_back ex4 hq4) (fresh_back (ex4.trans u4) hr4) g4 (fresh_back ((ex4.trans u4).trans y4) ht4) rfl s1 s2
    have S4 := R4.to l4
    walk_at "rd"
    try dsimp only [List.set_cons_succ, List.set_cons_zero]
    refine rd_app S4.at_ (by simp only [List.length_append, List.length_cons, List.length_nil]; decide) ?_
    have T4 := S4.app (r := .ref t4) row4 rfl
    generalize upd F4 D _ = J4 at T4 ⊢
    clear R4 S4 row4 w4 ae4 ad4 ex4 he4 hd4 u4 v4 y4 z4 g4 l4
    walk_at "rd"
    try dsimp only [List.set_cons_succ, List.set_cons_zero]
    refine rd_mkV ?_
    walk_at "rd"
    try dsimp only [List.set_cons_succ, List.set_cons_zero]
    refine rd_made2 fun e5 d5 E5 he5 hd5 ex5 ae5 ad5 => ?_
    walk_at "rd"
    try dsimp only [List.set_cons_succ, List.set_cons_zero]
    have R5 := T4.to ex5
    refine ⟨ty_lst R5.at_, ?_⟩
    walk_at "rd"
    try dsimp only [List.set_cons_succ, List.set_cons_zero]
    refine rd_xv ?_
    walk_at "rd"
    try dsimp only [List.set_cons_succ, List.set_cons_zero]
    refine ⟨e5, ga K "BadForms", d5, _, two, rfl, (x_BadForms E).f, (x_BadForms E).n _ (by decide), ae5, ad5, rfl, ?_⟩
    refine rd_xv ?_
    walk_at "rd"
    try dsimp only [List.set_cons_succ, List.set_cons_zero]
    refine ⟨e5, ga K "BadForms", d5, _, word, rfl, (x_BadForms E).f, (x_BadForms E).n _ (by decide), ae5, ad5, rfl, ?_⟩
    walk_at "rd"
    try dsimp only [List.set_cons_succ, List.set_cons_zero]
    refine ⟨by show 2 ≤ sizeLine; decide, fun q5 hq5 => ?_⟩
    have u5 : Ex E5 (upd E5 q5 (.lst [two, word])) := Ex.new hq5
    have v5 : (upd E5 q5 (.lst [two, word])) q5 = some (.lst [two, word]) := upd_same
    generalize upd E5 q5 (.lst [two, word]) = U5 at u5 v5 ⊢
    walk_at "rd"
    try dsimp only [List.set_cons_succ, List.set_cons_zero]
    refine ⟨by show 2 ≤ sizeLine; decide, fun r5 hr5 => ?_⟩
    have y5 : Ex U5 (upd U5 r5 (.lst [two, word])) := Ex.new hr5
    have z5 : (upd U5 r5 (.lst [two, word])) r5 = some (.lst [two, word]) := upd_same
    generalize upd U5 r5 (.lst [two, word]) = Y5 at y5 z5 ⊢
    walk_at "rd"
    try dsimp only [List.set_cons_succ, List.set_cons_zero]
    refine ⟨by show 3 ≤ sizeLine; decide, fun t5 ht5 => ?_⟩
    have w5 : Ex Y5 (upd Y5 t5 (.tup [.ref e5, .ref q5, .ref r5])) := Ex.new ht5
    have g5 : (upd Y5 t5 (.tup [.ref e5, .ref q5, .ref r5])) t5 = some (.tup [.ref e5, .ref q5, .ref r5]) := upd_same
    generalize upd Y5 t5 (.tup [.ref e5, .ref q5, .ref r5]) = F5 at w5 g5 ⊢
    have l5 : Ex E5 F5 := (u5.trans y5).trans w5
    have row5 : RowOk K (del F5 D) (.ref t5) 29 := row_made2 T4.at_ he5 hd5 ex5 ae5 ad5 l5 (w5 _ _ (y5 _ _ v5)) (w5 _ _ z5) (fresh_back ex5 hq5) (fresh_back (ex5.trans u5) hr5) g5 (fresh_back ((ex5.trans u5).trans y5) ht5) rfl s2 s3
    have S5 := R5.to l5
    walk_at "rd"
    try dsimp only [List.set_cons_succ, List.set_cons_zero]
    refine rd_app S5.at_ (by simp only [List.length_append, List.length_cons, List.length_nil]; decide) ?_
    have T5 := S5.app (r := .ref t5) row5 rfl
    generalize upd F5 D _ = J5 at T5 ⊢
    clear R5 S5 row5 w5 ae5 ad5 ex5 he5 hd5 u5 v5 y5 z5 g5 l5
    walk_at "rd"
    try dsimp only [List.set_cons_succ, List.set_cons_zero]
    refine rd_mkV ?_
    walk_at "rd"
    try dsimp only [List.set_cons_succ, List.set_cons_zero]
    refine rd_made2 fun e6 d6 E6 he6 hd6 ex6 ae6 ad6 => ?_
    walk_at "rd"
    try dsimp only [List.set_cons_succ, List.set_cons_zero]
    have R6 := T5.to ex6
    refine ⟨ty_lst R6.at_, ?_⟩
    walk_at "rd"
    try dsimp only [List.set_cons_succ, List.set_cons_zero]
    refine rd_xv ?_
    walk_at "rd"
    try dsimp only [List.set_cons_succ, List.set_cons_zero]
    refine ⟨e6, ga K "NotMember", d6, _, one, rfl, (x_NotMember E).f, (x_NotMember E).n _ (by decide), ae6, ad6, rfl, ?_⟩
    refine rd_xv ?_
    walk_at "rd"
    try dsimp only [List.set_cons_succ, List.set_cons_zero]
    refine ⟨e6, ga K "NotMember", d6, _, two, rfl, (x_NotMember E).f, (x_NotMember E).n _ (by decide), ae6, ad6, rfl, ?_⟩
    walk_at "rd"
    try dsimp only [List.set_cons_succ, List.set_cons_zero]
    refine ⟨by show 2 ≤ sizeLine; decide, fun q6 hq6 => ?_⟩
    have u6 : Ex E6 (upd E6 q6 (.lst [one, two])) := Ex.new hq6
    have v6 : (upd E6 q6 (.lst [one, two])) q6 = some (.lst [one, two]) := upd_same
    generalize upd E6 q6 (.lst [one, two]) = U6 at u6 v6 ⊢
    walk_at "rd"
    try dsimp only [List.set_cons_succ, List.set_cons_zero]
    refine ⟨by show 2 ≤ sizeLine; decide, fun r6 hr6 => ?_⟩
    have y6 : Ex U6 (upd U6 r6 (.lst [one, two])) := Ex.new hr6
    have z6 : (upd U6 r6 (.lst [one, two])) r6 = some (.lst [one, two]) := upd_same
    generalize upd U6 r6 (.lst [one, two]) = Y6 at y6 z6 ⊢
    walk_at "rd"
    try dsimp only [List.set_cons_succ, List.set_cons_zero]
    refine ⟨by show 3 ≤ sizeLine; decide, fun t6 ht6 => ?_⟩
    have w6 : Ex Y6 (upd Y6 t6 (.tup [.ref e6, .ref q6, .ref r6])) := Ex.new ht6
    have g6 : (upd Y6 t6 (.tup [.ref e6, .ref q6, .ref r6])) t6 = some (.tup [.ref e6, .ref q6, .ref r6]) := upd_same
    generalize upd Y6 t6 (.tup [.ref e6, .ref q6, .ref r6]) = F6 at w6 g6 ⊢
    have l6 : Ex E6 F6 := (u6.trans y6).trans w6
    have row6 : RowOk K (del F6 D) (.ref t6) 30 := row_made2 T5.at_ he6 hd6 ex6 ae6 ad6 l6 (w6 _ _ (y6 _ _ v6)) (w6 _ _ z6) (fresh_back ex6 hq6) (fresh_back (ex6.trans u6) hr6) g6 (fresh_back ((ex6.trans u6).trans y6) ht6) rfl s1 s2
    have S6 := R6.to l6
    walk_at "rd"
    try dsimp only [List.set_cons_succ, List.set_cons_zero]
    refine rd_app S6.at_ (by simp only [List.length_append, List.length_cons, List.length_nil]; decide) ?_
    have T6 := S6.app (r := .ref t6) row6 rfl
    generalize upd F6 D _ = J6 at T6 ⊢
    clear R6 S6 row6 w6 ae6 ad6 ex6 he6 hd6 u6 v6 y6 z6 g6 l6
    walk_at "rd"
    try dsimp only [List.set_cons_succ, List.set_cons_zero]
    refine rd_mkV ?_
    walk_at "rd"
    try dsimp only [List.set_cons_succ, List.set_cons_zero]
    refine rd_made2 fun e7 d7 E7 he7 hd7 ex7 ae7 ad7 => ?_
    walk_at "rd"
    try dsimp only [List.set_cons_succ, List.set_cons_zero]
    have R7 := T6.to ex7
    refine ⟨ty_lst R7.at_, ?_⟩
    walk_at "rd"
    try dsimp only [List.set_cons_succ, List.set_cons_zero]
    refine rd_xv ?_
    walk_at "rd"
    try dsimp only [List.set_cons_succ, List.set_cons_zero]
    refine ⟨e7, ga K "Held", d7, _, one, rfl, (x_Held E).f, (x_Held E).n _ (by decide), ae7, ad7, rfl, ?_⟩
    refine rd_xv ?_
    walk_at "rd"
    try dsimp only [List.set_cons_succ, List.set_cons_zero]
    refine ⟨e7, ga K "Held", d7, _, two, rfl, (x_Held E).f, (x_Held E).n _ (by decide), ae7, ad7, rfl, ?_⟩
    walk_at "rd"
    try dsimp only [List.set_cons_succ, List.set_cons_zero]
    refine ⟨by show 2 ≤ sizeLine; decide, fun q7 hq7 => ?_⟩
    have u7 : Ex E7 (upd E7 q7 (.lst [one, two])) := Ex.new hq7
    have v7 : (upd E7 q7 (.lst [one, two])) q7 = some (.lst [one, two]) := upd_same
    generalize upd E7 q7 (.lst [one, two]) = U7 at u7 v7 ⊢
    walk_at "rd"
    try dsimp only [List.set_cons_succ, List.set_cons_zero]
    refine ⟨by show 2 ≤ sizeLine; decide, fun r7 hr7 => ?_⟩
    have y7 : Ex U7 (upd U7 r7 (.lst [one, two])) := Ex.new hr7
    have z7 : (upd U7 r7 (.lst [one, two])) r7 = some (.lst [one, two]) := upd_same
    generalize upd U7 r7 (.lst [one, two]) = Y7 at y7 z7 ⊢
    walk_at "rd"
    try dsimp only [List.set_cons_succ, List.set_cons_zero]
    refine ⟨by show 3 ≤ sizeLine; decide, fun t7 ht7 => ?_⟩
    have w7 : Ex Y7 (upd Y7 t7 (.tup [.ref e7, .ref q7, .ref r7])) := Ex.new ht7
    have g7 : (upd Y7 t7 (.tup [.ref e7, .ref q7, .ref r7])) t7 = some (.tup [.ref e7, .ref q7, .ref r7]) := upd_same
    generalize upd Y7 t7 (.tup [.ref e7, .ref q7, .ref r7]) = F7 at w7 g7 ⊢
    have l7 : Ex E7 F7 := (u7.trans y7).trans w7
    have row7 : RowOk K (del F7 D) (.ref t7) 31 := row_made2 T6.at_ he7 hd7 ex7 ae7 ad7 l7 (w7 _ _ (y7 _ _ v7)) (w7 _ _ z7) (fresh_back ex7 hq7) (fresh_back (ex7.trans u7) hr7) g7 (fresh_back ((ex7.trans u7).trans y7) ht7) rfl s1 s2
    have S7 := R7.to l7
    walk_at "rd"
    try dsimp only [List.set_cons_succ, List.set_cons_zero]
    refine rd_app S7.at_ (by simp only [List.length_append, List.length_cons, List.length_nil]; decide) ?_
    have T7 := S7.app (r := .ref t7) row7 rfl
    generalize upd F7 D _ = J7 at T7 ⊢
    clear R7 S7 row7 w7 ae7 ad7 ex7 he7 hd7 u7 v7 y7 z7 g7 l7
    walk_at "rd"
    try dsimp only [List.set_cons_succ, List.set_cons_zero]
    exact q D _ J7 hD T7.ex T7.at_ rfl (T7.ok.ex del_ex)

end
end Lw

set_option Elab.async false
set_option linter.all false
set_option maxRecDepth 100000
set_option maxHeartbeats 4000000
namespace Lw
open PySem PySem.Spec PyProof.Rows L2 He Evl StX
local macro_rules | `(tactic| walk_at "rd") => `(tactic| (repeat first
  | with_reducible refine rd_seq ?_
  | with_reducible refine rd_asg ?_
  | with_reducible refine rd_ret ?_
  | with_reducible refine rd_next ?_
  | with_reducible refine rd_drop ?_
  | with_reducible refine rd_if ?_
  | with_reducible refine rd_ifE ?_
  | ((with_reducible refine' rd_var ?hv ?_); (case hv => rfl))
  | with_reducible refine rd_c ?_
  | with_reducible refine rd_op ?_
  | with_reducible refine rd_chain ?_
  | with_reducible refine rd_I0 ?_
  | with_reducible refine rd_test ?_
  | with_reducible refine rd_B ?_
  | with_reducible refine rd_bl ?_
  | with_reducible refine rd_not ?_
  | with_reducible refine rd_and ?_
  | with_reducible refine rd_or ?_
  | with_reducible refine rd_andV ?_
  | with_reducible refine rd_orV ?_
  | with_reducible refine rd_notV ?_
  | with_reducible refine rd_cons ?_
  | with_reducible refine rd_nil ?_
  | with_reducible refine rd_CB ?_
  | with_reducible refine rd_callS ?_
  | with_reducible refine rd_raise0 ?_
  | with_reducible refine rd_raise1 ?_
  | with_reducible refine rd_raise2 ?_
  | ((with_reducible refine' rd_eq ?hs ?_); (case hs => rfl))
  | ((with_reducible refine' rd_ne ?hs ?_); (case hs => rfl))
  | ((with_reducible refine' rd_isT ?th ?hT ?_); (case th => assumption); (case hT => decide))
  | with_reducible refine rd_tup ?_
  | with_reducible refine rd_lst ?_
  | with_reducible refine rd_iEnum ?_
  | with_reducible refine rd_iEnumA ?_
  | ((with_reducible refine' rd_ixl ?hl ?hk ?_); (case hl => assumption); (case hk => rfl))
  | with_reducible refine rd_int1 ?_
  | with_reducible refine rd_sub ?_
  | with_reducible refine rd_gcons ?_
  | with_reducible refine rd_gnil ?_
  | with_reducible refine rd_iZip ?_
  | with_reducible refine rd_BM ?_
  | with_reducible refine rd_neg ?_
  | ((with_reducible refine' rd_last ?hl ?_); (case hl => assumption))
  | with_reducible refine rd_lc2 ?_
  | with_reducible refine rd_Rg1 ?_
  | with_reducible refine rd_tupRg ?_
  | with_reducible refine rd_sl ?_
  | with_reducible refine rd_noPart ?_
  | with_reducible refine rd_part ?_
  | with_reducible refine rd_for ?_
  | with_reducible refine rd_iRev ?_
  | with_reducible refine rd_gname ?_
  | with_reducible refine rd_NN ?_
  | with_reducible refine rd_NL ?_
  | with_reducible refine rd_LN ?_
  | ((with_reducible refine' rd_shl1 ?hs ?_); (case hs => omega))
  | ((with_reducible refine' rd_I ?hs ?_); (case hs => first | omega | decide | exact ⟨by decide, by decide, by decide⟩ | exact ⟨by omega, by omega⟩))
  | with_reducible refine rd_tr ?_
  | with_reducible refine rd_trI ?_
  | with_reducible refine rd_star ?_
  | with_reducible refine rd_fmtB ?_
  | with_reducible refine rd_M1 ?_
  | with_reducible refine rd_un ?_
  | with_reducible refine rd_lc ?_
  | with_reducible refine rd_iT ?_
  | with_reducible refine rd_iL ?_
  | with_reducible refine rd_iR1 ?_
  | with_reducible refine rd_iR2 ?_
  | dsimp only [List.set, start]))
section
variable {P : Program} {w : World} {K : PySem.W.Frag} {mg : Str → Option Value} {base : Heap}

def goodS (y : Str) : Prop := y.length = 1 ∧ y.cps.all (· < 0x110000) = true
theorem emp_all : (Str.ofString "").cps.all (· < 0x110000) = true := by
  have e : (Str.ofString "").cps = #[] := by decide +kernel
  rw [e]
  simp
theorem join_good : ∀ ys : List Str, (∀ y ∈ ys, goodS y) → (Str.join "" ys).cps.all (· < 0x110000) = true
  | [], _ => by
    show (#[] : Array Nat).all (· < 0x110000) = true
    simp
  | [x], h => (h x List.mem_cons_self).2
  | x :: y :: r, h => by
    have e : Str.join "" (x :: y :: r) = x ++ "" ++ Str.join "" (y :: r) := rfl
    rw [e]
    have ih := join_good (y :: r) fun z hz => h z (List.mem_cons_of_mem _ hz)
    have hx := (h x List.mem_cons_self).2
    show ((x.cps ++ (Str.ofString "").cps) ++ (Str.join "" (y :: r)).cps).all (· < 0x110000) = true
    rw [Array.all_append, Array.all_append, hx, ih, emp_all]
    rfl
theorem join_lay {ys : List Str} (h : ∀ y ∈ ys, goodS y) : PyData.canLay0 (.str (Txt.join "" ys)) = true := by
  have e : Txt.join "" ys = Str.join "" ys := by
    unfold Txt.join
    rw [StrLaws.glued_eq_join]
  rw [e]
  simp only [PyData.canLay0]
  exact join_good ys h
theorem sum_good : ∀ ys : List Str, (∀ y ∈ ys, goodS y) → (ys.map (·.length)).sum = ys.length
  | [], _ => rfl
  | x :: r, h => by
    rw [List.map_cons, List.sum_cons, sum_good r fun z hz => h z (List.mem_cons_of_mem _ hz), (h x List.mem_cons_self).1, List.length_cons]
    omega
theorem sign_at : ∀ r : Nat, r < 11 → ∃ c, atI (Str.ofString "abcdefghij ").cps.toList (r : Int) = some c ∧ goodS ⟨#[c]⟩ := by
  intro r hr
  have key : ∀ r : Nat, r < 11 → ∃ c, (Str.ofString "abcdefghij ").cps.toList[r]? = some c ∧ decide (c < 0x110000) = true := by
    intro r hr
    rcases (show r = 0 ∨ r = 1 ∨ r = 2 ∨ r = 3 ∨ r = 4 ∨ r = 5 ∨ r = 6 ∨ r = 7 ∨ r = 8 ∨ r = 9 ∨ r = 10 by omega) with rfl | rfl | rfl | rfl | rfl | rfl | rfl | rfl | rfl | rfl | rfl
    all_goals exact ⟨_, rfl, rfl⟩
  obtain ⟨c, h1, h2⟩ := key r hr
  refine ⟨c, atI_nat h1, rfl, ?_⟩
  simp only [Array.all_eq_true_iff_forall_mem]
  intro x hx
  simp at hx
  rw [hx]
  exact h2
theorem dp_bools {H : Hp} : ∀ bs : List Bool, DpAll K H (bs.map V.bl) (bs.map PyData.bool)
  | [] => .nil
  | b :: r => .cons (.bl b) (dp_bools r)
theorem shaped_bools (bs : List Bool) : SeqAt.shaped (.list (bs.map PyData.bool)) = true := by
  have lay : ∀ bs : List Bool, PyData.canLayAll0 (bs.map PyData.bool) = true := fun bs => by
    induction bs with
    | nil => simp only [List.map_nil, PyData.canLayAll0]
    | cons b r ih => simp only [List.map_cons, PyData.canLayAll0, PyData.canLay0, ih, Bool.and_self]
  have dep : ∀ bs : List Bool, PyData.depthAll (bs.map PyData.bool) = 0 := fun bs => by
    induction bs with
    | nil => simp only [List.map_nil, PyData.depthAll]
    | cons b r ih => simp only [List.map_cons, PyData.depthAll, PyData.depth, ih, Nat.max_self]
  unfold SeqAt.shaped
  simp only [PyData.canLay0, PyData.depth, lay, dep]
  decide
theorem eqv_bools : ∀ bs : List Bool, PyData.eqvAll (bs.map PyData.bool) (bs.map PyData.bool) = true
  | [] => by simp [PyData.eqvAll]
  | b :: r => by
    simp only [List.map_cons, PyData.eqvAll, eqv_bools r, Bool.and_true]
    cases b <;> simp [PyData.eqv]
theorem rd_neB {H : Hp} {Q : VK} {p q : Addr} {bs : List Bool} (h1 : H p = some (.lst (bs.map V.bl))) (h2 : H q = some (.lst (bs.map V.bl))) (k : Q (.bl false) H) : rNeD K (.ref p) (.ref q) H Q :=
  ⟨_, _, .lst (sq_of h1) (dp_bools bs), .lst (sq_of h2) (dp_bools bs), shaped_bools bs, shaped_bools bs, by simp only [PyData.eqv]; rw [eqv_bools]; exact k⟩
theorem sc_dp {H : Hp} {v : V} (h : Sc v) : ∃ d, Dp K H v d ∧ PyData.canLay0 d = true ∧ PyData.depth d = 0 ∧ PyData.eqv d d = true := by
  rcases h with ⟨i, rfl⟩ | ⟨s, rfl, hs⟩
  · exact ⟨_, .int i, by simp only [PyData.canLay0], by simp only [PyData.depth], by simp [PyData.eqv]⟩
  · exact ⟨_, .str s, hs, by simp only [PyData.depth], by simp [PyData.eqv]⟩
theorem rd_neM {H : Hp} {Q : VK} {v w : V} (h : SameD H v w) (k : Q (.bl false) H) : rNeM K v w H Q := by
  rcases h with ⟨rfl, sc⟩ | ⟨p, q, x, y, rfl, rfl, h1, h2, sx, sy⟩
  · refine .inl ⟨?_, ?_⟩
    · rcases sc with ⟨i, rfl⟩ | ⟨s, rfl, _⟩ <;> rfl
    · rw [decide_eq_true rfl]
      exact k
  · obtain ⟨dx, x1, x2, x3, x4⟩ := sc_dp (K := K) (H := H) sx
    obtain ⟨dy, y1, y2, y3, y4⟩ := sc_dp (K := K) (H := H) sy
    have sh : SeqAt.shaped (.list [dx, dy]) = true := by
      unfold SeqAt.shaped
      simp only [PyData.canLay0, PyData.canLayAll0, PyData.depth, PyData.depthAll, x2, y2, x3, y3]
      decide
    have ev : PyData.eqv (.list [dx, dy]) (.list [dx, dy]) = true := by
      simp only [PyData.eqv, PyData.eqvAll, x4, y4]
      rfl
    exact .inr ⟨_, _, .lst (sq_of h1) (.cons x1 (.cons y1 .nil)), .lst (sq_of h2) (.cons x1 (.cons y1 .nil)), sh, sh, by rw [ev]; exact k⟩

end
end Lw

set_option Elab.async false
set_option linter.all false
set_option maxRecDepth 100000
set_option maxHeartbeats 4000000
namespace Lw
open PySem PySem.Spec PyProof.Rows L2 He Evl StX
local macro_rules | `(tactic| walk_at "rd") => `(tactic| (repeat first
  | with_reducible refine rd_seq ?_
  | with_reducible refine rd_asg ?_
  | with_reducible refine rd_ret ?_
  | with_reducible refine rd_next ?_
  | with_reducible refine rd_drop ?_
  | with_reducible refine rd_if ?_
  | with_reducible refine rd_ifE ?_
  | ((with_reducible refine' rd_var ?hv ?_); (case hv => rfl))
  | with_reducible refine rd_c ?_
  | with_reducible refine rd_op ?_
  | with_reducible refine rd_chain ?_
  | with_reducible refine rd_I0 ?_
  | with_reducible refine rd_test ?_
  | with_reducible refine rd_B ?_
  | with_reducible refine rd_bl ?_
  | with_reducible refine rd_not ?_
  | with_reducible refine rd_and ?_
  | with_reducible refine rd_or ?_
  | with_reducible refine rd_andV ?_
  | with_reducible refine rd_orV ?_
  | with_reducible refine rd_notV ?_
  | with_reducible refine rd_cons ?_
  | with_reducible refine rd_nil ?_
  | with_reducible refine rd_CB ?_
  | with_reducible refine rd_callS ?_
  | with_reducible refine rd_raise0 ?_
  | with_reducible refine rd_raise1 ?_
  | with_reducible refine rd_raise2 ?_
  | ((with_reducible refine' rd_eq ?hs ?_); (case hs => rfl))
  | ((with_reducible refine' rd_ne ?hs ?_); (case hs => rfl))
  | ((with_reducible refine' rd_isT ?th ?hT ?_); (case th => assumption); (case hT => decide))
  | with_reducible refine rd_tup ?_
  | with_reducible refine rd_lst ?_
  | with_reducible refine rd_iEnum ?_
  | with_reducible refine rd_iEnumA ?_
  | ((with_reducible refine' rd_ixl ?hl ?hk ?_); (case hl => assumption); (case hk => rfl))
  | with_reducible refine rd_int1 ?_
  | with_reducible refine rd_sub ?_
  | with_reducible refine rd_gcons ?_
  | with_reducible refine rd_gnil ?_
  | with_reducible refine rd_iZip ?_
  | with_reducible refine rd_BM ?_
  | with_reducible refine rd_neg ?_
  | ((with_reducible refine' rd_last ?hl ?_); (case hl => assumption))
  | with_reducible refine rd_lc2 ?_
  | with_reducible refine rd_Rg1 ?_
  | with_reducible refine rd_tupRg ?_
  | with_reducible refine rd_sl ?_
  | with_reducible refine rd_noPart ?_
  | with_reducible refine rd_part ?_
  | with_reducible refine rd_for ?_
  | with_reducible refine rd_iRev ?_
  | with_reducible refine rd_gname ?_
  | with_reducible refine rd_NN ?_
  | with_reducible refine rd_NL ?_
  | with_reducible refine rd_LN ?_
  | ((with_reducible refine' rd_shl1 ?hs ?_); (case hs => omega))
  | ((with_reducible refine' rd_I ?hs ?_); (case hs => first | omega | decide | exact ⟨by decide, by decide, by decide⟩ | exact ⟨by omega, by omega⟩))
  | with_reducible refine rd_tr ?_
  | with_reducible refine rd_trI ?_
  | with_reducible refine rd_star ?_
  | with_reducible refine rd_fmtB ?_
  | with_reducible refine rd_M1 ?_
  | with_reducible refine rd_un ?_
  | with_reducible refine rd_lc ?_
  | with_reducible refine rd_iT ?_
  | with_reducible refine rd_iL ?_
  | with_reducible refine rd_iR1 ?_
  | with_reducible refine rd_iR2 ?_
  | dsimp only [List.set, start]))
section
variable {P : Program} {w : World} {K : PySem.W.Frag} {mg : Str → Option Value} {base : Heap}

def spLaw (K : PySem.W.Frag) : Sp := fun vs H Q _ => ∃ (a : Addr) (ns : List Int), vs = [.ref a] ∧ SqL K H a (ns.map V.int) ∧ ns.length ≤ 63 ∧ (∀ z ∈ ns, bits z ≤ 1048576) ∧ ∀ H', Q (.bl true) H'
theorem h_law (E : Ctx K mg) {fd : FuncData} (F : FunD K "law" "law" (defArgs s_law) (defBody s_law) (defScope s_law) [] [] (ga K "law") fd) : FnOk P w K mg base (L2N.CX P w) 5 (ga K "law") fd ["_law_script"] (spLaw K) := by
  refine F.ok sc_law (fun vs H Q E' h => ?len) (fun cdv A outer s H vs Q E' hr h => ⟨_, (pss_cons (ps_set (i := 1) sc_law.nd rfl (.inr rfl) (pe_H (h__law_hand E) (hr.mono (by decide)) (takes_of rfl rfl rfl rfl) (pa_cons (pv 0) pa_nil)))
 (pss_cons (ps_set (i := 2) sc_law.nd rfl (.inl rfl) (pe_op op_sub (pe_H (h__law_draw E) (hr.mono (by decide)) (takes_of rfl rfl rfl rfl) (pa_cons (pv 1) (pa_cons (pe_op op_pow pe_int pe_int) pa_nil))) pe_int))
 (pss_cons (ps_set (i := 3) sc_law.nd rfl (.inl rfl) (pe_op op_add (pe_op op_add (pv 2) pe_int) (pe_H (h__law_draw E) (hr.mono (by decide)) (takes_of rfl rfl rfl rfl) (pa_cons (pv 1) (pa_cons (pe_op op_pow pe_int pe_int) pa_nil)))))
 (pss_cons (ps_set (i := 4) sc_law.nd rfl (.inl rfl) (kjoin (K := K) rfl pe_str (pe_lc (own := [("_law_k", 8)]) (g := gName 8) (tt := tYes) rfl sc_law.nd (pi_range1 rfl (b_range E) (pa_cons (pe_H (h__law_draw E) (hr.mono (by decide)) (takes_of rfl rfl rfl rfl) (pa_cons (pv 1) (pa_cons pe_int pa_nil))) pa_nil)) (blkOk_by (own := [("_law_k", 8)]) (N := N_law) (sc := defScope s_law) (by decide +kernel)) (fun _ _ _ _ _ => (pg_name (i := 8) sc_law.nd rfl (.inl rfl))) (fun _ _ _ _ _ => pts_nil) (fun _ _ _ _ _ => (pe_ix ix_str pe_str (pe_H (h__law_draw E) (hr.mono (by decide)) takes0 (pa_cons (pv 1) (pa_cons pe_int pa_nil))) (fun _ _ => rfl))))))
 (pss_cons (ps_set (i := 5) sc_law.nd rfl (.inl rfl) (pe_op op_cat (pe_H (h__law_plain E) (hr.mono (by decide)) (takes_of rfl rfl rfl rfl) (pa_cons (pv 2) (pa_cons (pv 3) (pa_cons (pv 4) pa_nil)))) (pe_H (h__law_two_told E) (hr.mono (by decide)) (takes_of rfl rfl rfl rfl) (pa_cons (pv 2) (pa_cons (pv 3) (pa_cons (pv 4) pa_nil))))))
 (pss_cons (ps_for (passes_of rfl) rfl (pi_enum rfl (b_enumerate E) (pa_cons (pv 5) pa_nil)) (pg_tup rfl (pgs_cons (pg_name (i := 6) sc_law.nd rfl (.inr rfl)) (pgs_cons (pg_name (i := 7) sc_law.nd rfl (.inl rfl)) pgs_nil)))
 (pss_cons (ps_if (PW.pt (pw_or (pt_cmpR (ko_neM hr (K := K) rfl) (pe_ix (kx_tup (K := K) rfl) (pv 7) pe_int (fun _ _ => rfl)) (pe_ix (kx_tup (K := K) rfl) (pv 7) pe_int (fun _ _ => rfl)) (nomark _)) (pw_or (pt_not (pt_val (pe_callB (kc_isX (K := K) rfl) rfl (b_isinstance E) (by decide +kernel) (pa_cons (pe_ix (kx_tup (K := K) rfl) (pv 7) pe_int (fun _ _ => rfl)) (pa_cons (pe_glob rfl (g_WordError E) (v := .ref (ga K "WordError")) rfl) pa_nil))))) (pw_or1 (pt_not (pt_val (pe_callB (kc_isX (K := K) rfl) rfl (b_isinstance E) (by decide +kernel) (pa_cons (pe_ix (kx_tup (K := K) rfl) (pv 7) pe_int (fun _ _ => rfl)) (pa_cons (pe_bltn rfl (b_ValueError E) (by decide +kernel) (v := .ty "ValueError") rfl) pa_nil)))))))))
 (pss_one (ps_ret pe_bl))
 pss_nil)
 (pss_one (ps_if (pt_cmpR (ko_neD hr (K := K) rfl) (pe_H (h__law_first_names E) (hr.mono (by decide)) (takes_of rfl rfl rfl rfl) (pa_cons (pe_ix (kx_tup (K := K) rfl) (pv 7) pe_int (fun _ _ => rfl)) pa_nil)) (pe_lc (own := [("_law_k", 8)]) (g := gName 8) (tt := tYes) rfl sc_law.nd (pi_range1 rfl (b_range E) (pa_cons (pe_callB (kc_len (K := K) rfl) rfl (b_len E) (by decide +kernel) (pa_cons (pv 5) pa_nil)) pa_nil)) (blkOk_by (own := [("_law_k", 8)]) (N := N_law) (sc := defScope s_law) (by decide +kernel)) (fun _ _ _ _ _ => (pg_name (i := 8) sc_law.nd rfl (.inl rfl))) (fun _ _ _ _ _ => pts_nil) (fun _ _ _ _ _ => (pe_cmpR op_eq (pv 8) (pv 6) (nomark _)))) (nomark _))
 (pss_one (ps_ret pe_bl))
 pss_nil))))
 (pss_one (ps_ret pe_bl)))))))), ?rd⟩)
  case len =>
    obtain ⟨a, ns, rfl, _⟩ := h
    rfl
  case rd =>
    obtain ⟨a, ns, rfl, hs, hlen, hbits, q⟩ := h
    rw [show L2.start N_law [V.ref a] = [some (.ref a), none, none, none, none, none, none, none, none] from rfl]
    walk_at "rd"
    try dsimp only [List.set_cons_succ, List.set_cons_zero]
    refine ⟨a, ns, rfl, hs, hlen, hbits, fun hh c H1 hf e1 hand1 => ?_⟩
    walk_at "rd"
    try dsimp only [List.set_cons_succ, List.set_cons_zero]
    refine ⟨hh, c, 1000000000000, rfl, hand1, ⟨by decide, by decide⟩, fun r1 H2 hr1 d2 hand2 => ?_⟩
    walk_at "rd"
    try dsimp only [List.set_cons_succ, List.set_cons_zero]
    refine ⟨hh, c, 1000000000, rfl, hand2, ⟨by decide, by decide⟩, fun r2 H3 hr2 d3 hand3 => ?_⟩
    walk_at "rd"
    try dsimp only [List.set_cons_succ, List.set_cons_zero]
    generalize (r1 : Int) - 1 = one
    generalize one + 1 + (r2 : Int) = two
    refine ⟨⟨_, rfl⟩, ?_⟩
    walk_at "rd"
    try dsimp only [List.set_cons_succ, List.set_cons_zero]
    refine ⟨hh, c, 12, rfl, hand3, ⟨by decide, by decide⟩, fun r3 H4 hr3 d4 hand4 => ?_⟩
    walk_at "rd"
    try dsimp only [List.set_cons_succ, List.set_cons_zero]
    refine ⟨_, rfl, by omega, by omega, ?_⟩
    rw [Int.toNat_natCast]
    have hr3 : r3 < 12 := by omega
    refine fun D hD => lc_range (lo := 0) (n := r3) (fun i H' => ∃ ys : List Str, ys.length = i ∧ (∀ y ∈ ys, goodS y) ∧ H' D = some (.lst (ys.map V.str)) ∧ HandC c H' hh) ⟨[], rfl, (fun _ h => nomatch h), upd_same, hand4.ex (Ex.new hD)⟩ (fun i H' hi ⟨ys, len, good, atD, hand⟩ => ⟨rfl, ?_⟩) fun H' ⟨ys, len, good, atD, hand⟩ => ?_
    · obtain ⟨n1, n2⟩ := hand4.away hD
      dsimp only [tYes]
      rw [if_pos rfl]
      walk_at "rd"
      try dsimp only [List.set_cons_succ, List.set_cons_zero]
      refine ⟨hh, c, 11, rfl, hand, ⟨by decide, by decide⟩, fun r H5 hr d5 hand5 => ?_⟩
      obtain ⟨cp, ec, gd⟩ := sign_at r (by omega)
      walk_at "rd"
      try dsimp only [List.set_cons_succ, List.set_cons_zero]
      refine ⟨_, _, cp, rfl, rfl, by decide +kernel, ec, ?_⟩
      refine ⟨ys.map V.str, d5 _ _ n1 atD, Nat.lt_of_lt_of_le (show (ys.map V.str).length < 1000 by rw [List.length_map]; omega) (sz_of (Nat.le_refl _)), ys ++ [⟨#[cp]⟩], by rw [List.length_append, len]; rfl, fun y hy => ?_, by rw [upd_same, List.map_append]; rfl, hand5.set n1 n2⟩
      rcases List.mem_append.mp hy with hy | hy
      · exact good y hy
      · rw [List.mem_singleton.mp hy]
        exact gd
    have sw : Sc (.str (Txt.join "" ys)) := .inr ⟨_, rfl, join_lay good⟩
    walk_at "rd"
    try dsimp only [List.set_cons_succ, List.set_cons_zero]
    refine ⟨_, D, ys, rfl, rfl, .inl (sq_of atD), ?_, ?_⟩
    · rw [sum_good ys good, len]
      show r3 + r3 * 0 ≤ _
      omega
    generalize Txt.join "" ys = word at sw ⊢
    have so : Sc (.int one) := .inl ⟨_, rfl⟩
    have st : Sc (.int two) := .inl ⟨_, rfl⟩
    walk_at "rd"
    try dsimp only [List.set_cons_succ, List.set_cons_zero]
    refine ⟨_, _, _, rfl, so, st, sw, fun p1 rs1 H5 hp1 e5 at1 len1 ok1 => ?_⟩
    walk_at "rd"
    try dsimp only [List.set_cons_succ, List.set_cons_zero]
    refine ⟨_, _, _, rfl, so, st, sw, fun p2 rs2 H6 hp2 e6 at2 len2 ok2 => ?_⟩
    refine ⟨p1, p2, _, _, rfl, rfl, e6 _ _ at1, at2, sz_of (by rw [len1, len2]; decide), fun rp hrp => ?_⟩
    have x7 : Ex H6 (upd H6 rp (.lst (rs1 ++ rs2))) := Ex.new hrp
    have f7 : (upd H6 rp (.lst (rs1 ++ rs2))) rp = some (.lst (rs1 ++ rs2)) := upd_same
    have all : AllOk K H6 (rs1 ++ rs2) 0 := (ok1.ex e6).cat (by rw [len1]; exact ok2)
    have len : (rs1 ++ rs2).length = 32 := by rw [List.length_append, len1, len2]
    generalize upd H6 rp (.lst (rs1 ++ rs2)) = H7 at x7 f7 ⊢
    have all7 := all.ex x7
    generalize rs1 ++ rs2 = rs at f7 len all7 ⊢
    walk_at "rd"
    have sq7 : SqL K H7 rp rs := sq_of f7
    refine ⟨rp, _, rfl, sq7, for_it walk_enum (fun i σ H' => ∃ v6 v7 v8 : Option V, σ = [some (.ref a), some (.ref hh), some (.int one), some (.int two), some (.str word), some (.ref rp), v6, v7, v8] ∧ Ex H7 H') ⟨none, none, none, rfl, Ex.refl _⟩ (fun i σ H' _ ⟨_, _, _, _, e⟩ => ex_l e sq7) ?_ ?_⟩
    · rintro i x σ H8 H9 hi ⟨v6, v7, v8, rfl, e8⟩ ⟨T, pp, y, rfl, hT, rfl, hp, hy⟩
      obtain rfl : V.int ((i : Nat) : Int) = pp := Option.some.inj hp
      have hi32 : i < 32 := by rw [← len]; exact hi
      obtain ⟨t, er, v, w, rfl, ht, isE, sm⟩ := all7 i y hy
      rw [Nat.zero_add] at isE
      refine ⟨T, _, rfl, st_of upd_same, rfl, ?_⟩
      have e9 : Ex H7 (upd H8 T (.tup [.int (i : Int), .ref t])) := e8.trans (Ex.new hT)
      generalize upd H8 T (.tup [.int (i : Int), .ref t]) = H9 at e9 ⊢
      have ht9 := e9 _ _ ht
      have K9 := kits E hi32
      walk_at "rd"
      try dsimp only [List.set_cons_succ, List.set_cons_zero]
      refine ⟨t, _, 1, v, rfl, rfl, st_of ht9, rfl, ?_⟩
      walk_at "rd"
      try dsimp only [List.set_cons_succ, List.set_cons_zero]
      refine ⟨t, _, 2, w, rfl, rfl, st_of ht9, rfl, ?_⟩
      refine rd_neM (sm.ex e9) ?_
      refine ⟨false, rfl, (fun z => nomatch z), fun _ => ?_⟩
      walk_at "rd"
      try dsimp only [List.set_cons_succ, List.set_cons_zero]
      refine ⟨t, _, 0, .ref er, rfl, rfl, st_of ht9, rfl, ?_⟩
      walk_at "rd"
      try dsimp only [List.set_cons_succ, List.set_cons_zero]
      refine rd_isW K9 (isE.ex e9) ?_
      refine ⟨true, rfl, (fun z => nomatch z), fun _ => ?_⟩
      walk_at "rd"
      try dsimp only [List.set_cons_succ, List.set_cons_zero]
      refine ⟨t, _, 0, .ref er, rfl, rfl, st_of ht9, rfl, ?_⟩
      walk_at "rd"
      try dsimp only [List.set_cons_succ, List.set_cons_zero]
      refine rd_isV K9 (isE.ex e9) ?_
      refine ⟨true, rfl, (fun z => nomatch z), fun _ => ?_⟩
      walk_at "rd"
      try dsimp only [List.set_cons_succ, List.set_cons_zero]
      refine ⟨t, _, 0, .ref er, rfl, rfl, st_of ht9, rfl, ?_⟩
      walk_at "rd"
      try dsimp only [List.set_cons_succ, List.set_cons_zero]
      refine ⟨er, i, rfl, hi32, isE.ex e9, fun fp H10 hfp e10 h10 => ?_⟩
      have f10 := e10 _ _ (e9 _ _ f7)
      walk_at "rd"
      try dsimp only [List.set_cons_succ, List.set_cons_zero]
      refine ⟨rp, rs, rfl, .inl (sq_of f10), ?_⟩
      rw [len]
      walk_at "rd"
      try dsimp only [List.set_cons_succ, List.set_cons_zero]
      refine ⟨((32 : Nat) : Int), rfl, by decide, by decide, ?_⟩
      rw [Int.toNat_natCast]
      refine lc_rng0 (n := 32) (fun _ => true) (fun j => .bl (decide (i = j))) (by decide) (fun _ => rfl) (fun j H11 e11 hj H12 e12 R q => q _ (Ex.refl _)) (fun j H11 e11 hj hf H12 e12 R q => ?_) fun lp H11 hlp e11 h11 => ?_
      · walk_at "rd"
        try dsimp only [List.set_cons_succ, List.set_cons_zero]
        have ed : decide (V.int (j : Int) = V.int (i : Int)) = decide (i = j) := by
          by_cases c : i = j
          · rw [c, decide_eq_true rfl, decide_eq_true rfl]
          · rw [decide_eq_false c, decide_eq_false fun z => c (by injection z with z; omega)]
        rw [ed]
        exact q _ (Ex.refl _)
      have eg : given 32 (fun _ => true) (fun j => V.bl (decide (i = j))) = (oneHot 32 i).map V.bl := by
        rw [given_map]
        unfold oneHot
        rw [List.map_map]
        rfl
      rw [eg] at h11
      refine rd_neB (e11 _ _ h10) h11 ?_
      refine ⟨false, rfl, (fun z => nomatch z), fun _ => ?_⟩
      walk_at "rd"
      try dsimp only [List.set_cons_succ, List.set_cons_zero]
      exact ⟨_, _, _, rfl, (e9.trans e10).trans e11⟩
    · rintro σ H8 ⟨v6, v7, v8, rfl, e8⟩
      walk_at "rd"
      try dsimp only [List.set_cons_succ, List.set_cons_zero]
      exact q _

end
end Lw

set_option Elab.async false
set_option linter.all false
set_option maxRecDepth 100000
set_option maxHeartbeats 0
namespace Lw
open PySem PySem.Spec PyProof.Rows L2 He
section
variable {P : Program} {w : World} {K : PySem.W.Frag} {mg : Str → Option Value}
theorem end_of {h : Heap} {f : Addr} (X : K.In h) (G : h.Ns mainGlobals mg) (hf : mg ("law" : Str) = some (.ref f)) (c : SaysE fa fn ex K) :
    ∃ fd : FuncData, (∀ (s : Shared) (v : Value), BindsTo s fd ⟨[v], []⟩ [("_law_script", v)]) ∧ ∀ base : Heap, K.In base → base.Ns mainGlobals mg → FnOk P w K mg base (L2N.CX P w) 5 f fd ["_law_script"] (spLaw K) := by
  have E : Ctx K mg := ⟨⟨h, X, G⟩, c⟩
  obtain ⟨fd, F⟩ := f_law E
  have e := hf.symm.trans (g_law E)
  cases e
  have b := FunD.bindsA (ps := ["_law_script"]) F fun _ _ _ _ _ _ us hl => match us, hl with | [_], _ => rfl
  refine ⟨fd, fun s v => b s [v] rfl, fun base _ _ => ?_⟩
  exact h_law E F
end
end Lw
open PySem PySem.W PySem.Calls PyProof.Rows
theorem PySem.Challenge.cw_lowerwords_k68_whole_errors_side_by_side_holds : PySem.Challenge.rw_lowerwords_k68_whole_errors_side_by_side.Holds := by
  w_on; o_law
  refine HandSHeadRun.head_any (r := Lw.R) (q := view Lw.R.prog [41]) (H := Lw.hk) (ob := Lw.ob) (M := 12000) (loose := Lw.loose) (d := HandSHeadRun.topDef Lw.R.prog 41) (kwd := []) Lw.ob_eq
    (by kernel_rfl) (fun s => by kernel_rfl) Lw.run (by kernel_rfl) (by kernel_rfl) (by kernel_rfl) (by rfl) (by first | assumption | decide +kernel) (by decide +kernel) ⟨rfl, rfl, rfl, rfl, rfl, by decide +kernel⟩ ?hw ?hc
  case hw => w_witness2
  case hc =>
    refine Lw.walk_ofEB (l := PySem.Challenge.rw_lowerwords_k68_whole_errors_side_by_side) (n := 63) (k := 5) (x := "_law_script") (CX := fun w => L2N.CX (PySem.Challenge.rw_lowerwords_k68_whole_errors_side_by_side).prog w) rfl (by decide) (by kernel_rfl) ⟨rfl, by decide, by decide⟩ ?F ?C
    case C =>
      rintro w H s e s' ⟨_, _, _, _, _, _, _, _, _, _, _, _, no⟩
      exact no
    case F =>
      intro w mg fa h Y G m0
      obtain ⟨K, KX, c⟩ := Y
      have m1 : mg ("law" : PySem.Str) = some (.ref fa) := by
        have e : (HandSHeadRun.topDef Lw.R.prog 41).name = ("law" : PySem.Str) := by kernel_rfl
        rw [← e]
        exact m0
      obtain ⟨fd, hb, hF⟩ := Lw.end_of (P := (PySem.Challenge.rw_lowerwords_k68_whole_errors_side_by_side).prog) (w := w) KX G m1 c
      exact ⟨K, fd, Lw.spLaw K, KX, hb, fun H a ns hl hz _ hS => ⟨a, ns, rfl, hS, hl, hz, fun _ => rfl⟩, hF⟩

