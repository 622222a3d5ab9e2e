import PyProof.Rows.All
import Wide.All
import OpenK.AllK
import Wide.FinOn
import KE.KStateDown
import HandS.ForMost
import HandS.ForExc
import HandS.More
import HandS.Defaults
import HandS.Head0
import HandS.Head1
import HandS.Head2
import HandS.HeadEnd
import HandS.HeadHook1
import HandS.HeadHook2
import HandS.EndBits
import HandS.ExcInit
import HandS.ExcField
import HandS.IsInst
import HandS.Wide
import HandS.WideBits
import HandS.Flow
import HandS.TryMany
import HandS.Small
import HandS.Strs
import HandS.SetFor
import HandS.SortInts
import HandS.TupLe
import HandS.Style
import HandS.Conv
import HandS.ExcCtx
import HandS.HotCalls
import HandS.ExcInitHot
import HandS.RaiseFrom
import HandS.FStr
import PyProof.FString3
import PyProof.Rows.StrIntSpec
import HandS.Text
import HandS.Evl
import HandS.Comp
import HandS.RevRange
import HandS.Star
import HandS.Zip
import HandS.Walk
import HandS.TupSets
import KE.GoesMore
import KE.GoesEnum
import HandS.Iter
import PySem.Challenge.RW_lowerwords_k01_whole_words_are_sums_of_h
set_option Elab.async false
set_option linter.all false
set_option maxRecDepth 100000
set_option maxHeartbeats 2000000
/-! the head: facts by names with one more Bool; the end with the script's bits -/
namespace Lw
open PySem PySem.Spec PyProof.Rows L2 He
abbrev AlE : Type := AlD × Bool
def obsE (n : Nat) (fa : List Fa) (fn : List DefD) (ex : PySem.W.Frag → Bool) (g : Addr → Option Obj) : AlE :=
  (obsDG n fa fn g, ex (frG g (asD g n)))
def valE (fn : List DefD) : AlE := (valD fn, true)
structure SaysE (fa : List Fa) (fn : List DefD) (ex : PySem.W.Frag → Bool) (K : PySem.W.Frag) : Prop where
  d : SaysD fa fn K
  x : ex K = true
def hookE (n : Nat) (fa : List Fa) (fn : List DefD) (ex : PySem.W.Frag → Bool) : PySem.W.Hook where
  α := AlE
  obs := fun s => obsE n fa fn ex s.heap.get?
  val := fun _ => valE fn
  says := fun _ h => ∃ K : PySem.W.Frag, K.In h ∧ SaysE fa fn ex K
  of := fun _ _ e => ⟨_, frG_in, congrArg Prod.fst e, congrArg Prod.snd e⟩
  keeps := fun _ _ _ ⟨K, hK, c⟩ k => ⟨K, PySem.W.Frag.In.keeps hK k, c⟩
theorem obsE_eq {n : Nat} {fa : List Fa} {fn : List DefD} {ex : PySem.W.Frag → Bool} {g : Addr → Option Obj} {s : Shared} (h : ∀ a, g a = s.heap.get? a) : obsE n fa fn ex g = (hookE n fa fn ex).obs s := by
  have e : g = s.heap.get? := funext h
  rw [e] <;> rfl

/-- an own exception class with an __init__ of its own: what OexC asks -/
def shapeB (C : Addr) : Obj → Bool
  | ⟨.type "type", _, .cls cd, sl⟩ => (match cd.mro, sl.toList with
    | .ref C' :: bm, [_, _, _, _, some (.builtin n), _] => decide (C' = C) && (decide (n = "ValueError.__new__") && (!cd.hasDel && (cd.hasDict && PySem.HandSPX.refsVE bm)))
    | _, _ => false)
  | _ => false
theorem shapeB_ok {C : Addr} {o : Obj} (h : shapeB C o = true) : ∃ nm q N bs bm sn sub ab col dd k0 k1 k2 k3 k5, o = excClassObj nm q C N bs bm true sn sub ab col dd k0 k1 k2 k3 k5 "ValueError.__new__" ∧ PySem.HandSPX.refsVE bm = true := by
  unfold shapeB at h
  split at h
  · rename_i dd cd sl
    split at h
    · rename_i C' bm k0 k1 k2 k3 n k5 hm hs
      obtain ⟨e1, h⟩ := ba h
      obtain ⟨e2, h⟩ := ba h
      obtain ⟨e3, h⟩ := ba h
      obtain ⟨e4, e5⟩ := ba h
      have e1 := of_decide_eq_true e1
      have e2 := of_decide_eq_true e2
      obtain ⟨nm, bs, mro, ns, qn, hd, sn, sub, ab, col, del⟩ := cd
      have hm : mro = .ref C' :: bm := hm
      have e4 : hd = true := e4
      have e3 : del = false := by simpa using e3
      subst e1 e2 e3 e4 hm
      have hsl : sl = #[k0, k1, k2, k3, some (.builtin "ValueError.__new__"), k5] := by
        obtain ⟨l⟩ := sl
        have hs : l = _ := hs
        rw [hs]
      subst hsl
      exact ⟨nm, qn, ns, bs, bm, sn, sub, ab, col, dd, k0, k1, k2, k3, k5, rfl, e5⟩
    · cases h
  · cases h
def eqV2 (a b : Option Value) : Bool := decide (a = b)
/-- an exception class x of the text with an __init__: the fields fs are no attributes of the class -/
def excB (x : Str) (fs : List Str) (K : PySem.W.Frag) : Bool :=
  (match K.lookup (ga K x) with
    | some o => shapeB (ga K x) o
    | none => false) &&
  (eqO (PySem.W.findIn K (.ref (ga K x)) "__setattr__") (some (some (.builtin "object.__setattr__"))) &&
  (decide (PySem.W.subIn K (.ref (ga K x)) (.type "BaseException") = some true) &&
  (eqV2 (PySem.W.typeIn K (.ref (ga K x))) (some (.type "type")) &&
  (PySem.W.keepIn K (.ref (ga K x)) &&
  (eqO (PySem.W.findIn K (.ref (ga K x)) "__init__") (some (some (.ref (ma K (ga K x) "__init__")))) &&
  (eqV2 (PySem.W.typeIn K (.ref (ma K (ga K x) "__init__"))) (some (.type "function")) &&
  (xfB K (ga K x) && fs.all fun f => eqO (PySem.W.findIn K (.ref (ga K x)) f) (some none))))))))
structure ExcT (K : PySem.W.Frag) (x : Str) (fs : List Str) : Prop where
  o : OexC K (ga K x)
  i : PySem.W.findIn K (.ref (ga K x)) "__init__" = some (some (.ref (ma K (ga K x) "__init__")))
  t : PySem.W.typeIn K (.ref (ma K (ga K x) "__init__")) = some (.type "function")
  f : XfC K (ga K x)
  n : ∀ f ∈ fs, PySem.W.findIn K (.ref (ga K x)) f = some none
theorem excB_ok {x : Str} {fs : List Str} {K : PySem.W.Frag} (h : excB x fs K = true) : ExcT K x fs := by
  obtain ⟨h1, h⟩ := ba h
  obtain ⟨h2, h⟩ := ba h
  obtain ⟨h3, h⟩ := ba h
  obtain ⟨h4, h⟩ := ba h
  obtain ⟨h5, h⟩ := ba h
  obtain ⟨h6, h⟩ := ba h
  obtain ⟨h7, h⟩ := ba h
  obtain ⟨h8, h9⟩ := ba h
  refine ⟨⟨?_, eqO_ok h2, of_decide_eq_true h3, of_decide_eq_true h4, h5⟩, eqO_ok h6, of_decide_eq_true h7, xfB_ok h8, fun f hf => eqO_ok (List.all_eq_true.mp h9 f hf)⟩
  cases e : K.lookup (ga K x) with
  | none =>
    rw [e] at h1
    cases h1
  | some o =>
    rw [e] at h1
    obtain ⟨nm, q, N, bs, bm, sn, sub, ab, col, dd, k0, k1, k2, k3, k5, eo, hb⟩ := shapeB_ok h1
    exact ⟨nm, q, N, bs, bm, sn, sub, ab, col, dd, k0, k1, k2, k3, k5, by rw [eo], hb⟩

/-- the end of a law over a head by facts, the script's bits told -/
theorem walk_ofEB {l : PySem.W.OpenLaw} {n k : Nat} {q : Program} {loose : List Str} {XP : (Str → Option Value) → Heap → Prop} {YP : World → Heap → Prop} {d : DefRec} {CX : World → CXT} {x : Str}
    (hn : l.most = some n) (hn2 : n ≤ sizeLine) (hdf : d.params.defaults = []) (hr : Room k callerA)
    (F : ∀ (w : World) (mg : Str → Option Value) (fa : Addr) (h : Heap), YP w h → h.Ns mainGlobals mg → mg d.name = some (.ref fa) →
      ∃ (K : PySem.W.Frag) (fd : FuncData) (sp : Sp), K.In h ∧ (∀ (s : Shared) (u : Value), BindsTo s fd ⟨[u], []⟩ [(x, u)]) ∧
        (∀ (H : Hp) (a : Addr) (ns : List Int), ns.length ≤ n → (∀ z ∈ ns, Builtin.Int.intBits z ≤ 1048576) → Only H → SqL K H a (ns.map V.int) → sp [.ref a] H (fun v _ => v = .bl true) fun _ _ _ => False) ∧
        ∀ base : Heap, K.In base → base.Ns mainGlobals mg → FnOk l.prog w K mg base (CX w) k fa fd [x] sp)
    (hCX : ∀ (w : World) (H : Hp) (s : Shared) (e : Value) (s' : Shared), CX w [] H s (fun _ _ _ => False) e s' → False) :
    PySem.W.WalkO q loose XP YP l.row.toRowW d [] (fun f vs => PySem.call f vs) := by
  refine Att.attach_callB hn hdf fun w s₀ s₁ mg mb fa o pm cd doc a vs ns G Y ho hd hcd hmg hobj hints hlen hbits hg => ?_
  obtain ⟨K, fd, sp, KX, hb, hsp, hF⟩ := F w mg fa _ Y G.T.g hmg
  exact law_call KX G.T.g G.T.b G.T.builtins G.T.nolimit hg hobj hints (Nat.le_trans hlen hn2) hr hF hb (fun H hO hS => hsp H a ns hlen hbits hO hS) fun H e s' => hCX w H s₁ e s'
end Lw

set_option Elab.async false
set_option linter.all false
set_option maxRecDepth 100000
set_option maxHeartbeats 2000000
namespace Lw
open PySem PySem.Spec PyProof.Rows L2 He
/-! ### a constant of the text that is a tuple of ints -/
def intOf : Value → Option Int
  | .int i _ => some i
  | _ => none
def intsB (us : List Value) (ns : List Int) : Bool := decide (us.map intOf = ns.map some)
def tupB (x : Str) (ns : List Int) (K : PySem.W.Frag) : Bool :=
  match K.lookup (ga K x) with
  | some ⟨.type "tuple", _, .seq its _, _⟩ => intsB its.toList ns
  | _ => false
theorem intOf_ok {u : Value} {j : Int} (h : intOf u = some j) : ∃ t, u = .int j t := by
  unfold intOf at h
  split at h
  · rename_i i t
    exact ⟨t, by rw [Option.some.inj h]⟩
  · cases h
theorem intsB_ok {us : List Value} {ns : List Int} (h : intsB us ns = true) : Vals (ns.map V.int) us := by
  have e : us.map intOf = ns.map some := of_decide_eq_true h
  clear h
  induction us generalizing ns with
  | nil =>
    cases ns with
    | nil => exact .nil
    | cons _ _ => cases e
  | cons u r ih =>
    cases ns with
    | nil => cases e
    | cons j l =>
      rw [List.map_cons, List.map_cons] at e
      obtain ⟨e1, e2⟩ := List.cons.inj e
      obtain ⟨t, rfl⟩ := intOf_ok e1
      exact Paired.cons (show RelV (V.int j) (.int j t) from ⟨t, rfl⟩) (ih e2)
theorem tupB_ok {x : Str} {ns : List Int} {K : PySem.W.Frag} (h : tupB x ns K = true) (few : ns.length ≤ 1000) (H : Hp) : SqT K H (ga K x) (ns.map V.int) := by
  unfold tupB at h
  split at h
  · rename_i d its n sl e
    have vs := intsB_ok h
    refine .inr ⟨_, its, n, e, rfl, rfl, ?_, vs⟩
    have := Paired.length vs
    rw [List.length_map] at this
    rw [sizeLine_eq]
    have z : its.toList.length = its.size := by simp
    omega
  · cases h
end Lw

set_option Elab.async false
set_option linter.all false
set_option maxRecDepth 100000
set_option maxHeartbeats 2000000
namespace Lw
open PySem PySem.Spec PyProof.Rows L2 He
/-! ### exceptions in the air: their context is None -/
abbrev Takes := @L2N.Takes
theorem takes0 {X : Cx} : L2N.Takes X (fun _ _ _ _ => False) := fun u s' ⟨_, _, _, _, _, _, _, _, _, _, _, _, _, _, _, _, no⟩ => False.elim no
theorem takes_of {X : Cx} {E : XK} (hs : X.stack = X.env :: X.outer) (hf : X.env.frame = some X.env.locals) (hex : X.ex = []) {E₁ : Value → Shared → Prop}
    (hx : X.xe = fun v t => wpAny (model X.prog X.w) X.A (leaving X.env v) (fun _ t2 => L2N.CX X.prog X.w X.outer X.H_0 X.s_0 E v t2) E₁ t) : L2N.Takes X (fun cls d _ H => E cls d H) := L2N.takes_of hs hf hex hx
/-! ### calls of the text's own defs -/
structure Has (P : Program) (w : World) (K : PySem.W.Frag) (mg : Str → Option Value) (base : Heap) (k : Nat) (x : Str) (ps : List Str) (sp : Sp) : Prop where
  ex : ∃ fd, FnOk P w K mg base (L2N.CX P w) k (ga K x) fd ps sp ∧ Binds K fd ps []
  gl : mg x = some (.ref (ga K x))
  kp : PySem.W.keepIn K (.ref (ga K x)) = true
section
variable {X : Cx} {W : WX} {k : Nat} {x : Str} {ps : List Str} {sp : Sp} {t : TA} {p pos : Pos} {e : Expr} {es : List Expr}
theorem pe_H (h : Has X.prog X.w X.K X.mg X.base k x ps sp) (hr : Room k X.A) (tk : L2N.Takes X W) (ha : PA X (e :: es) t) (hg : Gl X x := by rfl) (hdb : (x == ("__debug__" : Str)) = false := by decide)
    (he : starEach (e :: es) X.env = (false, eval e X.env) :: starEach es X.env := by rfl) (hpl : (backTo pos (starEach es X.env)).any (·.1) = false := by rfl) :
    PE X (.Call (.Name x p) (e :: es) [] pos) (tCallS sp (WE W) t) := by
  obtain ⟨fd, F, b⟩ := h.ex
  exact pe_callS F hr hg h.gl h.kp b (fun σ => L2N.passAt tk σ) ha hdb he hpl
end
/-! ### raising the text's own errors -/
/-- an error of the class x without fields leaves -/
def Er0 (K : PySem.W.Frag) (x : Str) (E : XK) (H : Hp) : Prop := E (.ref (ga K x)) none H
/-- an error of the class x with the fields fs leaves -/
def Er (K : PySem.W.Frag) (x : Str) (fs : List (Str × V)) (E : XK) (H : Hp) : Prop := ∀ d, H d = none → E (.ref (ga K x)) (some d) (upd H d (.xd fs))
structure Ex0 (K : PySem.W.Frag) (mg : Str → Option Value) (x : Str) : Prop where
  g : mg x = some (.ref (ga K x))
  e : (Fa.exc x).ok K = true
def tRaise0 (K : PySem.W.Frag) (x : Str) (W : WX) : TS := fun _ σ H => W (.ref (ga K x)) none σ H
section
variable {X : Cx} {W : WX} {x : Str} {p pos pos2 : Pos}
theorem ps_raise0 (hc : X.calm = true) (tk : L2N.Takes X W) (T : Ex0 X.K X.mg x) (hg : Gl X x := by rfl) (hdb : (x == ("__debug__" : Str)) = false := by decide) :
    PS X (.Raise (some (.Call (.Name x p) [] [] pos)) none pos2) (tRaise0 X.K x W) := by
  obtain ⟨q, h⟩ := ba T.e
  obtain ⟨kC, h⟩ := ba h
  obtain ⟨h1, h2⟩ := ba h
  refine L2N.ps_raise (t := fun _ H Q => Q (.ref (ga X.K x)) none H) hc tk ?_
  intro pins s σ H Q I h
  refine wpAny_Call_Name_kw (ld_glob I hg T.g ?_ hdb)
  have ha : PA X [] tNil := pa_nil
  refine PySem.W.callWith_K0 I.kIn kC ?_
  show wpAny _ _ (call (.ref (ga X.K x)) []) _ _ _
  obtain ⟨bm, N, nm, qn, bs, hdct, sn, sub, ab, col, dd, k0, k1, k2, k3, k5, mN, hC, hN, hni, T⟩ := exc_obj I.kIn q
  refine wpAny_call_exc_subT F.excBase_ValueError T hC hN hni (fun h' e hm => ?_) (Nat.zero_le _)
  exact L2N.mk_of I hm (raises_own (of_decide_eq_true h1) (of_decide_eq_true h2)) h (I.hok.gone hm.new)
end
/-! ### the text's own __init__ of an error: self.f = f, one field or two -/
def spIni1 (K : PySem.W.Frag) (x f : Str) : Sp := fun vs H Q _ => ∃ (a : Addr) (v : V), vs = [.ref a, v] ∧ H a = some (exo a (ga K x) none) ∧
  ∀ d, H d = none → d ≠ a → Q .non (upd (upd H d (exd d [(f, v)])) a (exo a (ga K x) (some d)))
def spIni2 (K : PySem.W.Frag) (x f g : Str) : Sp := fun vs H Q _ => ∃ (a : Addr) (v w : V), vs = [.ref a, v, w] ∧ H a = some (exo a (ga K x) none) ∧
  ∀ d, H d = none → d ≠ a → Q .non (upd (upd (upd H d (exd d [(f, v)])) a (exo a (ga K x) (some d))) d (exd d [(g, w), (f, v)]))
/-- an error class with its __init__ -/
structure ExI (P : Program) (w : World) (K : PySem.W.Frag) (mg : Str → Option Value) (base : Heap) (k : Nat) (x : Str) (fs ps : List Str) (sp : Sp) : Prop where
  g : mg x = some (.ref (ga K x))
  T : ExcT K x fs
  F : ∃ fd, FnOk P w K mg base CX0 k (ma K (ga K x) "__init__") fd ps sp ∧ Binds K fd ps []
/-- X(e, ..): the class's own __init__ runs; the exception's context is None -/
theorem mkN {X : Cx} {Γ : CXT} {x : Str} {e0 : Expr} {er : List Expr} {ta : TA} {p pos : Pos} {C fI : Addr} {k : Nat} {fd : FuncData} {ps : List Str} {sp : Sp} (T : OexC X.K C) (hI : PySem.W.findIn X.K (.ref C) "__init__" = some (some (.ref fI)))
    (hT : PySem.W.typeIn X.K (.ref fI) = some (.type "function")) (G : FnOk X.prog X.w X.K X.mg X.base Γ k fI fd ps sp) (rm : Room (k + 1) X.A) (bd : Binds X.K fd ps []) (px : Passes Γ X (fun _ _ _ => False)) (gx : Gl X x) (mx : X.mg x = some (.ref C))
    (pa : PA X (e0 :: er) ta) (db : (x == ("__debug__" : Str)) = false) (st : starEach (e0 :: er) X.env = (false, eval e0 X.env) :: starEach er X.env) (pl : (backTo pos (starEach er X.env)).any (·.1) = false) :
    L2N.PMk X (.Call (.Name x p) (e0 :: er) [] pos) (tMkO C sp [] ta) := fun pins s σ H Q J wish => by
  obtain ⟨_, _, _, _, bm, _, _, _, _, _, _, _, _, _, _, atC, refs⟩ := T.cls
  apply wpAny_Call_Name_kw
  refine ld_glob J gx mx ?_ db
  refine PySem.W.callWith_K (h₀ := X.base) J.ok.mod.kin T.kC (thn (pa.run pos pins s σ H _ J wish) ?_) st pl
  rintro us ⟨hp, gs, dr, tk, os⟩ ⟨vs, H1, J1, rel, len1, wish1⟩
  refine ⟨J1.kIn, ?_⟩
  change wpAny _ _ (call (.ref C) us) _ _ _
  -- where the new exception stands
  obtain ⟨a, ea⟩ : ∃ a, a = hp.objs.size + 1 := ⟨_, rfl⟩
  have above : hp.objs.size ≤ a := by omega
  have w2 := wish1 a (J1.hok.fresh above)
  rw [List.append_nil] at w2
  obtain ⟨hp2, e2⟩ : ∃ h, h = (hp.push (PySem.W.kdv_tup us)).push (PySem.HandSPX.excO C hp.objs.size) := ⟨_, rfl⟩
  have kept : ∀ b o, hp.get? b = some o → hp2.get? b = some o := fun b o y => by
    rw [e2]
    exact Heap.get?_push_of_some _ (Heap.get?_push_of_some _ y)
  have new2 : hp2.get? a = some (PySem.HandSPX.excO C hp.objs.size) := by
    rw [e2, ea]
    heap_get
  have J2 : Inv X pins σ (upd H1 a (exo a C none)) ⟨hp2, gs, dr, tk, os⟩ := J1.laid (t' := tk) kept above (exo_ok new2)
  have rel2 : Vals (V.ref a :: vs) (Value.ref a :: us) := Paired.cons (show RelV (V.ref a) (Value.ref a) from rfl) rel
  have many : (Value.ref a :: us ++ []).length = ps.length := by
    rw [List.append_nil, ← rel2.length]
    exact G.len _ _ _ _ w2
  have few : us.length ≤ sizeLine := by
    have := Paired.length rel
    rw [sizeLine_eq]
    omega
  have bind2 := bd ⟨hp2, gs, dr, tk, os⟩ (Value.ref a :: us) J2.kIn many
  rw [List.append_nil] at bind2
  have body := G.run (X.A.under (.builtin "type.__call__" ⟨.ref C :: us, []⟩)) X.stack ⟨hp2, gs, dr, tk, os⟩ _ ⟨Value.ref a :: us, []⟩ (Value.ref a :: us) _ _ _ (rm.make C us []) (J2.env0.make C us []) bind2 rel2 w2
  rw [e2, ea] at body
  refine wpAny_call (PySem.HandSPX.call_own F.excBase_ValueError (fun q => PySem.HandSPX.refsVE_contains q bm refs) (J1.kIn _ _ atC) (PySem.W.looks_findIn J1.kIn hI) (fun self => PySem.W.bind_fn J1.kIn self hT) few (codeAny_mono body ?_))
  rintro (er2 | fl) s3 end3
  · exact px pins σ _ _ er2 s3 J2 (by rw [e2, ea]; exact end3)
  · cases fl with
    | next => exact False.elim end3
    | brk => exact False.elim end3
    | cont => exact False.elim end3
    | ret u =>
      obtain ⟨h3, g3, d3, t3, os3⟩ := s3
      obtain ⟨v, H3, eo, bare, un, ok3, rv, rfl, d, fs, at1, at2, free, last⟩ := end3
      obtain ⟨t0, G3, J3, back, gone, obj, na⟩ := mk_end0 (d2 := d3) (t2 := t3) J1 above kept (by rw [e2, ea]; exact un) ok3 eo bare (by rw [ea]; exact at1) at2 free
      refine ⟨rv, a, _, _, ⟨G3, g3, d3, t3, os3⟩, _, .ref C, some d, by rw [ea], J3, back, gone, obj, ⟨rfl, rfl, fun ws hw => ?_⟩, rfl, rfl, na, rfl, bare, raises_own T.exC T.tyC, by rw [ea]; exact last⟩
      cases hw
      rfl
/-- what the making of an error with one field, two fields wishes -/
def mk1 (K : PySem.W.Frag) (x f : Str) (W : WX) (σ : L2.St) : V → Hp → Prop := fun v H1 => [v].length ≤ 1000 ∧ ∀ a, H1 a = none → spIni1 K x f (.ref a :: ([v] ++ ([] : List V))) (upd H1 a (exo a (ga K x) none))
  (fun u H2 => u = .non ∧ ∃ (d : Addr) (fs : List (Str × V)), H2 a = some (exo a (ga K x) (some d)) ∧ H2 d = some (exd d fs) ∧ H1 d = none ∧ W (.ref (ga K x)) (some d) σ (upd (del H2 a) d (.xd fs))) (fun _ _ _ => False)
def mk2 (K : PySem.W.Frag) (x f g : Str) (W : WX) (σ : L2.St) : V → V → Hp → Prop := fun v w H1 => [v, w].length ≤ 1000 ∧ ∀ a, H1 a = none → spIni2 K x f g (.ref a :: ([v, w] ++ [])) (upd H1 a (exo a (ga K x) none))
  (fun u H2 => u = .non ∧ ∃ (d : Addr) (fs : List (Str × V)), H2 a = some (exo a (ga K x) (some d)) ∧ H2 d = some (exd d fs) ∧ H1 d = none ∧ W (.ref (ga K x)) (some d) σ (upd (del H2 a) d (.xd fs))) (fun _ _ _ => False)
def tRaise1 (K : PySem.W.Frag) (x f : Str) (W : WX) (te : TE) : TS := fun _ σ H => te σ H fun v H1 => mk1 K x f W σ v H1
def tRaise2 (K : PySem.W.Frag) (x f g : Str) (W : WX) (ta tb : TE) : TS := fun _ σ H => ta σ H fun v H1 => tb σ H1 fun w H2 => mk2 K x f g W σ v w H2
theorem heap_back1 {fs : List (Str × V)} {H : Hp} {a d C : Addr} {o u : HO} {z : HO} (ha : H a = none) (hd : upd H a z d = none) (ne : d ≠ a) :
    upd (del (upd (upd (upd H a z) d o) a u) a) d (.xd fs) = upd H d (.xd fs) := by
  funext b
  by_cases e : b = d
  · rw [e, upd_same, upd_same]
  · rw [upd_ne e, upd_ne e]
    by_cases e2 : b = a
    · rw [e2, del_same, ha]
    · rw [del_ne e2, upd_ne e2, upd_ne e, upd_ne e2]
theorem heap_back2 {fs : List (Str × V)} {H : Hp} {a d C : Addr} {o u y : HO} {z : HO} (ha : H a = none) (hd : upd H a z d = none) (ne : d ≠ a) :
    upd (del (upd (upd (upd (upd H a z) d o) a u) d y) a) d (.xd fs) = upd H d (.xd fs) := by
  funext b
  by_cases e : b = d
  · rw [e, upd_same, upd_same]
  · rw [upd_ne e, upd_ne e]
    by_cases e2 : b = a
    · rw [e2, del_same, ha]
    · rw [del_ne e2, upd_ne e, upd_ne e2, upd_ne e, upd_ne e2]
theorem none_up {H : Hp} {a d : Addr} {z : HO} (h : upd H a z d = none) (ne : d ≠ a) : H d = none := by
  rw [upd_ne ne] at h
  exact h
section
variable {X : Cx} {W : WX} {x f g : Str} {p pos pos2 : Pos} {e e2 : Expr} {te te2 : TE} {k : Nat}
theorem ps_raise1 (hc : X.calm = true) (tk : L2N.Takes X W) (T : ExI X.prog X.w X.K X.mg X.base k x [f] ["self", f] (spIni1 X.K x f)) (hr : Room (k + 1) X.A) (he : PE X e te) (hg : Gl X x := by rfl) (hdb : (x == ("__debug__" : Str)) = false := by decide)
    (hs : starEach [e] X.env = (false, eval e X.env) :: starEach [] X.env := by rfl) (hpl : (backTo pos (starEach [] X.env)).any (·.1) = false := by rfl) :
    PS X (.Raise (some (.Call (.Name x p) [e] [] pos)) none pos2) (tRaise1 X.K x f W te) := by
  obtain ⟨fd, F, b⟩ := T.F
  have h0 := L2N.ps_raise (pos := pos2) hc tk (mkN (p := p) (pos := pos) T.T.o T.T.i T.T.t F hr b pass0 hg T.g (pa_cons he pa_nil hs) hdb hs hpl)
  exact ⟨fun pins s σ H D I h => h0.run pins s σ H D I h⟩
theorem ps_raise2 (hc : X.calm = true) (tk : L2N.Takes X W) (T : ExI X.prog X.w X.K X.mg X.base k x [f, g] ["self", f, g] (spIni2 X.K x f g)) (hr : Room (k + 1) X.A) (he : PE X e te) (he2 : PE X e2 te2) (hg : Gl X x := by rfl) (hdb : (x == ("__debug__" : Str)) = false := by decide)
    (hs : starEach [e, e2] X.env = (false, eval e X.env) :: starEach [e2] X.env := by rfl) (hs2 : starEach [e2] X.env = (false, eval e2 X.env) :: starEach [] X.env := by rfl) (hpl : (backTo pos (starEach [e2] X.env)).any (·.1) = false := by rfl) :
    PS X (.Raise (some (.Call (.Name x p) [e, e2] [] pos)) none pos2) (tRaise2 X.K x f g W te te2) := by
  obtain ⟨fd, F, b⟩ := T.F
  have h0 := L2N.ps_raise (pos := pos2) hc tk (mkN (p := p) (pos := pos) T.T.o T.T.i T.T.t F hr b pass0 hg T.g (pa_cons he (pa_cons he2 pa_nil hs2) hs) hdb hs hpl)
  exact ⟨fun pins s σ H D I h => h0.run pins s σ H D I h⟩
end
theorem rd_mk1 {K : PySem.W.Frag} {x f : Str} {W : WX} {σ : L2.St} {v : V} {H : Hp} (q : ∀ d, H d = none → W (.ref (ga K x)) (some d) σ (upd H d (.xd [(f, v)]))) : mk1 K x f W σ v H := by
  refine ⟨by show 1 ≤ 1000; decide, fun a ha => ?_⟩
  refine ⟨a, v, rfl, upd_same, fun d hd ne => ⟨rfl, d, [(f, v)], upd_same, ?_, none_up hd ne, ?_⟩⟩
  · rw [upd_ne ne, upd_same]
  · rw [heap_back1 (C := a) ha hd ne]
    exact q d (none_up hd ne)
theorem rd_mk2 {K : PySem.W.Frag} {x f g : Str} {W : WX} {σ : L2.St} {v w : V} {H : Hp} (q : ∀ d, H d = none → W (.ref (ga K x)) (some d) σ (upd H d (.xd [(g, w), (f, v)]))) : mk2 K x f g W σ v w H := by
  refine ⟨by show 2 ≤ 1000; decide, fun a ha => ?_⟩
  refine ⟨a, v, w, rfl, upd_same, fun d hd ne => ⟨rfl, d, [(g, w), (f, v)], ?_, upd_same, none_up hd ne, ?_⟩⟩
  · rw [upd_ne (Ne.symm ne), upd_same]
  · rw [heap_back2 (C := a) ha hd ne]
    exact q d (none_up hd ne)
/-! ### calls where an exception is handled -/
structure HasH (P : Program) (w : World) (K : PySem.W.Frag) (mg : Str → Option Value) (base : Heap) (k : Nat) (x : Str) (ps : List Str) (sp : Sp) : Prop where
  ex : ∃ fd, L2H.FnH P w K mg base CX0 k (ga K x) fd ps sp ∧ Binds K fd ps []
  gl : mg x = some (.ref (ga K x))
  kp : PySem.W.keepIn K (.ref (ga K x)) = true
section
variable {X : Cx} {k j : Nat} {x : Str} {ps : List Str} {sp : Sp} {t : TA} {p pos : Pos} {e : Expr} {es : List Expr} {a : Addr} {oe : Obj} {cls : Value} {d : Option Addr} {pn : List (Addr × Obj)}
theorem hot_of (hz : L2N.Zn cls d oe) (hf : ∃ vs, oe.data = .fields vs) : L2H.HotC (X.suite a ((a, oe) :: pn)) := by
  obtain ⟨vs, hd⟩ := hf
  exact ⟨(a, oe), ⟨rfl, vs, hd, hz.2.2 vs hd⟩, List.mem_cons_self⟩
theorem pe_HH (h : HasH X.prog X.w X.K X.mg X.base k x ps sp) (hz : L2N.Zn cls d oe) (hf : ∃ vs, oe.data = .fields vs) (hr : Room j X.A) (hj : k ≤ j) (ha : PA (X.suite a ((a, oe) :: pn)) (e :: es) t) (hg : Gl X x := by rfl) (hdb : (x == ("__debug__" : Str)) = false := by decide)
    (he : starEach (e :: es) X.env = (false, eval e X.env) :: starEach es X.env := by rfl) (hpl : (backTo pos (starEach es X.env)).any (·.1) = false := by rfl) :
    PE (X.suite a ((a, oe) :: pn)) (.Call (.Name x p) (e :: es) [] pos) (tCallS sp (WE fun _ _ _ _ => False) t) := by
  obtain ⟨fd, F, b⟩ := h.ex
  exact L2H.pe_callH (X := X.suite a ((a, oe) :: pn)) (CX := CX0) F (L2H.roomH_mark (hr.mono hj) _) (hot_of hz hf) hg h.gl h.kp b (fun σ _ _ _ _ _ _ no => False.elim no) ha hdb he hpl
/-- a statement that is never reached -/
theorem ps_dead {s : Stmt} : PS X s (fun _ _ _ => False) := ⟨fun _ _ _ _ _ _ no => False.elim no⟩
end
end Lw

set_option Elab.async false
set_option linter.all false
set_option maxRecDepth 100000
set_option maxHeartbeats 2000000
namespace Lw
open PySem PySem.Spec PyProof.Rows L2 He
/-! ### kinds of things -/
def kinds : List String := ["NoneType", "bool", "int", "str", "list", "tuple", "dict"]
def isTab (n T : String) : Bool := n == T || (n == "bool" && T == "int")
theorem isTab_ok : ∀ n ∈ kinds, ∀ T ∈ kinds, kitB n T = some (isTab n T) := by decide +kernel
/-- a thing of a kind -/
structure Th (K : PySem.W.Frag) (H : Hp) (x : V) (n : String) : Prop where
  t : TyX K H x (.type n)
  k : n ∈ kinds
abbrev Thg (K : PySem.W.Frag) (H : Hp) (x : V) : Prop := ∃ n, Th K H x n
theorem th_int {K : PySem.W.Frag} {H : Hp} (i : Int) : Th K H (.int i) "int" := ⟨.base (.int i), by decide⟩
theorem th_bl {K : PySem.W.Frag} {H : Hp} (b : Bool) : Th K H (.bl b) "bool" := ⟨.base (.bl b), by decide⟩
theorem th_non {K : PySem.W.Frag} {H : Hp} : Th K H .non "NoneType" := ⟨.base .non, by decide⟩
theorem th_str {K : PySem.W.Frag} {H : Hp} (x : Str) : Th K H (.str x) "str" := ⟨.base (.str x), by decide⟩
theorem th_lst {K : PySem.W.Frag} {H : Hp} {a : Addr} {xs : List V} (h : H a = some (.lst xs)) : Th K H (.ref a) "list" := ⟨.base (.lst h), by decide⟩
theorem th_tup {K : PySem.W.Frag} {H : Hp} {a : Addr} {xs : List V} (h : H a = some (.tup xs)) : Th K H (.ref a) "tuple" := ⟨.base (.tup h), by decide⟩
theorem th_dK {K : PySem.W.Frag} {H : Hp} {a : Addr} {xs : List (Key × V)} (h : H a = some (.dK xs)) : Th K H (.ref a) "dict" := ⟨.base (.dK h), by decide⟩
/-- a whole number from lo to hi -/
def wholeV (lo hi : Int) : V → Bool
  | .int i => decide (lo ≤ i) && decide (i ≤ hi)
  | _ => false
def rIsT (K : PySem.W.Frag) : List V → Hp → VK → Prop := fun xs H Q => ∃ (x : V) (T n : String), xs = [x, .ty T] ∧ Th K H x n ∧ T ∈ kinds ∧ Q (.bl (isTab n T)) H
section
variable {X : Cx}
theorem call_isT : CallR X (.builtin "isinstance") (rIsT X.K) := by
  intro pins s σ H xs us Q I r h
  obtain ⟨x, T, n, rfl, th, hT, q⟩ := h
  exact call_isi pins s σ H _ us Q I r ⟨x, .ty T, _, _, _, rfl, .ty T, th.t, kit_ty (isTab_ok n th.k T hT), q⟩
end
/-! ### readings, step by step -/
section
variable {K : PySem.W.Frag} {σ : L2.St} {H : Hp} {D : Ends} {Q : VK} {v x y z : V} {ta tb tc te : TE} {t u : TS} {c d : TT} {r r' : R2} {i : Nat} {a : Addr} {QB : Bool → Hp → Prop} {b : Bool}
theorem rd_seq (h : t { D with nx := u D } σ H) : tSeq t u D σ H := h
theorem rd_asg (h : te σ H fun x H1 => D.nx (σ.set i (some x)) H1) : tAsg te (gName i) D σ H := h
theorem rd_ret (h : te σ H D.rt) : tRet te D σ H := h
theorem rd_next (h : D.nx σ H) : tNext D σ H := h
theorem rd_drop (h : te σ H fun _ H1 => D.nx σ H1) : tDrop te D σ H := h
theorem rd_if (h : c σ H fun b H1 => (b = true → t D σ H1) ∧ (b = false → u D σ H1)) : tIfS c t u D σ H := by
  have e : (fun (b : Bool) (H1 : Hp) => if b = true then t D σ H1 else u D σ H1) = fun b H1 => (b = true → t D σ H1) ∧ (b = false → u D σ H1) := by
    funext b H1
    cases b
    · show (if false = true then t D σ H1 else u D σ H1) = _
      rw [if_neg Bool.false_ne_true]
      exact propext ⟨fun h => ⟨(fun z => nomatch z), fun _ => h⟩, fun h => h.2 rfl⟩
    · show (if true = true then t D σ H1 else u D σ H1) = _
      rw [if_pos rfl]
      exact propext ⟨fun h => ⟨fun _ => h, (fun z => nomatch z)⟩, fun h => h.1 rfl⟩
  show c σ H (fun b H1 => if b = true then t D σ H1 else u D σ H1)
  rw [e]
  exact h
theorem rd_ifE (h : c σ H fun b H1 => (b = true → ta σ H1 Q) ∧ (b = false → tb σ H1 Q)) : tIf c ta tb σ H Q := by
  have e : (fun (b : Bool) (H1 : Hp) => if b = true then ta σ H1 Q else tb σ H1 Q) = fun b H1 => (b = true → ta σ H1 Q) ∧ (b = false → tb σ H1 Q) := by
    funext b H1
    cases b
    · show (if false = true then _ else _) = _
      rw [if_neg Bool.false_ne_true]
      exact propext ⟨fun h => ⟨(fun z => nomatch z), fun _ => h⟩, fun h => h.2 rfl⟩
    · show (if true = true then _ else _) = _
      rw [if_pos rfl]
      exact propext ⟨fun h => ⟨fun _ => h, (fun z => nomatch z)⟩, fun h => h.1 rfl⟩
  show c σ H (fun b H1 => if b = true then ta σ H1 Q else tb σ H1 Q)
  rw [e]
  exact h
theorem rd_var (h : σ[i]? = some (some v)) (q : Q v H) : tVar i σ H Q := ⟨v, h, q⟩
theorem rd_c (q : Q v H) : tC v σ H Q := q
theorem rd_op (h : ta σ H fun x H1 => tb σ H1 fun y H2 => r x y H2 Q) : tOp r ta tb σ H Q := h
theorem rd_chain (h : ta σ H fun x H1 => tb σ H1 fun y H2 => r x y H2 fun z H3 => ∃ k, z = .bl k ∧ (k = true → tc σ H3 fun w H4 => r' y w H4 Q) ∧ (k = false → Q (.bl false) H3)) : tChain r r' ta tb tc σ H Q := by
  have e : ∀ (y : V), (fun (z : V) (H3 : Hp) => ∃ k, z = .bl k ∧ if k = true then tc σ H3 fun w H4 => r' y w H4 Q else Q (.bl false) H3) = fun z H3 => ∃ k, z = .bl k ∧ (k = true → tc σ H3 fun w H4 => r' y w H4 Q) ∧ (k = false → Q (.bl false) H3) := by
    intro y
    funext x H1
    refine propext ⟨fun ⟨k, e, h⟩ => ⟨k, e, ?_⟩, fun ⟨k, e, h⟩ => ⟨k, e, ?_⟩⟩
    · cases k
      · exact ⟨(fun z => nomatch z), fun _ => by rw [if_neg Bool.false_ne_true] at h; exact h⟩
      · exact ⟨fun _ => by rw [if_pos rfl] at h; exact h, (fun z => nomatch z)⟩
    · cases k
      · rw [if_neg Bool.false_ne_true]; exact h.2 rfl
      · rw [if_pos rfl]; exact h.1 rfl
  show ta σ H (fun x H1 => tb σ H1 fun y H2 => r x y H2 fun z H3 => ∃ k, z = .bl k ∧ (if k = true then tc σ H3 fun w H4 => r' y w H4 Q else Q (.bl false) H3))
  simp only [e]
  exact h
theorem rd_I0 {g : Int → Int → V} {m n : Int} (q : Q (g m n) H) : rI0 g (.int m) (.int n) H Q := ⟨m, n, rfl, rfl, q⟩
theorem rd_I {C : Int → Int → Prop} {g : Int → Int → V} {m n : Int} (hc : C m n) (q : Q (g m n) H) : rI C g (.int m) (.int n) H Q := ⟨m, n, rfl, rfl, hc, q⟩
theorem rd_test (h : te σ H fun x H1 => ∃ k, x = .bl k ∧ QB k H1) : tTest te σ H QB := h
theorem rd_B (h : te σ H fun x H1 => ∃ k, x = .bl k ∧ QB k H1) : tB te σ H QB := h
theorem rd_bl {P : Bool → Prop} (q : P b) : ∃ k, V.bl b = .bl k ∧ P k := ⟨b, rfl, q⟩
theorem rd_not (h : c σ H fun b H1 => QB (!b) H1) : tNot c σ H QB := h
theorem rd_and (h : c σ H fun b H1 => (b = true → d σ H1 QB) ∧ (b = false → QB false H1)) : tAnd c d σ H QB := by
  have e : (fun (b : Bool) (H1 : Hp) => if b = true then d σ H1 QB else QB false H1) = fun b H1 => (b = true → d σ H1 QB) ∧ (b = false → QB false H1) := by
    funext b H1
    cases b
    · show (if false = true then _ else _) = _
      rw [if_neg Bool.false_ne_true]
      exact propext ⟨fun h => ⟨(fun z => nomatch z), fun _ => h⟩, fun h => h.2 rfl⟩
    · show (if true = true then _ else _) = _
      rw [if_pos rfl]
      exact propext ⟨fun h => ⟨fun _ => h, (fun z => nomatch z)⟩, fun h => h.1 rfl⟩
  show c σ H (fun b H1 => if b = true then d σ H1 QB else QB false H1)
  rw [e]
  exact h
theorem rd_or (h : c σ H fun b H1 => (b = true → QB true H1) ∧ (b = false → d σ H1 QB)) : tOr c d σ H QB := by
  have e : (fun (b : Bool) (H1 : Hp) => if b = true then QB true H1 else d σ H1 QB) = fun b H1 => (b = true → QB true H1) ∧ (b = false → d σ H1 QB) := by
    funext b H1
    cases b
    · show (if false = true then _ else _) = _
      rw [if_neg Bool.false_ne_true]
      exact propext ⟨fun h => ⟨(fun z => nomatch z), fun _ => h⟩, fun h => h.2 rfl⟩
    · show (if true = true then _ else _) = _
      rw [if_pos rfl]
      exact propext ⟨fun h => ⟨fun _ => h, (fun z => nomatch z)⟩, fun h => h.1 rfl⟩
  show c σ H (fun b H1 => if b = true then QB true H1 else d σ H1 QB)
  rw [e]
  exact h
theorem rd_andV (h : ta σ H fun x H1 => ∃ k, x = .bl k ∧ (k = true → tb σ H1 Q) ∧ (k = false → Q (.bl false) H1)) : tAndV ta tb σ H Q := by
  have e : (fun (x : V) (H1 : Hp) => ∃ k, x = .bl k ∧ if k = true then tb σ H1 Q else Q (.bl false) H1) = fun x H1 => ∃ k, x = .bl k ∧ (k = true → tb σ H1 Q) ∧ (k = false → Q (.bl false) H1) := by
    funext x H1
    refine propext ⟨fun ⟨k, e, h⟩ => ⟨k, e, ?_⟩, fun ⟨k, e, h⟩ => ⟨k, e, ?_⟩⟩
    · cases k
      · exact ⟨(fun z => nomatch z), fun _ => by rw [if_neg Bool.false_ne_true] at h; exact h⟩
      · exact ⟨fun _ => by rw [if_pos rfl] at h; exact h, (fun z => nomatch z)⟩
    · cases k
      · rw [if_neg Bool.false_ne_true]; exact h.2 rfl
      · rw [if_pos rfl]; exact h.1 rfl
  show ta σ H (fun x H1 => ∃ k, x = .bl k ∧ if k = true then tb σ H1 Q else Q (.bl false) H1)
  rw [e]
  exact h
theorem rd_orV (h : ta σ H fun x H1 => ∃ k, x = .bl k ∧ (k = true → Q (.bl true) H1) ∧ (k = false → tb σ H1 Q)) : tOrV ta tb σ H Q := by
  have e : (fun (x : V) (H1 : Hp) => ∃ k, x = .bl k ∧ if k = true then Q (.bl true) H1 else tb σ H1 Q) = fun x H1 => ∃ k, x = .bl k ∧ (k = true → Q (.bl true) H1) ∧ (k = false → tb σ H1 Q) := by
    funext x H1
    refine propext ⟨fun ⟨k, e, h⟩ => ⟨k, e, ?_⟩, fun ⟨k, e, h⟩ => ⟨k, e, ?_⟩⟩
    · cases k
      · exact ⟨(fun z => nomatch z), fun _ => by rw [if_neg Bool.false_ne_true] at h; exact h⟩
      · exact ⟨fun _ => by rw [if_pos rfl] at h; exact h, (fun z => nomatch z)⟩
    · cases k
      · rw [if_neg Bool.false_ne_true]; exact h.2 rfl
      · rw [if_pos rfl]; exact h.1 rfl
  show ta σ H (fun x H1 => ∃ k, x = .bl k ∧ if k = true then Q (.bl true) H1 else tb σ H1 Q)
  rw [e]
  exact h
theorem rd_notV (h : ta σ H fun x H1 => ∃ k, x = .bl k ∧ Q (.bl (!k)) H1) : tNotV ta σ H Q := h
theorem rd_cons {tr : TA} {QA : List V → Hp → Prop} (h : ta σ H fun x H1 => tr σ H1 fun xs H2 => QA (x :: xs) H2) : tCons ta tr σ H QA := h
theorem rd_nil {QA : List V → Hp → Prop} (h : QA [] H) : tNil σ H QA := h
theorem rd_CB {rr : List V → Hp → VK → Prop} {tA : TA} (h : tA σ H fun vs H1 => rr vs H1 Q) : tCB rr tA σ H Q := h
theorem rd_callS {sp : Sp} {W : WX} {tA : TA} (h : tA σ H fun vs H1 => sp vs H1 Q (fun cls d H => W cls d σ H)) : tCallS sp (WE W) tA σ H Q := h
theorem rd_raise0 {n : Str} {W : WX} (h : W (.ref (ga K n)) none σ H) : tRaise0 K n W D σ H := h
theorem rd_raise1 {n f : Str} {W : WX} (h : te σ H fun v H1 => mk1 K n f W σ v H1) : tRaise1 K n f W te D σ H := h
theorem rd_raise2 {n f g : Str} {W : WX} (h : ta σ H fun v H1 => tb σ H1 fun w H2 => mk2 K n f g W σ v w H2) : tRaise2 K n f g W ta tb D σ H := h
theorem rd_isT {T n : String} (th : Th K H x n) (hT : T ∈ kinds) (q : Q (.bl (isTab n T)) H) : rIsT K [x, .ty T] H Q := ⟨x, T, n, rfl, th, hT, q⟩
theorem rd_eq (hs : scal x y = true) (q : Q (.bl (decide (x = y))) H) : rEq x y H Q := ⟨hs, q⟩
theorem rd_ne (hs : scal x y = true) (q : Q (.bl (!decide (x = y))) H) : rNe x y H Q := ⟨hs, q⟩
theorem rd_tup {tA : TA} (h : tA σ H fun xs H1 => xs.length ≤ sizeLine ∧ ∀ p, H1 p = none → Q (.ref p) (upd H1 p (.tup xs))) : tTup tA σ H Q := h
theorem rd_lst {tA : TA} (h : tA σ H fun xs H1 => xs.length ≤ sizeLine ∧ ∀ p, H1 p = none → Q (.ref p) (upd H1 p (.lst xs))) : tLst tA σ H Q := h
end
theorem whole_not {lo hi : Int} : ∀ {x : V}, (∀ i, x ≠ .int i) → wholeV lo hi x = false
  | .int i, h => absurd rfl (h i)
  | .non, _ => rfl
  | .bl _, _ => rfl
  | .str _, _ => rfl
  | .byt _, _ => rfl
  | .flt _, _ => rfl
  | .ref _, _ => rfl
  | .ty _, _ => rfl
theorem th_cases {K : PySem.W.Frag} {H : Hp} {x : V} {n : String} (th : Th K H x n) : (isTab n "int" = true ∧ isTab n "bool" = false ∧ ∃ i, x = .int i) ∨
    ((isTab n "int" = false ∨ isTab n "bool" = true) ∧ ∀ lo hi, wholeV lo hi x = false) := by
  obtain ⟨t, k⟩ := th
  have key : ∀ m ∈ kinds, m ≠ "int" → isTab m "int" = false ∨ isTab m "bool" = true := by decide
  by_cases e : n = "int"
  · subst e
    refine .inl ⟨by decide, by decide, ?_⟩
    generalize hz : (Value.type "int") = z at t
    cases t with
    | base h => cases h <;> first | exact ⟨_, rfl⟩ | exact absurd (Value.type.inj hz) (by decide) | cases hz
    | byt b => exact absurd (Value.type.inj hz) (by decide)
    | set e => exact absurd (Value.type.inj hz) (by decide)
    | kList e c => exact absurd (Value.type.inj hz) (by decide)
    | kTuple e c => exact absurd (Value.type.inj hz) (by decide)
    | kDict e c => exact absurd (Value.type.inj hz) (by decide)
    | fTuple e => exact absurd (Value.type.inj hz) (by decide)
    | fDict e => exact absurd (Value.type.inj hz) (by decide)
  · refine .inr ⟨key n k e, fun lo hi => whole_not fun i q => ?_⟩
    subst q
    generalize hz : (Value.type n) = z at t
    cases t with
    | base h =>
      cases h
      exact e (Value.type.inj hz)
end Lw

set_option Elab.async false
set_option linter.all false
set_option maxRecDepth 100000
set_option maxHeartbeats 2000000
namespace Lw
open PySem PySem.Spec PyProof.Rows L2 He
/-- the binary digits as signs -/
def binL (n : Nat) : List Nat := (Nat.toDigits 2 n).map fun c => c.toNat
def binS (n : Nat) : Str := ⟨(binL n).toArray⟩
def padL (ds : List Nat) : Nat := ((-1 : Int) - ((((0 : Nat) : Int)) + (((0 : Nat) : Int)) + (((0 : Nat) : Int))) - (ds.length : Int)).toNat
def fillL (digits : List Nat) : List Nat := if digits.isEmpty then [] else List.replicate ((0 : Int).toNat - digits.length) 48 ++ digits
def rawS (digits : List Nat) : Str := ⟨(List.replicate (padL (fillL digits)) 32 ++ [] ++ [] ++ List.replicate 0 32 ++ fillL digits ++ [] ++ List.replicate 0 32).toArray⟩
theorem raw_eq (digits : List Nat) : rawS digits = ⟨digits.toArray⟩ := by
  have e1 : fillL digits = digits := by
    unfold fillL
    cases digits with
    | nil => rfl
    | cons a l => simp
  have e2 : padL digits = 0 := by
    unfold padL
    omega
  unfold rawS
  rw [e1, e2]
  simp
theorem fmt_b (n : Nat) (t u : Tok) : Builtin.«int.__format__» ⟨[.int (n : Int) t, .str "b" u], []⟩ = (do let _kind ← typeNameOf (.str "b" u); (do let name ← typeNameOfCut 200 (.int (n : Int) t); retStr (rawS (binL n)))) := by kernel_rfl
theorem gives_int_b (n : Nat) (t u : Tok) : Gives (Builtin.«int.__format__» ⟨[.int (n : Int) t, .str "b" u], []⟩) (.str (binS n)) := by
  have e : binS n = rawS (binL n) := (raw_eq _).symm
  rw [e, fmt_b]
  intro prog w A R s hq
  refine wpAny_bind (wpAny_typeNameOf (typeIs_str _ _ _) (by decide) fun _ => ?_)
  refine wpAny_bind (wpAny_typeNameOfCut_int ?_)
  exact (Gives.of_eq (m := .str (rawS (binL n))) rfl) prog w A R s hq
def tFmtB (te : TE) : TE := fun σ H Q => te σ H fun x H1 => ∃ n : Nat, x = .int (n : Int) ∧ (binS n).length ≤ sizeLine ∧ Q (.str (binS n)) H1
section
variable {X : Cx} {e : Expr} {te : TE} {pos p2 p3 : Pos} {k : Nat}
theorem pe_fmtB (he : PE X e te) : PE X (.FormattedValue e (-1) (some (.JoinedStr [.Constant (.str "b") k p2] p3)) pos) (tFmtB te) := by
  refine ⟨fun pins s σ H Q I h => ?_⟩
  refine wpAny_FormattedValue_spec (thn (he.run pins s σ H _ I h) fun v s1 hv => ?_)
  obtain ⟨x, H1, I1, r1, n, rfl, hz, q⟩ := hv
  obtain ⟨t, rfl⟩ := r1
  refine wpAny_JoinedStr_one (thn ((pe_str (X := X) (x := "b")).run pins s1 σ H1 (fun v H2 => v = .str "b" ∧ H1 = H2) I1 ⟨rfl, rfl⟩) fun v s2 hv => ?_)
  obtain ⟨y, H2, I2, r2, ey, eH⟩ := hv
  subst ey eH
  obtain ⟨t2, rfl⟩ := r2
  refine ⟨_, _, rfl, ?_⟩
  exact wpAny_formatField_spec (by decide) (fun s' => typeIs_int s' _ _) PySem.F.slot_int_format PySem.F.entry_int_format PySem.F.args_int_format_2 (fun u => gives_int_b n t u) ⟨.str (binS n), H1, I2.tok _, ⟨_, rfl⟩, q⟩ (by size_fits) hz
end
/-- how many of the bits are 1 -/
def onesN (n : Nat) : Nat := (binL n).count 49
end Lw

set_option Elab.async false
set_option linter.all false
set_option maxRecDepth 100000
set_option maxHeartbeats 2000000
namespace Lw
open PySem PySem.Spec PyProof.Rows L2 He
theorem sub_one (x : Str) (c k : Nat) (hk : k < x.cps.toList.length) : Builtin.Str.subAt x ⟨#[c]⟩ k = (x.cps.toList[k] == c) := by
  rw [StrLaws.subAt_eq]
  show (List.take 1 (List.drop k x.cps.toList) == [c]) = _
  have e : List.drop k x.cps.toList = x.cps.toList[k] :: List.drop (k + 1) x.cps.toList := List.drop_eq_getElem_cons hk
  rw [e]
  simp
theorem occ_run (x : Str) (c : Nat) : ∀ (m k : Nat) (st : Array Nat × Nat), k + m = x.cps.toList.length → st.fst.size ≤ k → st.snd ≤ k →
    (forIn (List.range' k (m + 1)) st (StrLaws.occBody x ⟨#[c]⟩ x.length (x.length + 1))).run.fst.size = st.fst.size + (x.cps.toList.drop k).count c
  | 0, k, st, hk, h1, h2 => by
    have hl : x.length = x.cps.toList.length := by simp [Str.length]
    have e : x.cps.toList.drop k = [] := List.drop_eq_nil_of_le (by omega)
    have e1 : List.range' k (0 + 1) = [k] := rfl
    rw [e, e1, List.forIn_cons]
    unfold StrLaws.occBody
    rw [if_neg (fun z => by have := z.1.2; simp [Str.length] at this; simp at hk; omega)]
    simp
  | m + 1, k, st, hk, h1, h2 => by
    have hl : x.length = x.cps.toList.length := by simp [Str.length]
    have hlt : k < x.cps.toList.length := by omega
    have e1 : List.range' k (m + 1 + 1) = k :: List.range' (k + 1) (m + 1) := rfl
    have e : List.drop k x.cps.toList = x.cps.toList[k] :: List.drop (k + 1) x.cps.toList := List.drop_eq_getElem_cons hlt
    rw [e, e1, List.forIn_cons, List.count_cons]
    by_cases hc : (x.cps.toList[k] == c) = true
    · have hb : StrLaws.occBody x ⟨#[c]⟩ x.length (x.length + 1) k st = pure (ForInStep.yield (st.fst.push k, k + 1)) := by
        unfold StrLaws.occBody
        rw [if_pos ⟨⟨⟨by omega, h2⟩, by show k + 1 ≤ x.length; omega⟩, by rw [sub_one x c k hlt]; exact hc⟩]
        rfl
      rw [hb]
      have ih := occ_run x c m (k + 1) (st.fst.push k, k + 1) (by omega) (by simp; omega) (Nat.le_refl _)
      show (forIn (List.range' (k + 1) (m + 1)) (st.fst.push k, k + 1) (StrLaws.occBody x ⟨#[c]⟩ x.length (x.length + 1))).run.fst.size = _
      rw [ih, if_pos hc]
      simp
      omega
    · have hb : StrLaws.occBody x ⟨#[c]⟩ x.length (x.length + 1) k st = pure (ForInStep.yield (st.fst, st.snd)) := by
        unfold StrLaws.occBody
        rw [if_neg]
        rintro ⟨_, z⟩
        rw [sub_one x c k hlt] at z
        exact hc z
      rw [hb]
      have ih := occ_run x c m (k + 1) (st.fst, st.snd) (by omega) (by show st.fst.size ≤ k + 1; omega) (by show st.snd ≤ k + 1; omega)
      show (forIn (List.range' (k + 1) (m + 1)) (st.fst, st.snd) (StrLaws.occBody x ⟨#[c]⟩ x.length (x.length + 1))).run.fst.size = _
      rw [ih, if_neg hc]
      show st.fst.size + _ = st.fst.size + (_ + 0)
      omega
theorem count_one (x : Str) (c : Nat) : Txt.count x ⟨#[c]⟩ = ((x.cps.toList.count c : Nat) : Int) := by
  unfold Txt.count
  have hl : x.length = x.cps.toList.length := by simp [Str.length]
  have e := occ_run x c x.cps.toList.length 0 (#[], 0) (by omega) (Nat.zero_le _) (Nat.zero_le _)
  rw [StrLaws.occ_eq, Array.length_toList]
  have e2 : x.length + 1 - 0 = x.cps.toList.length + 1 := by omega
  rw [e2, e]
  simp
theorem count_bin (n : Nat) : Txt.count (binS n) "1" = ((onesN n : Nat) : Int) := by
  have e : ("1" : Str) = ⟨#[49]⟩ := by decide +kernel
  rw [e, count_one]
  rfl
theorem binL_len (n : Nat) {k : Nat} (hk : 0 < k) (h : n < 2 ^ k) : (binS n).length ≤ k := by
  show (binL n).toArray.size ≤ k
  unfold binL
  simp only [List.size_toArray, List.length_map]
  exact (Nat.length_toDigits_le_iff (by decide) hk).mpr h
end Lw

set_option Elab.async false
set_option linter.all false
set_option maxRecDepth 100000
set_option maxHeartbeats 2000000
namespace Lw
open PySem PySem.Spec PyProof.Rows L2 He Evl
section
variable {K : PySem.W.Frag} {σ : L2.St} {H : Hp} {D : Ends} {Q : VK} {v x y z : V} {ta tb tc te : TE} {t u : TS} {c d : TT} {r r' : R2} {i : Nat} {a : Addr} {QB : Bool → Hp → Prop} {b : Bool}
theorem rd_fmtB (h : te σ H fun x H1 => ∃ n : Nat, x = .int (n : Int) ∧ (binS n).length ≤ sizeLine ∧ Q (.str (binS n)) H1) : tFmtB te σ H Q := h
theorem rd_M1 {rr : V → List V → Hp → VK → Prop} (h : ta σ H fun x H1 => (∃ a, x = .str a) ∧ te σ H1 fun y H2 => rr x [y] H2 Q) : tM1 rr ta te σ H Q := h
theorem rd_un {rr : V → Hp → VK → Prop} (h : ta σ H fun x H1 => rr x H1 Q) : tUn rr ta σ H Q := h
/-- the heap behind is the heap ahead and more -/
theorem ex_upd {H : Hp} {p : Addr} {o : HO} (h : H p = none) : Ex H (upd H p o) := Ex.new h
/-- a comprehension over range(n), its steps seen from the heap ahead of it -/
theorem lc_rng {n : Nat} {j : Nat} {vs : List Nat} {tt : TT} (f : Nat → Bool) (g : Nat → V) (hn : n ≤ 40000) (hw : ∀ x, wipe ((wipe σ vs).set j (some x)) vs = wipe σ vs)
    (ht : ∀ (i : Nat) H1, Ex H H1 → i < n → EvT tt ((wipe σ vs).set j (some (.int (i : Int)))) H1 (f i)) (he : ∀ (i : Nat) H1, Ex H H1 → i < n → f i = true → Ev te ((wipe σ vs).set j (some (.int (i : Int)))) H1 (g i))
    (q : ∀ p H', H p = none → Ex H H' → H' p = some (.lst (given n f g)) → Q (.ref p) H') : tLc (iRng1 (tCons (tC (.int (n : Int))) tNil)) (gName j) tt te vs σ H Q := by
  have e := el_lcR1 (σ := σ) (H := H) (ta := tCons (tC (.int (n : Int))) tNil) (j := j) (vs := vs) (n := (n : Int)) (t := tt) (te := te) f g (ea_cons ev_c ea_nil) ⟨by omega, by omega⟩ hw
    (fun i H1 e hi => ht i H1 e (by omega)) (fun i H1 e hi hf => he i H1 e (by omega) hf)
  have en : ((n : Int)).toNat = n := by simp
  rw [en] at e
  exact e H (Ex.refl H) Q fun p H2 hp e2 h2 => q p H2 hp e2 h2
theorem lc_tupT {Qd : Addr → Hp → Prop} {xs : List V} {j : Nat} {vs : List Nat} {tt : TT} (f : Nat → Bool) (g : Nat → V) (hx : SqT K H a xs) (hz : xs.length ≤ 40000) (hw : ∀ x, wipe ((wipe σ vs).set j (some x)) vs = wipe σ vs)
    (ht : ∀ (i : Nat) (x : V) H1, Ex H H1 → xs[i]? = some x → EvT tt ((wipe σ vs).set j (some x)) H1 (f i)) (he : ∀ (i : Nat) (x : V) H1, Ex H H1 → xs[i]? = some x → f i = true → Ev te ((wipe σ vs).set j (some x)) H1 (g i))
    (q : ∀ p H', H p = none → Ex H H' → H' p = some (.lst (given xs.length f g)) → Qd p H') :
    ∀ D, H D = none → ∃ W : Nat → Nat → Hp → Prop, (∃ m, W 0 m (upd H D (.lst []))) ∧ ∀ i m H, W i m H → ((Itt K a).stop i H ∧ Qd D H) ∨ ((Itt K a).go i H ∧ ∃ Nx : Hp → Prop, (∀ H', Nx H' → ∃ m', m' < m ∧ W (i + 1) m' H') ∧
      ∀ x H', (Itt K a).yld i H x H' → gName j x (wipe σ vs) H' fun σ2 H2 => wipe σ2 vs = wipe σ vs ∧ tt σ2 H2 fun b H3 => if b = true then te σ2 H3 fun y H4 => ∃ acc, H4 D = some (.lst acc) ∧ acc.length < sizeLine ∧ Nx (upd H4 D (.lst (acc ++ [y]))) else Nx H3) := fun Dl hD =>
  lc_tup (xs := xs) (Cw H f g Dl) ⟨hD, Ex.new hD, upd_same⟩ (fun i H' _ p => ex_t p.2.1 hx) (fun i x H' hi p => ⟨hw x, cw_turn p (by have := (List.getElem?_eq_some_iff.mp hi).1; omega) (ht i x H (Ex.refl H) hi) (fun hf => he i x H (Ex.refl H) hi hf)⟩)
    (fun H' p => q Dl H' p.1 p.2.1 p.2.2)
theorem lc_rngT {Qd : Addr → Hp → Prop} {lo : Int} {n j : Nat} {vs : List Nat} {tt : TT} (f : Nat → Bool) (g : Nat → V) (hz : n ≤ 40000) (hw : ∀ x, wipe ((wipe σ vs).set j (some x)) vs = wipe σ vs)
    (ht : ∀ (i : Nat) H1, Ex H H1 → i < n → EvT tt ((wipe σ vs).set j (some (.int (lo + (i : Int))))) H1 (f i)) (he : ∀ (i : Nat) H1, Ex H H1 → i < n → f i = true → Ev te ((wipe σ vs).set j (some (.int (lo + (i : Int))))) H1 (g i))
    (q : ∀ p H', H p = none → Ex H H' → H' p = some (.lst (given n f g)) → Qd p H') :
    ∀ D, H D = none → ∃ W : Nat → Nat → Hp → Prop, (∃ m, W 0 m (upd H D (.lst []))) ∧ ∀ i m H, W i m H → ((Itr lo n).stop i H ∧ Qd D H) ∨ ((Itr lo n).go i H ∧ ∃ Nx : Hp → Prop, (∀ H', Nx H' → ∃ m', m' < m ∧ W (i + 1) m' H') ∧
      ∀ x H', (Itr lo n).yld i H x H' → gName j x (wipe σ vs) H' fun σ2 H2 => wipe σ2 vs = wipe σ vs ∧ tt σ2 H2 fun b H3 => if b = true then te σ2 H3 fun y H4 => ∃ acc, H4 D = some (.lst acc) ∧ acc.length < sizeLine ∧ Nx (upd H4 D (.lst (acc ++ [y]))) else Nx H3) := fun Dl hD =>
  lc_range (lo := lo) (n := n) (Cw H f g Dl) ⟨hD, Ex.new hD, upd_same⟩ (fun i H' hi p => ⟨hw _, cw_turn p (by omega) (ht i H (Ex.refl H) hi) (fun hf => he i H (Ex.refl H) hi hf)⟩)
    (fun H' p => q Dl H' p.1 p.2.1 p.2.2)
theorem lc_rng0 {Qd : Addr → Hp → Prop} {n j : Nat} {vs : List Nat} {tt : TT} (f : Nat → Bool) (g : Nat → V) (hz : n ≤ 40000) (hw : ∀ x, wipe ((wipe σ vs).set j (some x)) vs = wipe σ vs)
    (ht : ∀ (i : Nat) H1, Ex H H1 → i < n → EvT tt ((wipe σ vs).set j (some (.int (i : Int)))) H1 (f i)) (he : ∀ (i : Nat) H1, Ex H H1 → i < n → f i = true → Ev te ((wipe σ vs).set j (some (.int (i : Int)))) H1 (g i))
    (q : ∀ p H', H p = none → Ex H H' → H' p = some (.lst (given n f g)) → Qd p H') :
    ∀ D, H D = none → ∃ W : Nat → Nat → Hp → Prop, (∃ m, W 0 m (upd H D (.lst []))) ∧ ∀ i m H, W i m H → ((Itr 0 n).stop i H ∧ Qd D H) ∨ ((Itr 0 n).go i H ∧ ∃ Nx : Hp → Prop, (∀ H', Nx H' → ∃ m', m' < m ∧ W (i + 1) m' H') ∧
      ∀ x H', (Itr 0 n).yld i H x H' → gName j x (wipe σ vs) H' fun σ2 H2 => wipe σ2 vs = wipe σ vs ∧ tt σ2 H2 fun b H3 => if b = true then te σ2 H3 fun y H4 => ∃ acc, H4 D = some (.lst acc) ∧ acc.length < sizeLine ∧ Nx (upd H4 D (.lst (acc ++ [y]))) else Nx H3) :=
  lc_rngT (lo := 0) f g hz hw (fun i H1 e hi => by rw [Int.zero_add]; exact ht i H1 e hi) (fun i H1 e hi hf => by rw [Int.zero_add]; exact he i H1 e hi hf) q
theorem lc_lstT {Qd : Addr → Hp → Prop} {xs : List V} {j : Nat} {vs : List Nat} {tt : TT} (f : Nat → Bool) (g : Nat → V) (hx : SqL K H a xs) (hz : xs.length ≤ 40000) (hw : ∀ x, wipe ((wipe σ vs).set j (some x)) vs = wipe σ vs)
    (ht : ∀ (i : Nat) (x : V) H1, Ex H H1 → xs[i]? = some x → EvT tt ((wipe σ vs).set j (some x)) H1 (f i)) (he : ∀ (i : Nat) (x : V) H1, Ex H H1 → xs[i]? = some x → f i = true → Ev te ((wipe σ vs).set j (some x)) H1 (g i))
    (q : ∀ p H', H p = none → Ex H H' → H' p = some (.lst (given xs.length f g)) → Qd p H') :
    ∀ D, H D = none → ∃ W : Nat → Nat → Hp → Prop, (∃ m, W 0 m (upd H D (.lst []))) ∧ ∀ i m H, W i m H → ((Itl K a).stop i H ∧ Qd D H) ∨ ((Itl K a).go i H ∧ ∃ Nx : Hp → Prop, (∀ H', Nx H' → ∃ m', m' < m ∧ W (i + 1) m' H') ∧
      ∀ x H', (Itl K a).yld i H x H' → gName j x (wipe σ vs) H' fun σ2 H2 => wipe σ2 vs = wipe σ vs ∧ tt σ2 H2 fun b H3 => if b = true then te σ2 H3 fun y H4 => ∃ acc, H4 D = some (.lst acc) ∧ acc.length < sizeLine ∧ Nx (upd H4 D (.lst (acc ++ [y]))) else Nx H3) := fun Dl hD =>
  lc_list (xs := xs) (Cw H f g Dl) ⟨hD, Ex.new hD, upd_same⟩ (fun i H' _ p => ex_l p.2.1 hx) (fun i x H' hi p => ⟨hw x, cw_turn p (by have := (List.getElem?_eq_some_iff.mp hi).1; omega) (ht i x H (Ex.refl H) hi) (fun hf => he i x H (Ex.refl H) hi hf)⟩)
    (fun H' p => q Dl H' p.1 p.2.1 p.2.2)
theorem rd_lc {wi : TI} {g : TG} {tt : TT} {vs : List Nat} (h : wi σ H fun J H1 => ∀ D, H1 D = none → ∃ W : Nat → Nat → Hp → Prop, (∃ m, W 0 m (upd H1 D (.lst []))) ∧ ∀ i m H, W i m H →
  (J.stop i H ∧ Q (.ref D) H) ∨ (J.go i H ∧ ∃ Nx : Hp → Prop, (∀ H', Nx H' → ∃ m', m' < m ∧ W (i + 1) m' H') ∧ ∀ x H', J.yld i H x H' → g x (wipe σ vs) H' fun σ2 H2 => wipe σ2 vs = wipe σ vs ∧ tt σ2 H2 fun b H3 =>
    if b = true then te σ2 H3 fun y H4 => ∃ acc, H4 D = some (.lst acc) ∧ acc.length < sizeLine ∧ Nx (upd H4 D (.lst (acc ++ [y]))) else Nx H3)) : tLc wi g tt te vs σ H Q := h
theorem rd_iT {tl : TE} {R : It → Hp → Prop} (h : tl σ H fun x H1 => ∃ a, x = .ref a ∧ (∃ xs, SqT K H1 a xs) ∧ R (Itt K a) H1) : iTup K tl σ H R := h
theorem rd_iL {tl : TE} {R : It → Hp → Prop} (h : tl σ H fun x H1 => ∃ a, x = .ref a ∧ (∃ xs, SqL K H1 a xs) ∧ R (Itl K a) H1) : iList K tl σ H R := h
theorem rd_iR1 {tA : TA} {R : It → Hp → Prop} (h : tA σ H fun vs H1 => ∃ j : Int, vs = [.int j] ∧ -(2 ^ 62) ≤ j ∧ j < 2 ^ 62 ∧ R (Itr 0 j.toNat) H1) : iRng1 tA σ H R := h
theorem rd_iR2 {tA : TA} {R : It → Hp → Prop} (h : tA σ H fun vs H1 => ∃ i j : Int, vs = [.int i, .int j] ∧ (-(2 ^ 62) ≤ i ∧ i < 2 ^ 62 ∧ -(2 ^ 62) ≤ j ∧ j < 2 ^ 62) ∧ R (Itr i (j - i).toNat) H1) : iRng2 tA σ H R := h
theorem given_map {n : Nat} {g : Nat → V} : given n (fun _ => true) g = (List.range n).map g := by
  unfold given
  rw [List.filter_eq_self.mpr (fun _ _ => rfl)]
end
end Lw

set_option Elab.async false
set_option linter.all false
set_option maxRecDepth 100000
set_option maxHeartbeats 2000000
namespace Lw
open PySem PySem.Spec PyProof.Rows L2 He Evl StX
section
variable {X : Cx} {K : PySem.W.Frag}
theorem kx_list (h : X.K = K) : IxR X (rIxL K) := h ▸ ix_list
theorem kx_tup (h : X.K = K) : IxR X (rIxT K) := h ▸ ix_tup
theorem kx_seq (h : X.K = K) : IxR X (rIx K) := h ▸ ix_seq
def rLenK (K : PySem.W.Frag) : List V → Hp → VK → Prop := fun xs H Q => ∃ p ys, xs = [.ref p] ∧ (SqL K H p ys ∨ SqT K H p ys) ∧ Q (.int ys.length) H
def rListK (K : PySem.W.Frag) : List V → Hp → VK → Prop := fun xs H Q => ∃ p ys, xs = [.ref p] ∧ (SqL K H p ys ∨ SqT K H p ys) ∧ ∀ l, H l = none → Q (.ref l) (upd H l (.lst ys))
def rTupK (K : PySem.W.Frag) : List V → Hp → VK → Prop := fun xs H Q => ∃ p ys, xs = [.ref p] ∧ ((SqL K H p ys ∧ ∀ l, H l = none → Q (.ref l) (upd H l (.tup ys))) ∨ (SqT K H p ys ∧ Q (.ref p) H))
theorem kc_len (h : X.K = K) : CallR X (.builtin "len") (rLenK K) := h ▸ call_len_seq
theorem kc_list (h : X.K = K) : CallR X (.type "list") (rListK K) := h ▸ call_list_of
theorem kc_tup (h : X.K = K) : CallR X (.type "tuple") (rTupK K) := h ▸ call_tuple_of
theorem kc_isT (h : X.K = K) : CallR X (.builtin "isinstance") (rIsT K) := h ▸ call_isT
theorem kc_sum (hc : X.calm = true) (h : X.K = K) : CallR X (.builtin "sum") (rSum K) := h ▸ cr_sum hc
theorem kc_all (hc : X.calm = true) (h : X.K = K) : CallR X (.builtin "all") (rAll K) := h ▸ cr_all hc
theorem kc_any (hc : X.calm = true) (h : X.K = K) : CallR X (.builtin "any") (rAny K) := h ▸ cr_any hc
theorem kc_sorted (h : X.K = K) : CallR X (.builtin "sorted") (rSortedI K) := h ▸ cr_sortedI
theorem ko_in (h : X.K = K) : OpR X (compareOp .In) (rIn K false) := h ▸ op_in_seq
theorem ko_notIn (h : X.K = K) : OpR X (compareOp .NotIn) (rIn K true) := h ▸ op_notIn_seq
theorem ko_eqD {k : Nat} (hr : Room k X.A) (h : X.K = K) : OpR X (compareOp .Eq) (rEqD K) := h ▸ op_eqD hr.units
theorem ko_neD {k : Nat} (hr : Room k X.A) (h : X.K = K) : OpR X (compareOp .NotEq) (rNeD K) := h ▸ op_neD hr.units
theorem ks_list (h : X.K = K) : L2.SlR X (rSlL K) := h ▸ sl_list
theorem ks_tup (h : X.K = K) : L2.SlR X (rSlT K) := h ▸ sl_tup
def tTr (K : PySem.W.Frag) (ta : TE) : TT := fun σ H Q => ta σ H fun x H' => ∃ k, TruV K x H' k ∧ Q k H'
theorem kt_truth {a : Expr} {ta : TE} (h : X.K = K) (ha : PE X a ta) (he : ∀ whole, isTrue a X.env whole = (do let v ← whole; standAt a.pos; holding [v] (truthy v))) : PT X a (tTr K ta) := h ▸ pt_truth ha he
theorem ki_list {tg l : Expr} {tl : TE} (h : X.K = K) (hl : PE X l tl) : PI X tg l (iList K tl) := h ▸ pi_list hl
theorem ki_tup {tg l : Expr} {tl : TE} (h : X.K = K) (hl : PE X l tl) : PI X tg l (iTup K tl) := h ▸ pi_tup hl
theorem ka_star {e : Expr} {es : List Expr} {te : TE} {t : TA} {p : Pos} (h : X.K = K) (he : PE X e te) (hr : PA X es t) (hs : starEach (.Starred e p :: es) X.env = (true, eval e X.env) :: starEach es X.env := by rfl) : PA X (.Starred e p :: es) (tStar K te t) := h ▸ pa_star he hr hs
end
section
variable {K : PySem.W.Frag} {σ : L2.St} {H : Hp} {D : Ends} {Q : VK} {v x y z : V} {ta tb tc te : TE} {a : Addr} {QB : Bool → Hp → Prop} {b : Bool}
theorem rd_tr (h : ta σ H fun x H' => ∃ k, TruV K x H' k ∧ QB k H') : tTr K ta σ H QB := h
theorem rd_trI {i : Int} {P : Bool → Prop} (q : P (i != 0)) : ∃ k, TruV K (.int i) H k ∧ P k := ⟨_, rfl, q⟩
theorem rd_star {tA : TA} {QA : List V → Hp → Prop} (h : te σ H fun x H1 => ∃ p xs, x = V.ref p ∧ (SqT K H1 p xs ∨ SqL K H1 p xs) ∧ tA σ H1 fun ys H2 => QA (xs ++ ys) H2) : tStar K te tA σ H QA := h
end
/-! ### sorted ints -/
def ins (x : Int) : List Int → List Int
  | [] => [x]
  | y :: r => if x ≤ y then x :: y :: r else y :: ins x r
def isort : List Int → List Int
  | [] => []
  | x :: r => ins x (isort r)
theorem ins_perm (x : Int) : ∀ l, (ins x l).Perm (x :: l)
  | [] => .refl _
  | y :: r => by
    unfold ins
    split
    · exact .refl _
    · exact ((ins_perm x r).cons y).trans (.swap x y r)
theorem isort_perm : ∀ l, (isort l).Perm l
  | [] => .refl _
  | x :: r => (ins_perm x (isort r)).trans ((isort_perm r).cons x)
theorem ins_sorted (x : Int) : ∀ l, l.Pairwise (· ≤ ·) → (ins x l).Pairwise (· ≤ ·)
  | [], _ => .cons (fun _ h => nomatch h) .nil
  | y :: r, h => by
    unfold ins
    cases h with
    | cons h1 h2 =>
      split
      · rename_i c
        exact .cons (fun z hz => by
          rcases List.mem_cons.mp hz with rfl | hz
          · exact c
          · exact Int.le_trans c (h1 z hz)) (.cons h1 h2)
      · rename_i c
        refine .cons (fun z hz => ?_) (ins_sorted x r h2)
        rcases List.mem_cons.mp ((ins_perm x r).mem_iff.mp hz) with rfl | hz
        · omega
        · exact h1 z hz
theorem isort_sorted : ∀ l, (isort l).Pairwise (· ≤ ·)
  | [] => .nil
  | x :: r => ins_sorted x _ (isort_sorted r)
theorem sorted_eq : ∀ {a b : List Int}, a.Perm b → a.Pairwise (· ≤ ·) → b.Pairwise (· ≤ ·) → a = b
  | [], b, p, _, _ => (List.nil_perm.mp p).symm
  | x :: a, [], p, _, _ => absurd p.length_eq (by simp)
  | x :: a, y :: b, p, ha, hb => by
    cases ha with
    | cons ha1 ha2 => cases hb with
      | cons hb1 hb2 =>
        have e : x = y := by
          have h1 : x ∈ y :: b := p.mem_iff.mp List.mem_cons_self
          have h2 : y ∈ x :: a := p.mem_iff.mpr List.mem_cons_self
          have l1 : y ≤ x := by
            rcases List.mem_cons.mp h1 with z | z
            · omega
            · exact hb1 x z
          have l2 : x ≤ y := by
            rcases List.mem_cons.mp h2 with z | z
            · omega
            · exact ha1 y z
          omega
        subst e
        rw [sorted_eq ((List.perm_cons x).mp p) ha2 hb2]
theorem isort_eq {a b : List Int} (p : a.Perm b) (h : a.Pairwise (· ≤ ·)) : a = isort b := sorted_eq (p.trans (isort_perm b).symm) h (isort_sorted b)
theorem rd_sorted {K : PySem.W.Frag} {H : Hp} {Q : VK} {a : Addr} {ns : List Int} (h : SqL K H a (ns.map V.int)) (q : ∀ p, H p = none → Q (.ref p) (upd H p (.lst ((isort ns).map V.int)))) : rSortedI K [.ref a] H Q :=
  ⟨a, ns, rfl, h, fun ns' p hp hs hn => by rw [isort_eq hp hs]; exact q p hn⟩
theorem map_int {l : List Nat} {f : Nat → Int} : (l.map fun n => V.int (f n)) = (l.map f).map V.int := by rw [List.map_map]; rfl
/-! ### bits of numbers from 0 -/
theorem and_nat (a b : Nat) : Builtin.bitAnd (a : Int) (b : Int) = ((a &&& b : Nat) : Int) := by
  unfold Builtin.bitAnd
  rw [decide_eq_true (by omega), decide_eq_true (by omega)]
  simp
theorem or_nat (a b : Nat) : Builtin.bitOr (a : Int) (b : Int) = ((a ||| b : Nat) : Int) := by
  rw [bitOr_nn (by omega) (by omega)]
  simp
theorem xor_nat (a b : Nat) : Builtin.bitXor (a : Int) (b : Int) = ((a ^^^ b : Nat) : Int) := by
  rw [Bits.bitXor_pp (by omega) (by omega)]
  simp
theorem shr_nat (a k : Nat) : (a : Int) / 2 ^ ((k : Int)).toNat = ((a / 2 ^ k : Nat) : Int) := by
  rw [Int.toNat_natCast, Int.natCast_ediv, Int.natCast_pow]
  rfl
theorem shl_nat (a k : Nat) : (a : Int) * 2 ^ ((k : Int)).toNat = ((a * 2 ^ k : Nat) : Int) := by
  rw [Int.toNat_natCast, Int.natCast_mul, Int.natCast_pow]
  rfl
def rNN (f : Nat → Nat → Nat) : R2 := fun x y H Q => ∃ a b : Nat, x = .int (a : Int) ∧ y = .int (b : Int) ∧ Q (.int ((f a b : Nat) : Int)) H
def rShlN : R2 := fun x y H Q => ∃ a k : Nat, x = .int (a : Int) ∧ y = .int (k : Int) ∧ (a < 2 ^ 1000 ∧ k ≤ 1000) ∧ Q (.int ((a * 2 ^ k : Nat) : Int)) H
section
variable {X : Cx}
theorem on_and : OpR X (binaryOp .BitAnd) (rNN (· &&& ·)) := by
  intro pins s σ H x y v u Q I rx ry h
  obtain ⟨a, b, rfl, rfl, q⟩ := h
  refine op_and pins s σ H _ _ v u Q I rx ry ⟨_, _, rfl, rfl, ?_⟩
  show Q (.int (Builtin.bitAnd (a : Int) (b : Int))) H
  rw [and_nat]
  exact q
theorem on_or : OpR X (binaryOp .BitOr) (rNN (· ||| ·)) := by
  intro pins s σ H x y v u Q I rx ry h
  obtain ⟨a, b, rfl, rfl, q⟩ := h
  refine op_or pins s σ H _ _ v u Q I rx ry ⟨_, _, rfl, rfl, ?_⟩
  show Q (.int (Builtin.bitOr (a : Int) (b : Int))) H
  rw [or_nat]
  exact q
theorem on_xor : OpR X (binaryOp .BitXor) (rNN (· ^^^ ·)) := by
  intro pins s σ H x y v u Q I rx ry h
  obtain ⟨a, b, rfl, rfl, q⟩ := h
  refine op_xor pins s σ H _ _ v u Q I rx ry ⟨_, _, rfl, rfl, ?_⟩
  show Q (.int (Builtin.bitXor (a : Int) (b : Int))) H
  rw [xor_nat]
  exact q
theorem on_shr : OpR X (binaryOp .RShift) (rNN fun a k => a / 2 ^ k) := by
  intro pins s σ H x y v u Q I rx ry h
  obtain ⟨a, b, rfl, rfl, q⟩ := h
  refine op_shr pins s σ H _ _ v u Q I rx ry ⟨_, _, rfl, rfl, by omega, ?_⟩
  show Q (.int ((a : Int) / 2 ^ ((b : Int)).toNat)) H
  rw [shr_nat]
  exact q
theorem on_shl : OpR X (binaryOp .LShift) rShlN := by
  intro pins s σ H x y v u Q I rx ry h
  obtain ⟨a, k, rfl, rfl, ⟨h1, h2⟩, q⟩ := h
  refine op_shlW pins s σ H _ _ v u Q I rx ry ⟨_, _, rfl, rfl, shl_ok (n := 1000) (by simpa using h1) (by omega), ?_⟩
  show Q (.int ((a : Int) * 2 ^ ((k : Int)).toNat)) H
  rw [shl_nat]
  exact q
end
section
variable {H : Hp} {Q : VK} {f : Nat → Nat → Nat} {a b : Nat}
theorem rd_NN (q : Q (.int ((f a b : Nat) : Int)) H) : rNN f (.int (a : Int)) (.int (b : Int)) H Q := ⟨a, b, rfl, rfl, q⟩
theorem rd_NL (q : Q (.int ((f a b : Nat) : Int)) H) : rNN f (.int (a : Int)) (.int (OfNat.ofNat b)) H Q := ⟨a, b, rfl, rfl, q⟩
theorem rd_LN (q : Q (.int ((f a b : Nat) : Int)) H) : rNN f (.int (OfNat.ofNat a)) (.int (b : Int)) H Q := ⟨a, b, rfl, rfl, q⟩
theorem rd_shl1 (h : b ≤ 1000) (q : Q (.int ((2 ^ b : Nat) : Int)) H) : rShlN (.int 1) (.int (b : Int)) H Q := ⟨1, b, rfl, rfl, ⟨by decide +kernel, h⟩, by rw [Nat.one_mul]; exact q⟩
theorem rd_shlN (h1 : a < 2 ^ 1000) (h : b ≤ 1000) (q : Q (.int ((a * 2 ^ b : Nat) : Int)) H) : rShlN (.int (a : Int)) (.int (b : Int)) H Q := ⟨a, b, rfl, rfl, ⟨h1, h⟩, q⟩
end
theorem bne_cast (a : Nat) : (((a : Nat) : Int) != 0) = (a != 0) := by
  cases a with
  | zero => rfl
  | succ n => rfl
section
variable {K : PySem.W.Frag} {σ : L2.St} {H : Hp} {D : Ends} {g : TG} {tb : TS} {t : TA}
theorem rd_for {wi : TI} (h : wi σ H fun J H1 => ∃ W : Nat → Nat → L2.St → Hp → Prop, (∃ m, W 0 m σ H1) ∧ ∀ i m σ H, W i m σ H →
  ((J.stop i H ∧ D.nx σ H) ∨ (J.go i H ∧ ∃ N : L2.St → Hp → Prop, (∀ σ' H', N σ' H' → ∃ m', m' < m ∧ W (i + 1) m' σ' H') ∧ ∀ x H', J.yld i H x H' → g x σ H' fun σ2 H2 => tb { D with nx := N, ct := N, bk := D.nx } σ2 H2))) : tFor wi g tb D σ H := h
theorem rd_iRev {tr : L2.St → Hp → (Int → Int → Hp → Prop) → Prop} {R : It → Hp → Prop} (h : tr σ H fun a b H1 => -(2 ^ 62) ≤ a ∧ a < 2 ^ 62 ∧ -(2 ^ 62) ≤ b ∧ b < 2 ^ 62 ∧ R (Itc (a + (((b - a).toNat : Nat) : Int) - 1) (-1) (b - a).toNat) H1) : iRevR tr σ H R := h
theorem rd_gname {i : Nat} {v : V} {Q : L2.St → Hp → Prop} (q : Q (σ.set i (some v)) H) : gName i v σ H Q := q
end
theorem rd_Rg1 {σ : L2.St} {H : Hp} {ta : TE} {Q : Int → Int → Hp → Prop} (h : ta σ H fun x H1 => ∃ n, x = .int n ∧ Q 0 n H1) : tRg1 ta σ H Q := h
end Lw

set_option Elab.async false
set_option linter.all false
set_option maxRecDepth 100000
set_option maxHeartbeats 2000000
namespace Lw
open PySem PySem.Spec PyProof.Rows L2 He Evl StX
section
variable {K : PySem.W.Frag} {σ : L2.St} {B : Hp} {te : TE} {a : Addr}
/-- a list is being filled at Dl: acc so far; all else as in B, and more -/
def Fill (B : Hp) (Dl : Addr) (acc : List V) (H' : Hp) : Prop := B Dl = none ∧ Ex B H' ∧ H' Dl = some (.lst acc)
theorem given_succ {n : Nat} {f : Nat → Bool} {g : Nat → V} : given (n + 1) f g = given n f g ++ (if f n = true then [g n] else []) := by
  cases h : f n with
  | true => rw [given_yes h, if_pos rfl]
  | false => rw [given_no h, if_neg (by decide), List.append_nil]
theorem fill_turn {acc : List V} {Dl : Addr} {H' : Hp} {σ3 : L2.St} {n k : Nat} {tt1 : TT} {f : Nat → Bool} {g : Nat → V} (hz : acc.length + n ≤ 40000) (hk : k < n) (p : Fill B Dl (acc ++ given k f g) H')
    (ht : EvT tt1 σ3 B (f k)) (he : f k = true → Ev te σ3 B (g k)) :
    tt1 σ3 H' fun b H6 => if b = true then te σ3 H6 fun y H7 => ∃ acc', H7 Dl = some (.lst acc') ∧ acc'.length < sizeLine ∧ Fill B Dl (acc ++ given (k + 1) f g) (upd H7 Dl (.lst (acc' ++ [y]))) else Fill B Dl (acc ++ given (k + 1) f g) H6 := by
  obtain ⟨p1, p2, p3⟩ := p
  refine ht H' p2 _ fun H6 e6 => ?_
  have hl := given_len k f g
  cases hf : f k with
  | true =>
    show te σ3 H6 _
    refine he hf H6 (p2.trans e6) _ fun H7 e7 => ⟨acc ++ given k f g, e7 Dl _ (e6 Dl _ p3), sz_lt (by rw [List.length_append]; omega), p1, Ex.mut ((p2.trans e6).trans e7) p1, ?_⟩
    rw [upd_same, given_yes hf, List.append_assoc]
  | false =>
    show Fill B Dl (acc ++ given (k + 1) f g) H6
    refine ⟨p1, p2.trans e6, ?_⟩
    rw [given_no hf]
    exact e6 Dl _ p3
/-- the inner walk over a range -/
theorem inner_rng {acc : List V} {Dl : Addr} {H' : Hp} {σ2 : L2.St} {n j : Nat} {vs1 : List Nat} {tt1 : TT} (f : Nat → Bool) (g : Nat → V) (hz : acc.length + n ≤ 40000) (hw : ∀ x, wipe ((wipe σ2 vs1).set j (some x)) vs1 = wipe σ2 vs1)
    (ht : ∀ i : Nat, i < n → EvT tt1 ((wipe σ2 vs1).set j (some (.int (i : Int)))) B (f i)) (he : ∀ i : Nat, i < n → f i = true → Ev te ((wipe σ2 vs1).set j (some (.int (i : Int)))) B (g i))
    (h0 : Fill B Dl acc H') :
    ∃ W1 : Nat → Nat → Hp → Prop, (∃ m, W1 0 m H') ∧ ∀ k m H, W1 k m H →
      ((Itr 0 n).stop k H ∧ Fill B Dl (acc ++ given n f g) H) ∨ ((Itr 0 n).go k H ∧ ∃ Nx1 : Hp → Prop, (∀ H', Nx1 H' → ∃ m', m' < m ∧ W1 (k + 1) m' H') ∧ ∀ x H', (Itr 0 n).yld k H x H' → gName j x (wipe σ2 vs1) H' fun σ3 H5 => wipe σ3 vs1 = wipe σ2 vs1 ∧ tt1 σ3 H5 fun b H6 =>
        if b = true then te σ3 H6 fun y H7 => ∃ acc, H7 Dl = some (.lst acc) ∧ acc.length < sizeLine ∧ Nx1 (upd H7 Dl (.lst (acc ++ [y]))) else Nx1 H6) := by
  have z0 : Fill B Dl (acc ++ given 0 f g) H' := by
    have e : acc ++ given 0 f g = acc := by
      show acc ++ [] = acc
      exact List.append_nil _
    rw [e]
    exact h0
  refine ⟨fun k m H => m = n - k ∧ k ≤ n ∧ Fill B Dl (acc ++ given k f g) H, ⟨n, by simp, Nat.zero_le _, z0⟩, ?_⟩
  rintro k m H ⟨rfl, hk, p⟩
  by_cases h : k < n
  · refine .inr ⟨h, Fill B Dl (acc ++ given (k + 1) f g), fun H2 q => ⟨n - (k + 1), by omega, rfl, h, q⟩, fun x H2 y => ?_⟩
    obtain ⟨e1, e2⟩ := y
    subst e1 e2
    rw [Int.zero_add]
    exact ⟨hw _, fill_turn hz h p (ht k h) (he k h)⟩
  · have e : k = n := by omega
    subst e
    exact .inl ⟨Nat.le_refl _, p⟩
/-- what the outer turns have made -/
def flat (i : Nat) (n : Nat → Nat) (f : Nat → Nat → Bool) (g : Nat → Nat → V) : List V := (List.range i).flatMap fun k => given (n k) (f k) (g k)
theorem flat_succ {i : Nat} {n : Nat → Nat} {f : Nat → Nat → Bool} {g : Nat → Nat → V} : flat (i + 1) n f g = flat i n f g ++ given (n i) (f i) (g i) := by
  unfold flat
  rw [List.range_succ, List.flatMap_append, List.flatMap_singleton]
theorem flat_len {i M : Nat} {n : Nat → Nat} {f : Nat → Nat → Bool} {g : Nat → Nat → V} (h : ∀ k, k < i → n k ≤ M) : (flat i n f g).length ≤ i * M := by
  induction i with
  | zero => simp [flat]
  | succ i ih =>
    rw [flat_succ, List.length_append, Nat.succ_mul]
    have h1 := ih fun k hk => h k (by omega)
    have h2 := given_len (n i) (f i) (g i)
    have h3 := h i (by omega)
    omega
/-- two fors: over a tuple, then over a range -/
theorem lc2_TR {Qd : Addr → Hp → Prop} {xs : List V} {j j1 M : Nat} {vs vs1 : List Nat} {tt tt1 : TT} {ta1 : TA} (ok : Nat → Bool) (n : Nat → Nat) (f : Nat → Nat → Bool) (g : Nat → Nat → V)
    (hx : SqT K B a xs) (hM : xs.length * M ≤ 40000) (hn : ∀ i, i < xs.length → n i ≤ M)
    (hw : ∀ x, wipe ((wipe σ vs).set j (some x)) vs = wipe σ vs)
    (hw1 : ∀ x y, wipe ((wipe ((wipe σ vs).set j (some x)) vs1).set j1 (some y)) vs1 = wipe ((wipe σ vs).set j (some x)) vs1)
    (h0 : ∀ (i : Nat) (x : V), xs[i]? = some x → EvT tt ((wipe σ vs).set j (some x)) B (ok i))
    (hok : ∀ i, i < xs.length → ok i = false → n i = 0)
    (ha : ∀ (i : Nat) (x : V), xs[i]? = some x → ok i = true → EvA ta1 ((wipe σ vs).set j (some x)) B [.int (n i : Int)])
    (ht : ∀ (i : Nat) (x : V) (k : Nat), xs[i]? = some x → k < n i → EvT tt1 ((wipe ((wipe σ vs).set j (some x)) vs1).set j1 (some (.int (k : Int)))) B (f i k))
    (he : ∀ (i : Nat) (x : V) (k : Nat), xs[i]? = some x → k < n i → f i k = true → Ev te ((wipe ((wipe σ vs).set j (some x)) vs1).set j1 (some (.int (k : Int)))) B (g i k))
    (q : ∀ p H', B p = none → Ex B H' → H' p = some (.lst (flat xs.length n f g)) → Qd p H') :
    ∀ D, B D = none → ∃ W : Nat → Nat → Hp → Prop, (∃ m, W 0 m (upd B D (.lst []))) ∧ ∀ i m H, W i m H →
      ((Itt K a).stop i H ∧ Qd D H) ∨ ((Itt K a).go i H ∧ ∃ Nx : Hp → Prop, (∀ H', Nx H' → ∃ m', m' < m ∧ W (i + 1) m' H') ∧ ∀ x H', (Itt K a).yld i H x H' → gName j x (wipe σ vs) H' fun σ2 H2 => wipe σ2 vs = wipe σ vs ∧ tt σ2 H2 fun b H3 =>
        if b = true then iRng1 ta1 σ2 H3 fun J1 H4 => ∃ W1 : Nat → Nat → Hp → Prop, (∃ m, W1 0 m H4) ∧ ∀ j' k H, W1 j' k H →
          (J1.stop j' H ∧ Nx H) ∨ (J1.go j' H ∧ ∃ Nx1 : Hp → Prop, (∀ H', Nx1 H' → ∃ k', k' < k ∧ W1 (j' + 1) k' H') ∧ ∀ x H', J1.yld j' H x H' → gName j1 x (wipe σ2 vs1) H' fun σ3 H5 => wipe σ3 vs1 = wipe σ2 vs1 ∧ tt1 σ3 H5 fun b H6 =>
            if b = true then te σ3 H6 fun y H7 => ∃ acc, H7 D = some (.lst acc) ∧ acc.length < sizeLine ∧ Nx1 (upd H7 D (.lst (acc ++ [y]))) else Nx1 H6)
        else Nx H3) := fun Dl hD => by
  refine ⟨fun i m H => m = xs.length - i ∧ i ≤ xs.length ∧ Fill B Dl (flat i n f g) H, ⟨xs.length, by simp, Nat.zero_le _, hD, Ex.new hD, upd_same⟩, ?_⟩
  rintro i m H ⟨rfl, hi, p⟩
  have hxH : SqT K H a xs := ex_t p.2.1 hx
  by_cases hlt : i < xs.length
  · have hxi : xs[i]? = some xs[i] := List.getElem?_eq_getElem hlt
    refine .inr ⟨⟨xs, xs[i], hxH, hxi⟩, Fill B Dl (flat (i + 1) n f g), fun H' q' => ⟨xs.length - (i + 1), by omega, rfl, hlt, q'⟩, fun x H' y => ?_⟩
    obtain ⟨e1, y⟩ := y
    subst e1
    have ex := y xs hxH
    refine ⟨hw x, ?_⟩
    refine h0 i x ex _ p.2.1 _ fun H3 e3 => ?_
    have p3 : Fill B Dl (flat i n f g) H3 := ⟨p.1, p.2.1.trans e3, e3 Dl _ p.2.2⟩
    have hfl := flat_len (f := f) (g := g) (M := M) (n := n) (i := i) fun k hk => hn k (by omega)
    have hn1 := hn i hlt
    have hm : i * M + M ≤ xs.length * M := by
      rw [← Nat.succ_mul]
      exact Nat.mul_le_mul_right M hlt
    cases hb : ok i with
    | true =>
      rw [if_pos rfl]
      refine ha i x ex hb H3 p3.2.1 _ fun H4 e4 => ⟨(n i : Int), rfl, by omega, by omega, ?_⟩
      have p4 : Fill B Dl (flat i n f g) H4 := ⟨p3.1, p3.2.1.trans e4, e4 Dl _ p3.2.2⟩
      rw [flat_succ]
      rw [Int.toNat_natCast]
      exact inner_rng (f i) (g i) (by omega) (fun y => hw1 x y) (fun k hk => ht i x k ex hk) (fun k hk hf => he i x k ex hk hf) p4
    | false =>
      show Fill B Dl (flat (i + 1) n f g) H3
      have e0 : given (n i) (f i) (g i) = [] := by
        rw [hok i hlt hb]
        rfl
      rw [flat_succ, e0, List.append_nil]
      exact p3
  · have e : i = xs.length := by omega
    subst e
    exact .inl ⟨⟨xs, hxH, Nat.le_refl _⟩, q Dl H p.1 p.2.1 p.2.2⟩
theorem rd_lc2 {H : Hp} {Q : VK} {wi wi1 : TI} {g g1 : TG} {tt tt1 : TT} {vs vs1 : List Nat} (h : wi σ H fun J H1 => ∀ D, H1 D = none → ∃ W : Nat → Nat → Hp → Prop, (∃ m, W 0 m (upd H1 D (.lst []))) ∧ ∀ i m H, W i m H →
  (J.stop i H ∧ Q (.ref D) H) ∨ (J.go i H ∧ ∃ Nx : Hp → Prop, (∀ H', Nx H' → ∃ m', m' < m ∧ W (i + 1) m' H') ∧ ∀ x H', J.yld i H x H' → g x (wipe σ vs) H' fun σ2 H2 => wipe σ2 vs = wipe σ vs ∧ tt σ2 H2 fun b H3 =>
    if b = true then wi1 σ2 H3 fun J1 H4 => ∃ W1 : Nat → Nat → Hp → Prop, (∃ m, W1 0 m H4) ∧ ∀ j k H, W1 j k H →
      (J1.stop j H ∧ Nx H) ∨ (J1.go j H ∧ ∃ Nx1 : Hp → Prop, (∀ H', Nx1 H' → ∃ k', k' < k ∧ W1 (j + 1) k' H') ∧ ∀ x H', J1.yld j H x H' → g1 x (wipe σ2 vs1) H' fun σ3 H5 => wipe σ3 vs1 = wipe σ2 vs1 ∧ tt1 σ3 H5 fun b H6 =>
        if b = true then te σ3 H6 fun y H7 => ∃ acc, H7 D = some (.lst acc) ∧ acc.length < sizeLine ∧ Nx1 (upd H7 D (.lst (acc ++ [y]))) else Nx1 H6)
    else Nx H3)) : tLc2 wi g tt wi1 g1 tt1 te vs vs1 σ H Q := h
end
section
variable {K : PySem.W.Frag} {σ : L2.St} {B H : Hp} {D : Ends} {te ta tb : TE} {Q : VK} {l : Addr} {xs : List V} {v : V}
theorem Fill.new {p : Addr} (h : B p = none) {xs : List V} : Fill B p xs (upd B p (.lst xs)) := ⟨h, Ex.new h, upd_same⟩
theorem Fill.set {H' : Hp} (h : Fill B l xs H') (ys : List V) : Fill B l ys (upd H' l (.lst ys)) := ⟨h.1, Ex.mut h.2.1 h.1, upd_same⟩
theorem Fill.ex {H' H2 : Hp} (h : Fill B l xs H') (e : Ex H' H2) : Fill B l xs H2 := ⟨h.1, h.2.1.trans e, e l _ h.2.2⟩
theorem Fill.base {B0 : Hp} {H' : Hp} (e : Ex B0 B) (h : Fill B l xs H') : Fill B0 l xs H' := ⟨fresh_back e h.1, e.trans h.2.1, h.2.2⟩
theorem rd_last (h : H l = some (.lst (xs ++ [v]))) (q : Q v H) : rIxL K (.ref l) (.int (-1)) H Q := ⟨l, xs ++ [v], -1, v, rfl, rfl, sq_of h, atI_last xs v, q⟩
theorem rd_while {c : TT} {tb : TS} (h : ∃ W : Nat → L2.St → Hp → Prop, (∃ m, W m σ H) ∧ ∀ m σ H, W m σ H → c σ H fun b H1 => (b = true → ∃ N : L2.St → Hp → Prop, (∀ σ' H', N σ' H' → ∃ m', m' < m ∧ W m' σ' H') ∧ tb { D with nx := N, ct := N, bk := D.nx } σ H1) ∧ (b = false → D.nx σ H1)) : tWhile c tb D σ H := by
  obtain ⟨W, hm, hs⟩ := h
  refine ⟨W, hm, fun m σ H w => ?_⟩
  have e : (fun (b : Bool) (H1 : Hp) => if b = true then ∃ N : L2.St → Hp → Prop, (∀ σ' H', N σ' H' → ∃ m', m' < m ∧ W m' σ' H') ∧ tb { D with nx := N, ct := N, bk := D.nx } σ H1 else D.nx σ H1) =
      fun b H1 => (b = true → ∃ N : L2.St → Hp → Prop, (∀ σ' H', N σ' H' → ∃ m', m' < m ∧ W m' σ' H') ∧ tb { D with nx := N, ct := N, bk := D.nx } σ H1) ∧ (b = false → D.nx σ H1) := by
    funext b H1
    cases b
    · rw [if_neg Bool.false_ne_true]
      exact propext ⟨fun h => ⟨(fun z => nomatch z), fun _ => h⟩, fun h => h.2 rfl⟩
    · rw [if_pos rfl]
      exact propext ⟨fun h => ⟨fun _ => h, (fun z => nomatch z)⟩, fun h => h.1 rfl⟩
  rw [e]
  exact hs m σ H w
theorem rd_BM {T : String} {r : V → List V → Hp → VK → Prop} {tA : TA} (h : te σ H fun x H1 => tyV K T x H1 ∧ tA σ H1 fun xs H2 => r x xs H2 Q) : tBM K T r te tA σ H Q := h
theorem rd_app (h : H l = some (.lst xs)) (hz : xs.length < 100000) (q : Q .non (upd H l (.lst (xs ++ [v])))) : rAppend (.ref l) [v] H Q := ⟨l, xs, v, rfl, rfl, h, sz_lt hz, q⟩
theorem ty_lst (h : H l = some (.lst xs)) : tyV K "list" (.ref l) H := .inl ⟨rfl, xs, sq_of h⟩
theorem rd_neg {i : Int} (q : Q (.int (-i)) H) : rU (fun i => .int (-i)) (.int i) H Q := ⟨i, rfl, q⟩
end
theorem rd_iZip {K : PySem.W.Frag} {σ : L2.St} {H : Hp} {ta : TA} {R : It → Hp → Prop} (h : ta σ H fun vs H1 => ∃ a b xs ys, vs = [.ref a, .ref b] ∧ ((SqL K H1 a xs ∧ SqL K H1 b ys ∧ R (Itz K a b) H1) ∨ (SqT K H1 a xs ∧ SqT K H1 b ys ∧ R (RZ.ItzT K a b) H1))) : RZ.iZipA K ta σ H R := h
theorem rd_gcons {σ : L2.St} {H : Hp} {t : TG} {u : TGs} {v : V} {r : List V} {Q : L2.St → Hp → Prop} (h : t v σ H fun σ' H' => u r σ' H' Q) : gCons t u (v :: r) σ H Q := ⟨v, r, rfl, h⟩
theorem rd_gnil {σ : L2.St} {H : Hp} {Q : L2.St → Hp → Prop} (h : Q σ H) : gNil [] σ H Q := ⟨rfl, h⟩
end Lw

set_option Elab.async false
set_option linter.all false
set_option maxRecDepth 100000
set_option maxHeartbeats 2000000
namespace Lw
open PySem PySem.Spec PyProof.Rows L2 He Evl StX
theorem rd_int1 {P : Int → Prop} {R : Prop} {i : Int} (q : P i) : (∃ j, [V.int i] = [V.int j] ∧ P j) ∨ R := .inl ⟨i, rfl, q⟩
theorem rd_ex1 {P : Int → Prop} {i : Int} (q : P i) : ∃ j, [V.int i] = [V.int j] ∧ P j := ⟨i, rfl, q⟩
theorem fmod_bd (i : Int) {j : Int} (h : 0 < j) : 0 ≤ i.fmod j ∧ i.fmod j < j := ⟨Int.fmod_nonneg_of_pos i h, Int.fmod_lt_of_pos i h⟩
theorem div_bd {i : Int} {j : Int} (h0 : 0 ≤ i) (h : 0 < j) : 0 ≤ i / j ∧ i / j ≤ i := ⟨Int.ediv_nonneg h0 (by omega), Int.ediv_le_self _ h0⟩
/-- how many bits -/
abbrev bits (i : Int) : Nat := Builtin.Int.intBits i
theorem bits_le {i : Int} {a : Nat} (h : i.natAbs < 2 ^ a) : bits i ≤ a := PyProof.Rows.intBits_le h
theorem mulx_bits {i j : Int} {a b : Nat} (h1 : bits i ≤ a) (h2 : bits j ≤ b) (h : a + b ≤ 134217728) : CMulX i j := by
  have h1 : Builtin.Int.intBits i ≤ a := h1
  have h2 : Builtin.Int.intBits j ≤ b := h2
  unfold CMulX
  omega
theorem bits_mono {i j : Int} (h0 : 0 ≤ i) (h : i ≤ j) : bits i ≤ bits j := by
  unfold bits Builtin.Int.intBits
  by_cases e : i = 0
  · simp [e]
  · have hj : ¬ j = 0 := by omega
    have e1 : (i == 0) = false := by simpa using e
    have e2 : (j == 0) = false := by simpa using hj
    rw [e1, e2]
    simp only [Bool.false_eq_true, if_false]
    have h3 : i.natAbs ≤ j.natAbs := by omega
    have h4 : i.natAbs.log2 ≤ j.natAbs.log2 := by
      have hne : i.natAbs ≠ 0 := by omega
      have h5 := Nat.log2_self_le hne
      exact (Nat.le_log2 (by omega)).mpr (Nat.le_trans h5 h3)
    omega
theorem bits_abs (i : Int) : bits (if i < 0 then -i else i) = bits i := by
  split
  · unfold bits Builtin.Int.intBits
    rw [Int.natAbs_neg]
    have e : (-i == 0) = (i == 0) := by
      by_cases h : i = 0
      · subst h; rfl
      · have h1 : ¬ -i = 0 := by omega
        rw [beq_eq_false_iff_ne.mpr h1, beq_eq_false_iff_ne.mpr h]
    rw [e]
  · rfl
/-- the hand of draws at h -/
def Hand (H : Hp) (h : Addr) : Prop := ∃ (c : Addr) (cells : List Int) (i : Nat) (r t : Int), H h = some (.lst [.ref c, .int (i : Int), .int r, .int t]) ∧ H c = some (.lst (cells.map V.int)) ∧ c ≠ h ∧
  (∀ z ∈ cells, 0 ≤ z ∧ bits z ≤ 1048576) ∧ i ≤ cells.length ∧ cells.length ≤ 63 ∧ 0 ≤ r ∧ bits r ≤ 1048576 ∧ 0 ≤ t ∧ t < 2147483629
/-- all but the hand stands as it stood -/
def Dh (h : Addr) (H H' : Hp) : Prop := ∀ a o, a ≠ h → H a = some o → H' a = some o
theorem Dh.refl (h : Addr) (H : Hp) : Dh h H H := fun _ _ _ q => q
theorem Dh.trans {h : Addr} {H H1 H2 : Hp} (a : Dh h H H1) (b : Dh h H1 H2) : Dh h H H2 := fun x o n q => b x o n (a x o n q)
theorem Dh.of {h : Addr} {H H1 : Hp} (e : Ex H H1) : Dh h H H1 := fun x o _ q => e x o q
theorem Dh.upd {h : Addr} {H : Hp} {o : HO} : Dh h H (upd H h o) := fun a u n q => by rw [upd_ne n]; exact q
theorem Hand.ex {H H' : Hp} {h : Addr} (e : Ex H H') (x : Hand H h) : Hand H' h := by
  obtain ⟨c, cells, i, r, t, h1, h2, rest⟩ := x
  exact ⟨c, cells, i, r, t, e _ _ h1, e _ _ h2, rest⟩
theorem Hand.there {H : Hp} {h : Addr} (x : Hand H h) : ∃ o, H h = some o := by
  obtain ⟨c, cells, i, r, t, h1, _⟩ := x
  exact ⟨_, h1⟩
theorem Dh.free {h : Addr} {H H' : Hp} {p : Addr} (d : Dh h H H') (x : Hand H' h) (n : H' p = none) : H p = none := by
  cases q : H p with
  | none => rfl
  | some o =>
    by_cases e : p = h
    · obtain ⟨u, hu⟩ := x.there
      rw [e, hu] at n
      cases n
    · rw [d p o e q] at n
      cases n
/-- set a place of the hand -/
theorem rd_setH {H : Hp} {l : Addr} {xs : List V} {k : Nat} {v : V} {Q : Hp → Prop} (h : H l = some (.lst xs)) (hk : k < xs.length) (q : Q (upd H l (.lst (xs.set k v)))) : rSetL (.ref l) (.int (k : Int)) v H Q :=
  ⟨l, xs, (k : Int), k, rfl, rfl, h, ixN_nat hk, q⟩
theorem rd_ix {K : PySem.W.Frag} {H : Hp} {l : Addr} {xs : List V} {k : Nat} {v : V} {Q : VK} (h : SqL K H l xs) (hk : xs[k]? = some v) (q : Q v H) : rIxL K (.ref l) (.int (k : Int)) H Q := ⟨l, xs, k, v, rfl, rfl, h, atI_nat hk, q⟩
theorem rd_ixl {K : PySem.W.Frag} {H : Hp} {l : Addr} {xs : List V} {k : Nat} {v : V} {Q : VK} (h : H l = some (.lst xs)) (hk : xs[k]? = some v) (q : Q v H) : rIxL K (.ref l) (.int (OfNat.ofNat k)) H Q := ⟨l, xs, _, v, rfl, rfl, sq_of h, atI_nat (j := k) hk, q⟩
theorem rd_sub {σ : L2.St} {H : Hp} {D : Ends} {te to ti : TE} {ts : TSet} (h : te σ H fun v H1 => to σ H1 fun o H2 => ti σ H2 fun i H3 => ts o i v H3 fun H4 => D.nx σ H4) : tAsg te (gSub to ti ts) D σ H := h
/-- a word between two statements -/
theorem rd_mid {t u : TS} {D : Ends} {σ : L2.St} {H : Hp} (Mid : L2.St → Hp → Prop) (h : ∀ N : L2.St → Hp → Prop, (∀ σ' H', Mid σ' H' → N σ' H') → t { D with nx := N } σ H) (k : ∀ σ' H', Mid σ' H' → u D σ' H') : tSeq t u D σ H := h _ k
theorem Hand.mk {H : Hp} {h c : Addr} {cells : List Int} {i : Nat} {r t : Int} (h1 : H h = some (.lst [.ref c, .int (i : Int), .int r, .int t])) (h2 : H c = some (.lst (cells.map V.int))) (h3 : c ≠ h) (h4 : ∀ z ∈ cells, 0 ≤ z ∧ bits z ≤ 1048576) (h5 : i ≤ cells.length) (h6 : cells.length ≤ 63)
  (h7 : 0 ≤ r) (h8 : bits r ≤ 1048576) (h9 : 0 ≤ t) (h10 : t < 2147483629) : Hand H h := ⟨c, cells, i, r, t, h1, h2, h3, h4, h5, h6, h7, h8, h9, h10⟩
theorem rd_iEnum {K : PySem.W.Frag} {σ : L2.St} {H : Hp} {ta : TA} {R : It → Hp → Prop} (h : ta σ H fun vs H1 => ∃ a xs, vs = [.ref a] ∧ SqL K H1 a xs ∧ R (Ite K a) H1) : iEnum K ta σ H R := h
theorem digits_half {n : Nat} (h : 2 ≤ n) : binL n = binL (n / 2) ++ [(Nat.digitChar (n % 2)).toNat] := by
  unfold binL
  rw [Nat.toDigits_eq_if (by decide), if_neg (by omega), List.map_append]
  rfl
theorem ones_half (n : Nat) (h : 0 < n) : onesN n = onesN (n / 2) + n % 2 := by
  by_cases h2 : 2 ≤ n
  · unfold onesN
    rw [digits_half h2, List.count_append]
    rcases Nat.mod_two_eq_zero_or_one n with e | e <;> rw [e] <;> rfl
  · have e : n = 1 := by omega
    subst e
    decide
end Lw

set_option Elab.async false
set_option linter.all false
set_option maxRecDepth 100000
set_option maxHeartbeats 3200000
namespace Lw
open PySem PySem.Spec PyProof.Rows L2 He
/-! ### set(a list of ints) -/
section
variable {P : Program} {w : World} {A : Around} {E : Value → Shared → Prop} {s : Shared}
abbrev emS (w : World) : Obj := { cls := .type "set", dict := none, data := .set #[] 0 (.fresh 0 0 (!w.params.followText "set-order")) }
theorem set_of_ints {l : Addr} {items : Array Value} (ns : List Int) {Q : Value → Shared → Prop} (nh : A.handled = none) (lst : s.heap.IsList l items) (hInts : IntsAre items.toList ns) (few : ns.length + 1 < scanBound)
    (out : ∀ (h2 : Heap) (k c : Nat), SetR w h2 s.heap.objs.size (fun j => decide (j ∈ ns)) c → c ≤ ns.length → (∀ b o, s.heap.get? b = some o → h2.get? b = some o) → Q (.ref s.heap.objs.size) { s with heap := h2, toks := k }) :
    wpAny (model P w) A (call (.type "set") [.ref l]) Q E s := by
  have size_eq : items.size = ns.length := by
    have := IntsAre.length hInts
    rwa [Array.length_toList] at this
  obtain ⟨_, _, mroEq⟩ := F.called_set.mro
  have madeEq := F.called_set.made
  have subEq := F.called_set.sub
  apply wpAny_call
  apply codeAny_of_tree
  change wpAny _ _ (callAny (.type "set") _) _ _ _
  refine wpAny_pure ⟨Code.quiet_builtin _ (by decide +kernel), ?_⟩
  apply codeAny_builtin F.entry_type_call
  rw [Around.under_plain (weight_type_call_type "set" [.ref l] []) rfl]
  have notTy := F.called_set.notType
  have mayMake := F.called_set.canCreate
  have tyCall := F.typeCall_set_1 (.ref l)
  repeat (any_goals (first | assumption | wp_step))
  refine codeAny_mono (code_set_led1 (.ref l) (E := E) (Q₁ := fun v t => v = .ref s.heap.objs.size ∧ t = { s with heap := s.heap.push (emS w) }) ⟨rfl, rfl⟩) ?_
  rintro (er | fl) t1 made
  · exact made
  rcases fl with _ | _ | _ | obj
  · exact made.elim
  · exact made.elim
  · exact made.elim
  obtain ⟨rfl, rfl⟩ := made
  have newAt : (s.heap.push (emS w)).get? s.heap.objs.size = some (emS w) := Heap.get?_push_size _ rfl
  have newTy : Shared.TypeIs { s with heap := s.heap.push (emS w) } (.ref s.heap.objs.size) "set" := ⟨_, newAt, rfl⟩
  have initLk := F.called_set.init.lookup
  have initBd := F.called_set.init.bind (.ref s.heap.objs.size)
  repeat (any_goals (first | assumption | wp_step))
  refine codeAny_mono (codeAny_call_builtin (R := wants (fun v t => v = .none ∧ ∃ h2 k c, t = { s with heap := h2, toks := k } ∧ SetR w h2 s.heap.objs.size (fun j => decide (j ∈ ns)) c ∧ c ≤ ns.length ∧ ∀ b o, s.heap.get? b = some o → h2.get? b = some o) E)
    F.called_set.init.plain F.entry_set_init (check_set_init_1 newTy ?filled)) ?after
  case after =>
    rintro (er | fl) t2 full
    · exact full
    rcases fl with _ | _ | _ | u
    · exact full.elim
    · exact full.elim
    · exact full.elim
    obtain ⟨rfl, h2, k, c, rfl, R, le, kept⟩ := full
    repeat (any_goals (first | assumption | wp_step))
    exact out _ _ _ R le kept
  case filled =>
    obtain ⟨⟨cl, dc, da, sl⟩, at_, e1, m, e2⟩ := lst
    simp only at e1 e2
    subst e1 e2
    have at2 : (s.heap.push (emS w)).get? l = some { cls := .type "list", dict := dc, data := .seq items m, slots := sl } := Heap.get?_push_of_some _ at_
    have noSet := F.sub_list_set
    have noFrozen := F.sub_list_frozenset
    have noDict : (Value.type "list" == Value.type "dict") = false := by decide
    have lst2 : (s.heap.push (emS w)).IsList l items := ⟨_, at2, rfl, m, rfl⟩
    unfold Builtin.«set.__init__» noKeywords Builtin.Frozenset.updateFrom
    generalize itEq : pyIter = IT
    wp_walk
    subst itEq
    refine wpAny_pyIter_list lst2 (wpAny_bind (wpAny_runValue ?_))
    have below : l < s.heap.objs.size := Heap.lt_size at_
    have size2 : (s.heap.push (emS w)).objs.size = s.heap.objs.size + 1 := Heap.size_push ..
    have apart : l ≠ (s.heap.push (emS w)).objs.size := by
      rw [size2]
      exact Nat.ne_of_lt (Nat.lt_succ_of_lt below)
    have outside : s.heap.objs.size ∉ [(s.heap.push (emS w)).objs.size, l] := by
      rw [size2]
      simp only [List.mem_cons, List.not_mem_nil, or_false, not_or]
      exact ⟨Nat.ne_of_lt (Nat.lt_succ_self _), Nat.ne_of_gt below⟩
    have item : ∀ (i : Nat) (v : Value), items[i]? = some v → ∃ k t, ns[i]? = some k ∧ v = .int k t := fun i v hv => by
      have lt : i < ns.length := by
        rw [← size_eq]
        exact (Array.getElem?_eq_some_iff.mp hv).1
      obtain ⟨t, e⟩ := IntsAre.int_at hInts i v (by rw [Array.getElem?_toList]; exact hv)
      refine ⟨ns[i], t, List.getElem?_eq_getElem lt, ?_⟩
      rw [List.getD_eq_getElem?_getD, List.getElem?_eq_getElem lt] at e
      exact e
    refine set_update_ints ((Walks.list (by simp [nh]) _ l apart items).toS) s.heap.objs.size outside ns size_eq few item (items.size - 0) 0 _ (by omega) (Nat.zero_le _) ⟨⟨_, Heap.get?_push_size _ rfl, rfl, rfl⟩, lst2.push _⟩ ?start ?stop
    case start =>
      exact ⟨0, Nat.le_refl 0, setR_new_at (Heap.get?_push_of_some _ newAt)⟩
    case stop =>
      rintro ⟨h2, g2, d2, k2, os2⟩ c mv le R
      obtain rfl : g2 = s.gens := mv.gens
      obtain rfl : d2 = s.drawn := mv.drawn
      obtain rfl : os2 = s.os := mv.os
      change wpAny _ _ _ _ _ _
      apply wpAny_pure
      change wpAny _ _ (ret Value.none) _ _ _
      refine wpAny_pure ⟨rfl, h2, k2, c, rfl, R, by omega, fun b o e => ?_⟩
      have lt : b < s.heap.objs.size := Heap.lt_size e
      refine mv.heap b o ?_ (Heap.get?_push_of_some _ (Heap.get?_push_of_some _ e))
      simp only [List.mem_cons, List.not_mem_nil, or_false, not_or]
      refine ⟨Nat.ne_of_lt lt, ?_⟩
      rw [size2]
      exact Nat.ne_of_lt (Nat.lt_succ_of_lt lt)
end
/-- set(xs), xs a list or a tuple of ints -/
def rSetI (K : PySem.W.Frag) (w : World) : List V → Hp → VK → Prop := fun xs H Q => ∃ (l : Addr) (ns : List Int), xs = [.ref l] ∧ (SqL K H l (ns.map V.int) ∨ SqT K H l (ns.map V.int)) ∧ ns.length < 60 ∧
  ∀ a c, H a = none → c ≤ ns.length → Q (.ref a) (upd H a (SetO w a (fun j => decide (j ∈ ns)) c))
theorem cr_setInts {X : Cx} (hc : X.calm = true) : CallR X (.type "set") (rSetI X.K X.w) := by
  intro pins s σ H xs us Q I r h
  obtain ⟨l, ns, rfl, sq, few, q⟩ := h
  rw [Vals.ref1 r]
  have free : H s.heap.objs.size = none := I.hok.fresh (Nat.le_refl _)
  have room : ns.length + 1 < scanBound := by
    have : (100 : Nat) < scanBound := by decide
    omega
  rcases sq with sq | sq
  · obtain ⟨its, rv, pl, _⟩ := I.list sq
    exact set_of_ints (P := X.prog) (w := X.w) ns (I.ok.hd hc) pl.isList (ints_of_vals rv) room fun h2 k c R le kept =>
      ⟨.ref s.heap.objs.size, _, I.laid (t' := k) kept (Nat.le_refl _) (setO_new R), rfl, q _ c free le⟩
  · obtain ⟨its, rv, pl, _⟩ := I.tuple sq
    exact call_set_tupI (P := X.prog) (w := X.w) ns (I.ok.hd hc) pl (ints_of_vals rv) room fun h2 k c R le kept =>
      ⟨.ref s.heap.objs.size, _, I.laid (t' := k) kept (Nat.le_refl _) (setO_new R), rfl, q _ c free le⟩
end Lw

set_option Elab.async false
set_option linter.all false
set_option maxRecDepth 100000
set_option maxHeartbeats 2000000
namespace Lw
open PySem PySem.Spec PyProof.Rows L2 He
/-! ### enumerate(a tuple) -/
def ItEt (K : PySem.W.Frag) (a : Addr) : It :=
  ⟨fun i H => ∃ (xs : List V) (x : V), SqT K H a xs ∧ xs[i]? = some x, fun i H v H' => ∃ T x, v = .ref T ∧ H T = none ∧ H' = upd H T (.tup [.int (i : Nat), x]) ∧ ∀ xs, SqT K H a xs → xs[i]? = some x, fun i H => ∃ xs : List V, SqT K H a xs ∧ xs.length ≤ i⟩
theorem walk_enumT {K : PySem.W.Frag} {a : Addr} {xs : List V} : Walk (ItEt K a) xs.length (fun H => SqT K H a xs) (YPair (fun i => some (.int (i : Nat))) (fun i => xs[i]?)) :=
  ⟨fun i _ lt st => ⟨xs, xs[i], st, List.getElem?_eq_getElem lt⟩, fun _ st => ⟨xs, st, Nat.le_refl _⟩, fun i H v H' _ st y => by
    obtain ⟨T, x, e1, e2, e3, e4⟩ := y
    exact ⟨T, _, x, e1, e2, e3, rfl, e4 xs st⟩⟩
theorem turn_enumT {P : Program} {w : World} {K : PySem.W.Frag} {elts : List Expr} {kk : Nat} {tpos : Pos} (a e it : Addr) :
    Turn P w K (.Tuple elts kk tpos) (ItEt K a) [e, it] e (fun i h => (∃ old, IsEnum h e it ((i : Nat) : Int) old) ∧ h.IsTupleIter it a i ∧ e ≠ it ∧ a ≠ it ∧ a ≠ e) where
  mem := List.mem_cons_self
  obj := by
    rintro i h ⟨⟨old, isE⟩, ⟨o, at_, _, da⟩, _⟩ b hb
    rcases List.mem_cons.mp hb with rfl | hb
    · exact ⟨_, isE, fun _ z => nomatch z⟩
    · rw [List.mem_singleton.mp hb]
      exact ⟨o, at_, fun _ z => by rw [da] at z; cases z⟩
  keep := by
    rintro i h h' ⟨⟨old, isE⟩, isI, rest⟩ kp
    exact ⟨⟨old, kp e (by simp) _ isE⟩, isI.at fun o q => kp it (by simp) o q, rest⟩
  item := by
    rintro X rfl rfl rfl calm i pins s σ H E I fpOk ⟨⟨old, isE⟩, isI, ne, na, nb⟩ ⟨xs, x, sq, hx⟩
    obtain ⟨its, rv, tp, _⟩ := I.tuple sq
    obtain ⟨u, hu, ru⟩ := rv.get hx
    have hu2 : its.toArray[i]? = some u := by simpa using hu
    have eLt : e < s.heap.objs.size := Heap.lt_size isE
    have iLt : it < s.heap.objs.size := by
      obtain ⟨_, q, _⟩ := isI
      exact Heap.lt_size q
    have D := Draws.tuple (prog := X.prog) (w := X.w) (A := X.A.in1) (by simp [I.ok.hd calm]) it a na its.toArray
    have lt : i < its.toArray.size := (Array.getElem?_eq_some_iff.mp hu2).1
    refine wpAny_pyNext_enum_itemD D isE ⟨isI, tp⟩ lt ne (by simp [ne, Ne.symm nb]) fun x2 h2 tk hx2 isE2 st2 tup2 size2 kept2 => ?_
    obtain rfl : u = x2 := Option.some.inj (hu2.symm.trans hx2)
    refine ⟨_, rfl, wpAny_letOwnedTupleGo_enum (s := { s with heap := h2, toks := tk + 1 }) isE2 fun h3 isE3 but => ?_⟩
    have tup3 : h3.get? s.heap.objs.size = some { cls := .type "tuple", data := .seq #[.int i tk, u] } := (but.2 _ (Nat.ne_of_gt eLt)).trans tup2
    have new : ObjOk X.prog X.w (upd H s.heap.objs.size (.tup [.int (i : Nat), x])) h3 s.heap.objs.size (.tup [.int (i : Nat), x]) :=
      ⟨by show 2 ≤ sizeLine; decide, [.int i tk, u], Paired.cons ⟨_, rfl⟩ (Paired.cons ru Paired.nil), ⟨_, tup3, rfl, _, rfl⟩⟩
    have I3 : Inv X pins σ (upd H s.heap.objs.size (.tup [.int (i : Nat), x])) { s with heap := h3, toks := tk + 1 } :=
      I.turnedNew (ch := [e, it]) (fun b ob hb q => (but.2 b (fun z => hb (by simp [z]))).trans (kept2 b ob (fun z => hb (by simp [z])) (fun z => hb (by simp [z])) q)) fpOk (Nat.le_refl _) new
    refine ⟨.ref s.heap.objs.size, _, I3, rfl, ⟨_, x, rfl, I.hok.fresh (Nat.le_refl _), rfl, fun ys hy => by rw [I.tuple_inj hy sq]; exact hx⟩, ⟨⟨u, ?_⟩, st2.1.at fun o q => (but.2 it (Ne.symm ne)).trans q, ne, na, nb⟩, fun b hb => ?_⟩
    · rw [show ((i + 1 : Nat) : Int) = (i : Int) + 1 by omega]
      exact isE3
    · have bLt : b < s.heap.objs.size := by
        rcases List.mem_cons.mp hb with rfl | hb
        · exact eLt
        · rw [List.mem_singleton.mp hb]
          exact iLt
      rw [upd_ne (Nat.ne_of_lt bLt)]
      exact (fpOk b hb).1
  done := by
    rintro X rfl rfl rfl calm i pins s σ H E I fpOk ⟨⟨old, isE⟩, isI, ne, na, nb⟩ ⟨xs, sq, le⟩
    obtain ⟨its, rv, tp, _⟩ := I.tuple sq
    have past : its.toArray[i]? = none := by
      have := rv.length
      simp
      omega
    have cold : X.A.in1.handled = none := by simp [I.ok.hd calm]
    have D : Draws X.prog X.w X.A.in1 it [it, a] i (fun _ _ => True) (fun j h => j = i ∧ h.IsTupleIter it a i ∧ h.IsTuple a its.toArray) :=
      ⟨fun _ _ st => let ⟨o, ho, _⟩ := st.2.1; ⟨o, ho⟩, fun _ _ _ st kp => ⟨st.1, st.2.1.at fun o q => kp it (by simp) o q, st.2.2.at fun o q => kp a (by simp) o q⟩,
        fun j _ _ _ lt st _ => absurd st.1 (Nat.ne_of_lt lt), fun t Q2 E2 st end_ => wpAny_nextOf_tuple_end cold st.2.1 st.2.2 past end_⟩
    obtain ⟨f0, f1, f2, f3, f4, f5⟩ := fpOk it (by simp)
    exact wpAny_pyNext_enum_endD D isE ⟨rfl, isI, tp⟩ fun h2 but => ⟨rfl, I.turned (t' := s.toks) (fun b o hb q => but b o hb q) f0 f1 f3 f4 f5⟩
  self := fun A i s Q E st q => by
    obtain ⟨⟨_, isE⟩, _⟩ := st
    exact wpAny_pyIter_enum isE q
section
variable {P : Program} {w : World} {A : Around} {E : Value → Shared → Prop} {s : Shared}
theorem meets_enumT (t : Addr) (items : Array Value) : Meets (Builtin.«enumerate.__new__» ⟨[.type "enumerate", .ref t], []⟩) (fun _ R s => s.heap.IsTuple t items ∧
    R (.ok (.ret (.ref (s.heap.push { cls := .type "tuple_iterator", data := .fields #[.ref t, .int 0 0] }).objs.size)))
      { s with heap := (s.heap.push { cls := .type "tuple_iterator", data := .fields #[.ref t, .int 0 0] }).push { cls := .type "enumerate", data := .fields #[.none, .bool false, .ref s.heap.objs.size, rawInt 0, .none, .none] } }) :=
  .of_wp fun prog w A R s h => by
    obtain ⟨hp, g, d, tk, os⟩ := s
    obtain ⟨tup, fin⟩ := h
    have sub := sub_enumerate
    have iter : ∀ {A2 : Around} {E2 : Value → Shared → Prop} {Q2 : Value → Shared → Prop}, Q2 (.ref hp.objs.size) ⟨hp.push { cls := .type "tuple_iterator", data := .fields #[.ref t, .int 0 0] }, g, d, tk, os⟩ → wpAny (model prog w) A2 (pyIter (.ref t)) Q2 E2 ⟨hp, g, d, tk, os⟩ :=
      fun q => (begins_tuple t items).iter prog w _ _ ⟨hp, g, d, tk, os⟩ _ tup q
    wp_walk using iter
    refine wpAny_stack_any fun st => wpAny_pure ?_
    split
    · rename_i c _ _ _ _ _
      cases (c == Value.type "enumerate")
      · wp_walk using iter
        exact ⟨_, rfl, fin⟩
      · wp_walk using iter
        exact ⟨_, rfl, fin⟩
    · wp_walk using iter
      exact ⟨_, rfl, fin⟩
theorem enumT_made {t : Addr} {items : Array Value} {Q : Value → Shared → Prop} (tup : s.heap.IsTuple t items)
    (out : ∀ h2, IsEnum h2 (s.heap.objs.size + 1) s.heap.objs.size 0 .none → h2.IsTupleIter s.heap.objs.size t 0 → h2.objs.size = s.heap.objs.size + 2 → (∀ b o, s.heap.get? b = some o → h2.get? b = some o) →
      Q (.ref (s.heap.objs.size + 1)) { s with heap := h2 }) : wpAny (model P w) A (call (.type "enumerate") [.ref t]) Q E s := by
  refine callType_new F.called_enumerate (by decide) (F.typeCall_enumerate_1 _) (F.newCall_enumerate_1 _) (fun obj => F.args_object_init_2 obj _) F.entry_enumerate_new (meets_enumT t items) ⟨tup, ?_⟩
  have size1 : (s.heap.push { cls := .type "tuple_iterator", data := .fields #[.ref t, .int 0 0] }).objs.size = s.heap.objs.size + 1 := Heap.size_push ..
  have isE := Heap.get?_push_size (s.heap.push { cls := .type "tuple_iterator", data := .fields #[.ref t, .int 0 0] }) (o := { cls := .type "enumerate", data := .fields #[.none, .bool false, .ref s.heap.objs.size, rawInt 0, .none, .none] }) rfl
  change _ ∧ _
  rw [size1] at isE ⊢
  exact ⟨⟨_, isE, rfl⟩, out _ isE ⟨_, Heap.get?_push_of_some _ (Heap.get?_push_size _ rfl), rfl, rfl⟩ (by rw [Heap.size_push, size1]) fun b o x => Heap.get?_push_of_some _ (Heap.get?_push_of_some _ x)⟩
end
/-- enumerate(xs), xs a list or a tuple -/
def iEnumA (K : PySem.W.Frag) (ta : TA) : TI := fun σ H R => ta σ H fun vs H1 => ∃ a xs, vs = [.ref a] ∧ ((SqL K H1 a xs ∧ R (Ite K a) H1) ∨ (SqT K H1 a xs ∧ R (ItEt K a) H1))
theorem pi_enumA {X : Cx} {e0 : Expr} {ta : TA} {p pos tpos : Pos} {elts : List Expr} {kk : Nat} (gl : Gl X "enumerate") (mg : X.mg "enumerate" = none) (pa : PA X [e0] ta) (st : starEach [e0] X.env = [(false, eval e0 X.env)] := by rfl) :
    PI X (.Tuple elts kk tpos) (.Call (.Name "enumerate" p) [e0] [] pos) (iEnumA X.K ta) := by
  refine ⟨fun pins s σ H R I wish => Call_ (ld_blt I gl mg boot_enumerate (PyProof.Rows.callWith_type1 (thn (pa.run pos pins s σ H _ I wish) ?_) st rfl))⟩
  rintro us s1 ⟨vs, H1, I1, rel, a, xs, rfl, ⟨sq, q⟩ | ⟨sq, q⟩⟩
  · rw [Vals.ref1 rel]
    obtain ⟨its, rv, pl, _⟩ := I1.list sq
    refine call_enumerate_list pl.isList fun h2 isE isI size2 kp => wpAny_pyIter_enum isE ?_
    refine ⟨s1.heap.objs.size + 1, [s1.heap.objs.size + 1, s1.heap.objs.size], _, _, H1, rfl, I1.kept (t' := s1.toks) kp, turn_enum a _ _, ⟨⟨.none, isE⟩, isI, Nat.succ_ne_self _⟩, fun b hb => ?_, q⟩
    have le : s1.heap.objs.size ≤ b := by
      rcases List.mem_cons.mp hb with rfl | hb
      · exact Nat.le_succ _
      · rw [List.mem_singleton.mp hb]
        exact Nat.le_refl _
    exact I1.fpOk le (I1.hok.fresh le)
  · rw [Vals.ref1 rel]
    obtain ⟨its, rv, tp, _⟩ := I1.tuple sq
    have below : a < s1.heap.objs.size := by
      obtain ⟨_, at_, _⟩ := tp
      exact Heap.lt_size at_
    refine enumT_made tp fun h2 isE isI size2 kp => wpAny_pyIter_enum isE ?_
    refine ⟨s1.heap.objs.size + 1, [s1.heap.objs.size + 1, s1.heap.objs.size], _, _, H1, rfl, I1.kept (t' := s1.toks) kp, turn_enumT a _ _, ⟨⟨.none, isE⟩, isI, Nat.succ_ne_self _, Nat.ne_of_lt below, Nat.ne_of_lt (Nat.lt_succ_of_lt below)⟩, fun b hb => ?_, q⟩
    have le : s1.heap.objs.size ≤ b := by
      rcases List.mem_cons.mp hb with rfl | hb
      · exact Nat.le_succ _
      · rw [List.mem_singleton.mp hb]
        exact Nat.le_refl _
    exact I1.fpOk le (I1.hok.fresh le)
end Lw

set_option Elab.async false
set_option linter.all false
set_option maxRecDepth 100000
set_option maxHeartbeats 2000000
namespace Lw
open PySem PySem.Spec PyProof.Rows L2 He
/-! ### try with several clauses, named and unnamed -/
abbrev Cl : Type := Value × Option Nat × (Addr → Value → Option Addr → TS)
def cEnds (D : Ends) : Option Nat → Ends
  | none => D
  | some i => ⟨fun σ H => D.nx (σ.set i none) H, D.rt, fun σ H => D.bk (σ.set i none) H, fun σ H => D.ct (σ.set i none) H⟩
def cSt (σ : L2.St) (a : Addr) : Option Nat → L2.St
  | none => σ
  | some i => σ.set i (some (.ref a))
def wMix (K : PySem.W.Frag) (Wout : WX) (D : Ends) : List Cl → WX
  | [] => Wout
  | (c, n, ts) :: r => fun cls d σ H => ∃ hit, PySem.W.exmOne K cls c = some hit ∧ (hit = true → ∀ a, H a = none → ts a cls d (cEnds D n) (cSt σ a n) H) ∧ (hit = false → wMix K Wout D r cls d σ H)
/-- a clause's suite is walked -/
def SuOk (X : Cx) (ss : List Stmt) (ts : Addr → Value → Option Addr → TS) : Prop :=
  ∀ (a : Addr) (oe : Obj) (cls : Value) (d : Option Addr) (pn : List (Addr × Obj)), L2N.Zn cls d oe → (∃ vs, oe.data = .fields vs) → PSs (X.suite a ((a, oe) :: pn)) ss (ts a cls d)
inductive Mix (X : Cx) : List ExceptHandler → List Cl → Prop
  | nil : Mix X [] []
  | no {x : Str} {c : Value} {ts : Addr → Value → Option Addr → TS} {s0 : Stmt} {sr : List Stmt} {p1 p2 : Pos} {hs : List ExceptHandler} {l : List Cl} (nm : Names X x c) (su : SuOk X (s0 :: sr) ts) (r : Mix X hs l) :
      Mix X (.ExceptHandler (some (.Name x p1)) none (s0 :: sr) p2 :: hs) ((c, none, ts) :: l)
  | as {x n : Str} {i : Nat} {c : Value} {ts : Addr → Value → Option Addr → TS} {s0 : Stmt} {sr : List Stmt} {p1 p2 : Pos} {hs : List ExceptHandler} {l : List Cl} (at_ : X.N[i]? = some n) (own : X.env.kindOf n = some .local) (nm : Names X x c)
      (su : SuOk X (s0 :: sr) ts) (r : Mix X hs l) : Mix X (.ExceptHandler (some (.Name x p1)) (some n) (s0 :: sr) p2 :: hs) ((c, some i, ts) :: l)
section
variable {X : Cx} {pins : List (Addr × Obj)} {σ : L2.St} {H : Hp} {a : Addr} {cls : Value} {d : Option Addr} {t : Shared}
/-- the exception at a has been caught, the state is t -/
structure Caught (X : Cx) (pins : List (Addr × Obj)) (σ : L2.St) (H : Hp) (a : Addr) (cls : Value) (d : Option Addr) (t : Shared) : Prop where
  ok : X.Ok
  na : H a = none
  see : ∃ oe, t.heap.get? a = some oe ∧ oe.cls = cls ∧ Inv (X.suite a ((a, oe) :: (X.pn ++ pins))) [] σ H t
  enter : ∀ {Q E : Shared → Prop}, (∀ oe t', L2N.Zn cls d oe → (∃ vs, oe.data = .fields vs) → Inv (X.suite a ((a, oe) :: (X.pn ++ pins))) [] σ H t' → Q t') →
    ∀ {F : Value → Shared → Prop}, wpAny (model X.prog X.w) (X.A.mark (some (.ref a))) (setFlight (.ref a) none) (fun _ t' => Q t') F t
  leave : ∀ {W : WX} {D : Ends}, L2N.Takes X W → W cls d σ H → wpAny (model X.prog X.w) X.A (handleBy (.ref a) X.env []) (SP X pins D) X.xe t
/-- how a suite ends, seen from behind it -/
theorem suite_end {D : Ends} {oe : Obj} {f : Flow} {t' : Shared} (ok : X.Ok) (h : SP (X.suite a ((a, oe) :: (X.pn ++ pins))) [] D f t') : SP X pins D f t' := by
  cases f with
  | next => exact h.imp fun _ h => h.imp fun _ h => ⟨h.1.unsuite ok, h.2⟩
  | brk => exact h.imp fun _ h => h.imp fun _ h => ⟨h.1.unsuite ok, h.2⟩
  | cont => exact h.imp fun _ h => h.imp fun _ h => ⟨h.1.unsuite ok, h.2⟩
  | ret u => exact h.imp fun _ h => h.imp fun _ h => h.imp fun _ h => ⟨h.1.unsuite ok, h.2⟩
theorem suite_gone {D : Ends} {oe : Obj} {f : Flow} {t' : Shared} {i : Nat} {n : Str} {p : Pos} {F : Value → Shared → Prop} (ok : X.Ok) (nd : X.N.Nodup) (at_ : X.N[i]? = some n) (own : X.env.kindOf n = some .local)
    (h : SP (X.suite a ((a, oe) :: (X.pn ++ pins))) [] (cEnds D (some i)) f t') :
    wpAny (model X.prog X.w) X.A (do bindName X.env n .none; unbindBehindTheSuite X.env n p) (fun _ t3 => SP X pins D f t3) F t' := by
  cases f with
  | next =>
    obtain ⟨σ2, H2, J, q⟩ := h
    exact gone_ok (J.unsuite ok) nd at_ own fun _ J3 => ⟨_, _, J3, q⟩
  | brk =>
    obtain ⟨σ2, H2, J, q⟩ := h
    exact gone_ok (J.unsuite ok) nd at_ own fun _ J3 => ⟨_, _, J3, q⟩
  | cont =>
    obtain ⟨σ2, H2, J, q⟩ := h
    exact gone_ok (J.unsuite ok) nd at_ own fun _ J3 => ⟨_, _, J3, q⟩
  | ret u =>
    obtain ⟨v, σ2, H2, J, rv, q⟩ := h
    exact gone_ok (J.unsuite ok) nd at_ own fun _ J3 => ⟨_, _, _, J3, rv, q⟩
/-- a clause's test -/
theorem clause_test (C : Caught X pins σ H a cls d t) {x : Str} {c : Value} {p : Pos} {hit : Bool} (nm : Names X x c) (m : PySem.W.exmOne X.K cls c = some hit) {Q : Bool → Shared → Prop} {F G : Value → Shared → Prop} (q : Q hit t) :
    wpAny (model X.prog X.w) (X.A.mark (some (.ref a))) (eval (.Name x p) X.env) (fun c' t1 => wpAny (model X.prog X.w) (X.A.mark (some (.ref a))) (excMatches (.ref a) c') Q F t1) G t := by
  obtain ⟨oe, at_, rfl, S⟩ := C.see
  have look : PySem.W.Looks (model X.prog X.w) t.heap (typeOf (.ref a)) oe.cls := fun _ _ _ _ kp w => wpAny_typeOf_ref (kp _ _ at_) w
  have hit_ := PySem.W.exm_one (M := model X.prog X.w) S.kIn look m
  obtain ⟨gl, nodbg, bound | ⟨unbound, blt, notname⟩⟩ := nm
  · exact ld_glob (X := X.suite a ((a, oe) :: (X.pn ++ pins))) S gl bound (hit_.here q) nodbg
  · exact ld_blt (X := X.suite a ((a, oe) :: (X.pn ++ pins))) S gl unbound blt (hit_.here q) notname nodbg
theorem clauses (nd : X.N.Nodup) {Wout : WX} {D : Ends} (tk : L2N.Takes X Wout) (C : Caught X pins σ H a cls d t) : ∀ {hs : List ExceptHandler} {l : List Cl}, Mix X hs l → wMix X.K Wout D l cls d σ H →
    wpAny (model X.prog X.w) X.A (handleBy (.ref a) X.env hs) (SP X pins D) X.xe t := by
  intro hs l M
  induction M with
  | nil => exact fun w => C.leave tk w
  | no nm su r ih =>
    rintro ⟨hit, m, yes, no⟩
    refine wpAny_handleBy_cons (codeAny_handlers_test (clause_test C nm m ?_)) fun z => nomatch z
    cases hit with
    | false => exact ih (no rfl)
    | true =>
      refine codeAny_handlers_suite (C.enter (E := fun _ => True) fun oe t' hz hf S => ?_)
      exact wpAny_mono ((su a oe cls d (X.pn ++ pins) hz hf).run [] _ _ _ _ S (yes rfl a C.na)) (fun f t2 e => suite_end C.ok e) fun _ _ no => False.elim no
  | @as x n i c ts s0 sr p1 p2 hs l at_ own nm su r ih =>
    rintro ⟨hit, m, yes, no⟩
    refine wpAny_handleBy_cons (codeAny_handlers_test (clause_test C nm m ?_)) fun z => nomatch z
    cases hit with
    | false => exact ih (no rfl)
    | true =>
      refine codeAny_handlers_suite_as (C.enter (E := fun _ => True) fun oe t' hz hf S => ?_)
      refine store_ok (X := X.suite a ((a, oe) :: (X.pn ++ pins))) (v := V.ref a) S nd at_ (Or.inl own) (show RelV (V.ref a) (Value.ref a) from rfl) (fun t2 S2 => ?_) (Or.inr own)
      exact wpAny_mono ((su a oe cls d (X.pn ++ pins) hz hf).run [] _ _ _ _ S2 (yes rfl a C.na)) (fun f t3 e => suite_gone C.ok nd at_ own e) fun _ _ no => False.elim no
/-- from the air to the ground -/
theorem caught_of (stk : X.stack = X.env :: X.outer) (frm : X.env.frame = some X.env.locals) {B : Heap} {sI s' : Shared} {h3 : Heap} (J : Inv X pins σ H sI)
    (nb : ∀ b o, sI.heap.get? b = some o → b ∉ frs X.stack → B.get? b = some o) (na : H a = none) (os : s'.os = sI.os) (ag : AllBare s'.gens) (fl : HandSPX.FlyingZ B (X.env :: X.outer) a (L2N.Zn cls d) h3) (up : sI.heap.UpToSlots h3) :
    Caught X pins σ H a cls d { s' with heap := h3 } := by
  obtain ⟨oe, vs, at3, z3, d3⟩ := fl.there
  have apart : a ∉ frs (X.env :: X.outer) := fun hm => by
    obtain ⟨_, o2, at2, nf⟩ := fl.2.2.1.mem hm
    rw [at3] at at2
    obtain rfl := Option.some.inj at2
    exact nf _ d3
  have nL : a ≠ X.env.locals := fun e => apart (List.mem_filterMap.mpr ⟨X.env, List.mem_cons_self, by rw [frm, e]⟩)
  have nF : a ∉ X.fs := fun hm => by
    obtain ⟨e, he, q⟩ := List.mem_filterMap.mp hm
    exact apart (List.mem_filterMap.mpr ⟨e, List.mem_cons_of_mem _ he, q⟩)
  refine ⟨J.ok, na, ⟨oe, at3, z3.1, (J.landed (s' := { s' with heap := h3 }) nb fl.1 up os ag).suite at3 d3 na nL nF⟩, fun {Q E} q {F} => ?_, fun {W D} tk w => ?_⟩
  · refine HandSPX.lands_againZ (s := { s' with heap := h3 }) fl fun h4 fl4 up4 => ?_
    obtain ⟨oe4, vs4, at4, z4, d4⟩ := fl4.there
    exact q oe4 _ z4 ⟨_, d4⟩ ((J.landed (s' := { s' with heap := h4 }) nb fl4.1 (up.trans up4) os ag).suite at4 d4 na nL nF)
  · apply wpAny_handleBy_nil
    obtain ⟨_, _, _, o5, v5, T, oT, _, at5, _, d5, tb, _⟩ := id fl
    unfold PySem.passOn
    refine wpAny_bind (wpAny_field at5 d5 tb ?_)
    rw [if_neg (show ¬ ((Value.ref T == Value.none) = true) by simp)]
    have out : wpAny (model X.prog X.w) X.A (setFlight (.ref a) X.env.frame) (fun _ t4 => wpAny (model X.prog X.w) X.A (throw (.ref a) : Sem Flow) (SP X pins D) X.xe t4) X.xe { s' with heap := h3 } := by
      rw [frm]
      refine HandSPX.setFlight_upZ (s := { s' with heap := h3 }) fl fun h4 held up4 => wpAny_throw (tk _ _ ?_)
      exact ⟨a, B, sI, pins, σ, H, cls, d, rfl, J, nb, up.trans up4, Or.inr (Or.inr (by rw [stk]; exact held)), na, os, ag, w⟩
    first
    | exact wpAny_bind (wpAny_pure (wpAny_bind out))
    | exact wpAny_bind out
end
def tTryMix (K : PySem.W.Frag) (l : List Cl) (Wout : WX) (tb : WX → TS) : TS := fun D σ H => tb (wMix K Wout D l) D σ H
theorem rd_tryMix {K : PySem.W.Frag} {σ : L2.St} {H : Hp} {D : Ends} {l : List Cl} {Wout : WX} {tb : WX → TS} (h : tb (wMix K Wout D l) D σ H) : tTryMix K l Wout tb D σ H := h
theorem ps_tryMix {X : Cx} {K : PySem.W.Frag} {body : List Stmt} {h0 : ExceptHandler} {hr : List ExceptHandler} {l : List Cl} {p : Pos} {tb : WX → TS} {Wout : WX} (eK : X.K = K) (stk : X.stack = X.env :: X.outer) (frm : X.env.frame = some X.env.locals) (nd : X.N.Nodup)
    (tk : L2N.Takes X Wout) (hb : ∀ (W : WX) (pn : List (Addr × Obj)) (xe : Value → Shared → Prop), L2N.Takes (X.tr pn xe) W → PassesOwn (model X.prog X.w) X.A X.env xe → PSs (X.tr pn xe) body (tb W)) (M : Mix X (h0 :: hr) l) :
    PS X (.Try body (h0 :: hr) [] [] p) (tTryMix K l Wout tb) := by
  subst eK
  refine ⟨fun pins s σ H D I w => wpAny_Try_except ?_⟩
  have fr : X.A.frames = some (X.env :: X.outer) := by rw [I.ok.frames, stk]
  have walked := (hb (wMix X.K Wout D l) (X.pn ++ pins) (fun u t => wpAny (model X.prog X.w) X.A (noteFrame u X.env) (fun _ t1 => wpAny (model X.prog X.w) X.A (setFlight u none) (fun _ t2 =>
    wpAny (model X.prog X.w) X.A (handleBy u X.env (h0 :: hr)) (SP X pins D) X.xe t2) X.xe t1) X.xe t) ?_ PassesOwn.looking).run [] s σ H D (I.toTry _) w
  · refine wpAny_mono walked (fun f t e => ?_) fun _ _ e => e
    cases f with
    | next => exact wpAny_execs_nil (e.imp fun _ e => e.imp fun _ e => ⟨e.1.ofTry I.ok, e.2⟩)
    | brk => exact e.imp fun _ e => e.imp fun _ e => ⟨e.1.ofTry I.ok, e.2⟩
    | cont => exact e.imp fun _ e => e.imp fun _ e => ⟨e.1.ofTry I.ok, e.2⟩
    | ret u => exact e.imp fun _ e => e.imp fun _ e => e.imp fun _ e => ⟨e.1.ofTry I.ok, e.2⟩
  · rintro u t ⟨a, B, sI, pn2, σ2, H2, cls, d, rfl, J2, nb, up, sky, na, os, ag, wish⟩
    have land : Sky B (X.env :: X.outer) a (L2N.Zn cls d) X.env.locals t.heap := by
      rw [← stk]
      exact sky
    change wpAny (model X.prog X.w) X.A (noteFrame (.ref a) X.env) _ _ _
    exact L2N.Sky.land L2N.Zn.steady fr frm land fun h3 fl up3 => clauses nd tk (caught_of stk frm (J2.ofTry I.ok) nb na os ag fl (up.trans up3)) M wish
end Lw

set_option Elab.async false
set_option linter.all false
set_option maxRecDepth 100000
set_option maxHeartbeats 2000000
namespace Lw
open PySem PySem.Spec PyProof.Rows L2 He Evl StX
section
variable {X : Cx} {K : PySem.W.Frag} {w : World}
theorem kpi_enumA {e0 : Expr} {ta : TA} {p pos tpos : Pos} {elts : List Expr} {kk : Nat} (h : X.K = K) (gl : Gl X "enumerate") (mg : X.mg "enumerate" = none) (pa : PA X [e0] ta) (st : starEach [e0] X.env = [(false, eval e0 X.env)] := by rfl) :
    PI X (.Tuple elts kk tpos) (.Call (.Name "enumerate" p) [e0] [] pos) (iEnumA K ta) := h ▸ pi_enumA gl mg pa st
theorem kc_setI (h : X.K = K) (hw : X.w = w) (hc : X.calm = true) : CallR X (.type "set") (rSetI K w) := h ▸ hw ▸ cr_setInts hc
theorem kc_sortedSet (hw : X.w = w) (hc : X.calm = true) : CallR X (.builtin "sorted") (rSortedSet w) := hw ▸ cr_sortedSet hc
/-- isinstance(x, (A, B)) -/
def rIsT2 (K : PySem.W.Frag) : List V → Hp → VK → Prop := fun xs H Q => ∃ (x : V) (tp : Addr) (A B n : String), xs = [x, .ref tp] ∧ H tp = some (.tup [.ty A, .ty B]) ∧ Th K H x n ∧ A ∈ kinds ∧ B ∈ kinds ∧ Q (.bl (isTab n A || isTab n B)) H
theorem call_isT2 : CallR X (.builtin "isinstance") (rIsT2 X.K) := by
  intro pins s σ H xs us Q I r h
  obtain ⟨x, tp, A, B, n, rfl, hT, th, hA, hB, q⟩ := h
  refine call_isiT pins s σ H _ us Q I r ⟨x, tp, _, _, [.type A, .type B], _, rfl, hT, Paired.cons (.ty A) (Paired.cons (.ty B) Paired.nil), th.t, ?_, q⟩
  refine kitAny_cons (kit_ty (isTab_ok n th.k A hA)) (fun e => ?_) fun e => by rw [e, Bool.true_or]
  rw [e, Bool.false_or]
  refine kitAny_cons (kit_ty (isTab_ok n th.k B hB)) (fun e2 => by rw [e2]; exact kitAny_nil) fun e2 => e2
theorem kc_isT2 (h : X.K = K) : CallR X (.builtin "isinstance") (rIsT2 K) := h ▸ call_isT2
end
theorem rd_iEnumA {K : PySem.W.Frag} {σ : L2.St} {H : Hp} {ta : TA} {R : It → Hp → Prop} (h : ta σ H fun vs H1 => ∃ a xs, vs = [.ref a] ∧ ((SqL K H1 a xs ∧ R (Ite K a) H1) ∨ (SqT K H1 a xs ∧ R (ItEt K a) H1))) : iEnumA K ta σ H R := h
theorem rd_tupRg {σ : L2.St} {H : Hp} {Q : VK} {te : L2.St → Hp → (Int → Int → Hp → Prop) → Prop} (h : te σ H fun a b H1 => RgOk a b ∧ ∀ q, H1 q = none → Q (.ref q) (upd H1 q (.tup (rgV a b)))) : tTupRg te σ H Q := h
theorem rgV_nat (n : Nat) : rgV 0 (n : Int) = ((List.range n).map fun (k : Nat) => (k : Int)).map V.int := by
  unfold rgV
  rw [List.map_map, show ((n : Int) - 0).toNat = n by omega]
  exact List.map_congr_left fun k _ => by rw [Int.zero_add]; rfl
/-! ### strictly sorted, without repeats -/
def insU (x : Int) : List Int → List Int
  | [] => [x]
  | y :: r => if x < y then x :: y :: r else if x = y then y :: r else y :: insU x r
def uniq : List Int → List Int
  | [] => []
  | x :: r => insU x (uniq r)
theorem insU_mem (x z : Int) : ∀ l, z ∈ insU x l ↔ z = x ∨ z ∈ l
  | [] => by simp [insU]
  | y :: r => by
    unfold insU
    split
    · simp
    · split
      · rename_i e
        subst e
        simp
      · rw [List.mem_cons, insU_mem x z r, List.mem_cons]
        constructor
        · rintro (h | h | h) <;> simp [h]
        · rintro (h | h | h) <;> simp [h]
theorem insU_sorted (x : Int) : ∀ l, l.Pairwise (· < ·) → (insU x l).Pairwise (· < ·)
  | [], _ => .cons (fun _ h => nomatch h) .nil
  | y :: r, h => by
    unfold insU
    cases h with
    | cons h1 h2 =>
      split
      · rename_i lt
        refine .cons (fun z hz => ?_) (.cons h1 h2)
        rcases List.mem_cons.mp hz with rfl | hz
        · exact lt
        · exact Int.lt_trans lt (h1 z hz)
      · split
        · exact .cons h1 h2
        · refine .cons (fun z hz => ?_) (insU_sorted x r h2)
          rcases (insU_mem x z r).mp hz with rfl | hz
          · omega
          · exact h1 z hz
theorem uniq_mem (z : Int) : ∀ l, z ∈ uniq l ↔ z ∈ l
  | [] => Iff.rfl
  | x :: r => by
    show z ∈ insU x (uniq r) ↔ _
    rw [insU_mem, uniq_mem z r, List.mem_cons]
theorem uniq_sorted : ∀ l, (uniq l).Pairwise (· < ·)
  | [] => .nil
  | x :: r => insU_sorted x _ (uniq_sorted r)
theorem strict_eq : ∀ {a b : List Int}, a.Pairwise (· < ·) → b.Pairwise (· < ·) → (∀ z, z ∈ a ↔ z ∈ b) → a = b
  | [], [], _, _, _ => rfl
  | [], y :: b, _, _, h => absurd ((h y).mpr List.mem_cons_self) (by simp)
  | x :: a, [], _, _, h => absurd ((h x).mp List.mem_cons_self) (by simp)
  | x :: a, y :: b, ha, hb, h => by
    cases ha with
    | cons ha1 ha2 => cases hb with
      | cons hb1 hb2 =>
        have e : x = y := by
          have h1 := (h x).mp List.mem_cons_self
          have h2 := (h y).mpr List.mem_cons_self
          rcases List.mem_cons.mp h1 with z | z
          · exact z
          · rcases List.mem_cons.mp h2 with z2 | z2
            · exact z2.symm
            · have := hb1 x z
              have := ha1 y z2
              omega
        subst e
        refine congrArg (x :: ·) (strict_eq ha2 hb2 fun z => ⟨fun hz => ?_, fun hz => ?_⟩)
        · rcases List.mem_cons.mp ((h z).mp (List.mem_cons_of_mem _ hz)) with e2 | h2
          · exact absurd (ha1 z hz) (by omega)
          · exact h2
        · rcases List.mem_cons.mp ((h z).mpr (List.mem_cons_of_mem _ hz)) with e2 | h2
          · exact absurd (hb1 z hz) (by omega)
          · exact h2
theorem uniq_len : ∀ l, (uniq l).length ≤ l.length
  | [] => Nat.le_refl _
  | x :: r => by
    have ins : ∀ l, (insU x l).length ≤ l.length + 1 := by
      intro l
      induction l with
      | nil => exact Nat.le_refl _
      | cons y t ih =>
        unfold insU
        split
        · exact Nat.le_refl _
        · split
          · exact Nat.le_succ _
          · simp only [List.length_cons]
            omega
    exact Nat.le_trans (ins _) (Nat.succ_le_succ (uniq_len r))
/-- sorted(set(ns)) -/
theorem rd_sortedSet {w : World} {H : Hp} {Q : VK} {a : Addr} {ns : List Int} {c : Nat} (h : H a = some (SetO w a (fun j => decide (j ∈ ns)) c)) (few : c < 64) (q : ∀ p, H p = none → Q (.ref p) (upd H p (.lst ((uniq ns).map V.int)))) : rSortedSet w [.ref a] H Q :=
  ⟨a, _, c, rfl, h, few, fun ms p srt mem _ free => by
    rw [strict_eq srt (uniq_sorted ns) fun z => (mem z).trans ((decide_eq_true_iff).trans (uniq_mem z ns).symm)]
    exact q p free⟩
/-! ### rows of things -/
def Odd (K : PySem.W.Frag) (H : Hp) (x : V) : Prop := ∀ H', Ex H H' → Thg K H' x
theorem Odd.ex {K : PySem.W.Frag} {H H' : Hp} {x : V} (h : Odd K H x) (e : Ex H H') : Odd K H' x := fun H2 e2 => h H2 (e.trans e2)
/-- y is a list or a tuple of the things xs, or no such thing (none) -/
def RowV (K : PySem.W.Frag) (H : Hp) (y : V) : Option (List V) → Prop
  | none => ∃ n, (∀ H', Ex H H' → Th K H' y n) ∧ isTab n "list" = false ∧ isTab n "tuple" = false
  | some xs => ∃ a, y = .ref a ∧ (H a = some (.lst xs) ∨ H a = some (.tup xs)) ∧ xs.length ≤ 1000 ∧ ∀ x ∈ xs, Odd K H x
def firstOff (hi : Int) (xs : List V) : Option Nat := xs.findIdx? fun x => !wholeV 0 hi x
def badOf (hi : Int) : Option (List V) → Option Nat
  | none => some 0
  | some xs => firstOff hi xs
theorem RowV.ex {K : PySem.W.Frag} {H H' : Hp} {y : V} {r : Option (List V)} (h : RowV K H y r) (e : Ex H H') : RowV K H' y r := by
  cases r with
  | none =>
    obtain ⟨n, th, rest⟩ := h
    exact ⟨n, fun H2 e2 => th H2 (e.trans e2), rest⟩
  | some xs =>
    obtain ⟨a, rfl, at_, len, od⟩ := h
    exact ⟨a, rfl, at_.imp (e _ _) (e _ _), len, fun x hx => (od x hx).ex e⟩
theorem odd_int {K : PySem.W.Frag} {H : Hp} (i : Int) : Odd K H (.int i) := fun _ _ => ⟨_, th_int i⟩
theorem off_ints {hi : Int} {ns : List Int} (h : firstOff hi (ns.map V.int) = none) : ∀ z ∈ ns, 0 ≤ z ∧ z ≤ hi := fun z hz => by
  unfold firstOff at h
  rw [List.findIdx?_eq_none_iff] at h
  have := h (.int z) (List.mem_map.mpr ⟨z, hz, rfl⟩)
  have w : wholeV 0 hi (.int z) = true := by simpa using this
  have w2 : (decide ((0 : Int) ≤ z) && decide (z ≤ hi)) = true := w
  simp only [Bool.and_eq_true, decide_eq_true_eq] at w2
  exact w2
theorem ints_off {hi : Int} {xs : List V} (h : firstOff hi xs = none) : ∃ ns : List Int, xs = ns.map V.int ∧ ∀ z ∈ ns, 0 ≤ z ∧ z ≤ hi := by
  unfold firstOff at h
  rw [List.findIdx?_eq_none_iff] at h
  have all : ∀ x ∈ xs, ∃ z, x = V.int z := fun x hx => by
    have w : wholeV 0 hi x = true := by simpa using h x hx
    cases x with
    | int z => exact ⟨z, rfl⟩
    | _ => cases w
  have mk : ∀ l : List V, (∀ x ∈ l, ∃ z, x = V.int z) → ∃ ns : List Int, l = ns.map V.int := by
    intro l
    induction l with
    | nil => exact fun _ => ⟨[], rfl⟩
    | cons x t ih =>
      intro hl
      obtain ⟨z, rfl⟩ := hl x List.mem_cons_self
      obtain ⟨ns, rfl⟩ := ih fun y hy => hl y (List.mem_cons_of_mem _ hy)
      exact ⟨z :: ns, rfl⟩
  obtain ⟨ns, rfl⟩ := mk xs all
  exact ⟨ns, rfl, off_ints (by unfold firstOff; rw [List.findIdx?_eq_none_iff]; exact h)⟩
end Lw

set_option Elab.async false
set_option linter.all false
set_option maxRecDepth 100000
set_option maxHeartbeats 2000000
namespace Lw
open PySem PySem.Spec PyProof.Rows L2 He Evl StX
/-! ### data: rows of ints, compared -/
theorem dp_ints {K : PySem.W.Frag} {H : Hp} : ∀ ns : List Int, DpAll K H (ns.map V.int) (ns.map PyData.int)
  | [] => .nil
  | n :: r => .cons (.int n) (dp_ints r)
theorem lay_ints : ∀ ns : List Int, PyData.canLayAll0 (ns.map PyData.int) = true
  | [] => by simp only [List.map_nil, PyData.canLayAll0]
  | n :: r => by simp only [List.map_cons, PyData.canLayAll0, PyData.canLay0, lay_ints r, Bool.and_self]
theorem depth_ints : ∀ ns : List Int, PyData.depthAll (ns.map PyData.int) = 0
  | [] => by simp only [List.map_nil, PyData.depthAll]
  | n :: r => by simp only [List.map_cons, PyData.depthAll, PyData.depth, depth_ints r, Nat.max_self]
theorem shaped_lst (ns : List Int) : SeqAt.shaped (.list (ns.map PyData.int)) = true := by
  unfold SeqAt.shaped
  simp only [PyData.canLay0, PyData.depth, lay_ints, depth_ints]
  decide
theorem shaped_tup (ns : List Int) : SeqAt.shaped (.tuple (ns.map PyData.int)) = true := by
  unfold SeqAt.shaped
  simp only [PyData.canLay0, PyData.depth, lay_ints, depth_ints]
  decide
theorem eqv_ints : ∀ a b : List Int, PyData.eqvAll (a.map PyData.int) (b.map PyData.int) = decide (a = b)
  | [], [] => by simp [PyData.eqvAll]
  | [], y :: b => by simp [PyData.eqvAll]
  | x :: a, [] => by simp [PyData.eqvAll]
  | x :: a, y :: b => by
    simp only [List.map_cons, PyData.eqvAll, PyData.eqv, eqv_ints a b]
    by_cases e : x = y
    · subst e
      by_cases e2 : a = b
      · simp [e2]
      · simp [e2]
    · simp [e]
theorem rd_eqL {K : PySem.W.Frag} {H : Hp} {Q : VK} {p q : Addr} {a b : List Int} (h1 : SqL K H p (a.map V.int)) (h2 : SqL K H q (b.map V.int)) (k : Q (.bl (decide (a = b))) H) : rEqD K (.ref p) (.ref q) H Q :=
  ⟨_, _, .lst h1 (dp_ints a), .lst h2 (dp_ints b), shaped_lst a, shaped_lst b, by simp only [PyData.eqv]; rw [eqv_ints]; exact k⟩
theorem rd_neL {K : PySem.W.Frag} {H : Hp} {Q : VK} {p q : Addr} {a b : List Int} (h1 : SqL K H p (a.map V.int)) (h2 : SqL K H q (b.map V.int)) (k : Q (.bl (!decide (a = b))) H) : rNeD K (.ref p) (.ref q) H Q :=
  ⟨_, _, .lst h1 (dp_ints a), .lst h2 (dp_ints b), shaped_lst a, shaped_lst b, by simp only [PyData.eqv]; rw [eqv_ints]; exact k⟩
theorem rd_neT {K : PySem.W.Frag} {H : Hp} {Q : VK} {p q : Addr} {a b : List Int} (h1 : SqT K H p (a.map V.int)) (h2 : SqT K H q (b.map V.int)) (k : Q (.bl (!decide (a = b))) H) : rNeD K (.ref p) (.ref q) H Q :=
  ⟨_, _, .tup h1 (dp_ints a), .tup h2 (dp_ints b), shaped_tup a, shaped_tup b, by simp only [PyData.eqv]; rw [eqv_ints]; exact k⟩
theorem rd_eqT {K : PySem.W.Frag} {H : Hp} {Q : VK} {p q : Addr} {a b : List Int} (h1 : SqT K H p (a.map V.int)) (h2 : SqT K H q (b.map V.int)) (k : Q (.bl (decide (a = b))) H) : rEqD K (.ref p) (.ref q) H Q :=
  ⟨_, _, .tup h1 (dp_ints a), .tup h2 (dp_ints b), shaped_tup a, shaped_tup b, by simp only [PyData.eqv]; rw [eqv_ints]; exact k⟩
theorem rd_sl {σ : L2.St} {H : Hp} {Q : VK} {r : V → Option Int → Option Int → Hp → VK → Prop} {te : TE} {tl th : TO} (h : te σ H fun x H1 => tl σ H1 fun l H2 => th σ H2 fun u H3 => r x l u H3 Q) : tSl r te tl th σ H Q := h
theorem rd_noPart {σ : L2.St} {H : Hp} {Q : Option Int → Hp → Prop} (h : Q none H) : tNoPart σ H Q := h
theorem rd_part {σ : L2.St} {H : Hp} {te : TE} {Q : Option Int → Hp → Prop} (h : te σ H fun x H1 => ∃ i, x = .int i ∧ Q (some i) H1) : tPart te σ H Q := h
theorem rd_oint {i : Int} {P : Int → Prop} (h : P i) : ∃ j, V.int i = .int j ∧ P j := ⟨i, rfl, h⟩
theorem cut_take {xs : List V} {k : Nat} (h : k ≤ xs.length) : cutV xs none (some (k : Int)) = xs.take k := by
  unfold cutV
  rw [HT.sIx_nat, HT.sIx_none, List.drop_zero, Nat.min_eq_left h, Nat.sub_zero]
theorem cut_drop {xs : List V} {k : Nat} (h : k ≤ xs.length) : cutV xs (some (k : Int)) none = xs.drop k := by
  unfold cutV
  rw [HT.sIx_nat, HT.sIx_none, Nat.min_eq_left h]
  exact List.take_of_length_le (by rw [List.length_drop]; exact Nat.le_refl _)
end Lw

set_option Elab.async false
set_option linter.all false
set_option maxRecDepth 100000
set_option maxHeartbeats 0
namespace Lw
open PySem PySem.Spec PyProof.Rows L2 He
def top (i : Nat) : Stmt := PySem.Challenge.pw_lowerwords_k01_whole_words_are_sums_of_h.main.body.getD i (.Pass ⟨0, 0, 0, 0⟩)
abbrev s_is_whole : Stmt := top 8
def d_is_whole : DefD := ⟨("is_whole", none), "is_whole", "is_whole", defArgs s_is_whole, defBody s_is_whole, defScope s_is_whole, [], []⟩
abbrev s_check_letters : Stmt := top 9
def d_check_letters : DefD := ⟨("check_letters", none), "check_letters", "check_letters", defArgs s_check_letters, defBody s_check_letters, defScope s_check_letters, [], []⟩
abbrev s_check_heap : Stmt := top 10
def d_check_heap : DefD := ⟨("check_heap", none), "check_heap", "check_heap", defArgs s_check_heap, defBody s_check_heap, defScope s_check_heap, [], []⟩
abbrev s_check_heaps : Stmt := top 11
def d_check_heaps : DefD := ⟨("check_heaps", none), "check_heaps", "check_heaps", defArgs s_check_heaps, defBody s_check_heaps, defScope s_check_heaps, [], []⟩
abbrev s_check_places : Stmt := top 12
def d_check_places : DefD := ⟨("check_places", none), "check_places", "check_places", defArgs s_check_places, defBody s_check_places, defScope s_check_places, [], []⟩
abbrev s__first_bad : Stmt := top 13
def d__first_bad : DefD := ⟨("_first_bad", none), "_first_bad", "_first_bad", defArgs s__first_bad, defBody s__first_bad, defScope s__first_bad, [], []⟩
abbrev s_count_ones : Stmt := top 14
def d_count_ones : DefD := ⟨("count_ones", none), "count_ones", "count_ones", defArgs s_count_ones, defBody s_count_ones, defScope s_count_ones, [], []⟩
abbrev s_parity_of : Stmt := top 15
def d_parity_of : DefD := ⟨("parity_of", none), "parity_of", "parity_of", defArgs s_parity_of, defBody s_parity_of, defScope s_parity_of, [], []⟩
abbrev s_all_letters : Stmt := top 16
def d_all_letters : DefD := ⟨("all_letters", none), "all_letters", "all_letters", defArgs s_all_letters, defBody s_all_letters, defScope s_all_letters, [], []⟩
abbrev s_all_heaps : Stmt := top 17
def d_all_heaps : DefD := ⟨("all_heaps", none), "all_heaps", "all_heaps", defArgs s_all_heaps, defBody s_all_heaps, defScope s_all_heaps, [], []⟩
abbrev s_check_word : Stmt := top 20
def d_check_word : DefD := ⟨("check_word", none), "check_word", "check_word", defArgs s_check_word, defBody s_check_word, defScope s_check_word, [], []⟩
abbrev s_full_word : Stmt := top 21
def d_full_word : DefD := ⟨("full_word", none), "full_word", "full_word", defArgs s_full_word, defBody s_full_word, defScope s_full_word, [], []⟩
abbrev s_word_of : Stmt := top 22
def d_word_of : DefD := ⟨("word_of", none), "word_of", "word_of", defArgs s_word_of, defBody s_word_of, defScope s_word_of, [], []⟩
abbrev s_heap_word : Stmt := top 23
def d_heap_word : DefD := ⟨("heap_word", none), "heap_word", "heap_word", defArgs s_heap_word, defBody s_heap_word, defScope s_heap_word, [], []⟩
abbrev s_heaps_of : Stmt := top 24
def d_heaps_of : DefD := ⟨("heaps_of", none), "heaps_of", "heaps_of", defArgs s_heaps_of, defBody s_heaps_of, defScope s_heaps_of, [], []⟩
abbrev s__stepped : Stmt := top 25
def d__stepped : DefD := ⟨("_stepped", none), "_stepped", "_stepped", defArgs s__stepped, defBody s__stepped, defScope s__stepped, [], []⟩
abbrev s__marks : Stmt := top 26
def d__marks : DefD := ⟨("_marks", none), "_marks", "_marks", defArgs s__marks, defBody s__marks, defScope s__marks, [], []⟩
abbrev s_places_of : Stmt := top 27
def d_places_of : DefD := ⟨("places_of", none), "places_of", "places_of", defArgs s_places_of, defBody s_places_of, defScope s_places_of, [], []⟩
abbrev s_marked_word : Stmt := top 28
def d_marked_word : DefD := ⟨("marked_word", none), "marked_word", "marked_word", defArgs s_marked_word, defBody s_marked_word, defScope s_marked_word, [], []⟩
abbrev s_weight_of : Stmt := top 29
def d_weight_of : DefD := ⟨("weight_of", none), "weight_of", "weight_of", defArgs s_weight_of, defBody s_weight_of, defScope s_weight_of, [], []⟩
abbrev s_value_at : Stmt := top 30
def d_value_at : DefD := ⟨("value_at", none), "value_at", "value_at", defArgs s_value_at, defBody s_value_at, defScope s_value_at, [], []⟩
abbrev s_meets_evenly : Stmt := top 31
def d_meets_evenly : DefD := ⟨("meets_evenly", none), "meets_evenly", "meets_evenly", defArgs s_meets_evenly, defBody s_meets_evenly, defScope s_meets_evenly, [], []⟩
abbrev s__law_mix : Stmt := top 33
def d__law_mix : DefD := ⟨("_law_mix", none), "_law_mix", "_law_mix", defArgs s__law_mix, defBody s__law_mix, defScope s__law_mix, [], []⟩
abbrev s__law_hand : Stmt := top 34
def d__law_hand : DefD := ⟨("_law_hand", none), "_law_hand", "_law_hand", defArgs s__law_hand, defBody s__law_hand, defScope s__law_hand, [], []⟩
abbrev s__law_draw : Stmt := top 35
def d__law_draw : DefD := ⟨("_law_draw", none), "_law_draw", "_law_draw", defArgs s__law_draw, defBody s__law_draw, defScope s__law_draw, [], []⟩
abbrev s__law_wide : Stmt := top 36
def d__law_wide : DefD := ⟨("_law_wide", none), "_law_wide", "_law_wide", defArgs s__law_wide, defBody s__law_wide, defScope s__law_wide, [], []⟩
abbrev s__law_letters : Stmt := top 37
def d__law_letters : DefD := ⟨("_law_letters", none), "_law_letters", "_law_letters", defArgs s__law_letters, defBody s__law_letters, defScope s__law_letters, [], []⟩
abbrev s__law_is_int : Stmt := top 38
def d__law_is_int : DefD := ⟨("_law_is_int", none), "_law_is_int", "_law_is_int", defArgs s__law_is_int, defBody s__law_is_int, defScope s__law_is_int, [], []⟩
abbrev s__law_is_row : Stmt := top 39
def d__law_is_row : DefD := ⟨("_law_is_row", none), "_law_is_row", "_law_is_row", defArgs s__law_is_row, defBody s__law_is_row, defScope s__law_is_row, [], []⟩
abbrev s__law_ones : Stmt := top 40
def d__law_ones : DefD := ⟨("_law_ones", none), "_law_ones", "_law_ones", defArgs s__law_ones, defBody s__law_ones, defScope s__law_ones, [], []⟩
abbrev s__law_heap_word : Stmt := top 41
def d__law_heap_word : DefD := ⟨("_law_heap_word", none), "_law_heap_word", "_law_heap_word", defArgs s__law_heap_word, defBody s__law_heap_word, defScope s__law_heap_word, [], []⟩
abbrev s__law_sum : Stmt := top 42
def d__law_sum : DefD := ⟨("_law_sum", none), "_law_sum", "_law_sum", defArgs s__law_sum, defBody s__law_sum, defScope s__law_sum, [], []⟩
abbrev s__law_heaps_of : Stmt := top 43
def d__law_heaps_of : DefD := ⟨("_law_heaps_of", none), "_law_heaps_of", "_law_heaps_of", defArgs s__law_heaps_of, defBody s__law_heaps_of, defScope s__law_heaps_of, [], []⟩
abbrev s__law_any_word : Stmt := top 44
def d__law_any_word : DefD := ⟨("_law_any_word", none), "_law_any_word", "_law_any_word", defArgs s__law_any_word, defBody s__law_any_word, defScope s__law_any_word, [], []⟩
abbrev s__law_mark : Stmt := top 45
def d__law_mark : DefD := ⟨("_law_mark", none), "_law_mark", "_law_mark", defArgs s__law_mark, defBody s__law_mark, defScope s__law_mark, [], []⟩
abbrev s__law_odd : Stmt := top 46
def d__law_odd : DefD := ⟨("_law_odd", none), "_law_odd", "_law_odd", defArgs s__law_odd, defBody s__law_odd, defScope s__law_odd, [], []⟩
abbrev s__law_heap_list : Stmt := top 47
def d__law_heap_list : DefD := ⟨("_law_heap_list", none), "_law_heap_list", "_law_heap_list", defArgs s__law_heap_list, defBody s__law_heap_list, defScope s__law_heap_list, [], []⟩
abbrev s__law_unique : Stmt := top 48
def d__law_unique : DefD := ⟨("_law_unique", none), "_law_unique", "_law_unique", defArgs s__law_unique, defBody s__law_unique, defScope s__law_unique, [], []⟩
abbrev s__law_either : Stmt := top 49
def d__law_either : DefD := ⟨("_law_either", none), "_law_either", "_law_either", defArgs s__law_either, defBody s__law_either, defScope s__law_either, [], []⟩
abbrev s__law_word_right : Stmt := top 50
def d__law_word_right : DefD := ⟨("_law_word_right", none), "_law_word_right", "_law_word_right", defArgs s__law_word_right, defBody s__law_word_right, defScope s__law_word_right, [], []⟩
abbrev s__law_asked : Stmt := top 51
def d__law_asked : DefD := ⟨("_law_asked", none), "_law_asked", "_law_asked", defArgs s__law_asked, defBody s__law_asked, defScope s__law_asked, [], []⟩
abbrev s__law_refused : Stmt := top 52
def d__law_refused : DefD := ⟨("_law_refused", none), "_law_refused", "_law_refused", defArgs s__law_refused, defBody s__law_refused, defScope s__law_refused, [], []⟩
abbrev s_law : Stmt := top 53
def d_law : DefD := ⟨("law", none), "law", "law", defArgs s_law, defBody s_law, defScope s_law, [], []⟩
abbrev s_BadHeap___init__ : Stmt := inClass (top 3) 0
def d_BadHeap___init__ : DefD := ⟨("BadHeap", some "__init__"), "__init__", "BadHeap.__init__", defArgs s_BadHeap___init__, defBody s_BadHeap___init__, defScope s_BadHeap___init__, [], []⟩
abbrev s_BadPlaces___init__ : Stmt := inClass (top 4) 0
def d_BadPlaces___init__ : DefD := ⟨("BadPlaces", some "__init__"), "__init__", "BadPlaces.__init__", defArgs s_BadPlaces___init__, defBody s_BadPlaces___init__, defScope s_BadPlaces___init__, [], []⟩
abbrev s_BadWord___init__ : Stmt := inClass (top 5) 0
def d_BadWord___init__ : DefD := ⟨("BadWord", some "__init__"), "__init__", "BadWord.__init__", defArgs s_BadWord___init__, defBody s_BadWord___init__, defScope s_BadWord___init__, [], []⟩
def fn0 : List DefD := [d_is_whole, d_check_letters, d_check_heap, d_check_heaps, d_check_places, d__first_bad, d_count_ones, d_parity_of, d_all_letters, d_all_heaps, d_check_word, d_full_word, d_word_of, d_heap_word, d_heaps_of, d__stepped, d__marks, d_places_of, d_marked_word, d_weight_of]
def fn1 : List DefD := [d_value_at, d_meets_evenly, d__law_mix, d__law_hand, d__law_draw, d__law_wide, d__law_letters, d__law_is_int, d__law_is_row, d__law_ones, d__law_heap_word, d__law_sum, d__law_heaps_of, d__law_any_word, d__law_mark, d__law_odd, d__law_heap_list, d__law_unique, d__law_either, d__law_word_right]
def fn2 : List DefD := [d__law_asked, d__law_refused, d_law, d_BadHeap___init__, d_BadPlaces___init__, d_BadWord___init__]
def fn : List DefD := fn0 ++ fn1 ++ fn2
def fa0 : List Fa := [.glo "is_whole", .glo "check_letters", .glo "check_heap", .glo "check_heaps", .glo "check_places", .glo "_first_bad", .glo "count_ones", .glo "parity_of", .glo "all_letters", .glo "all_heaps", .glo "check_word", .glo "full_word", .glo "word_of", .glo "heap_word", .glo "heaps_of", .glo "_stepped", .glo "_marks", .glo "places_of", .glo "marked_word", .glo "weight_of"]
def fa1 : List Fa := [.glo "value_at", .glo "meets_evenly", .glo "_law_mix", .glo "_law_hand", .glo "_law_draw", .glo "_law_wide", .glo "_law_letters", .glo "_law_is_int", .glo "_law_is_row", .glo "_law_ones", .glo "_law_heap_word", .glo "_law_sum", .glo "_law_heaps_of", .glo "_law_any_word", .glo "_law_mark", .glo "_law_odd", .glo "_law_heap_list", .glo "_law_unique", .glo "_law_either", .glo "_law_word_right"]
def fa2 : List Fa := [.glo "_law_asked", .glo "_law_refused", .glo "law", .glo "WordError", .glo "BadLetters", .glo "BadHeap", .glo "BadPlaces", .glo "BadWord", .int "MOST_LETTERS" 5, .glo "WITHOUT_LETTER", .free "ValueError", .free "abs", .free "all", .free "any", .free "bool", .free "enumerate", .free "int", .free "isinstance", .free "len", .free "list"]
def fa3 : List Fa := [.free "range", .free "set", .free "sorted", .free "sum", .free "tuple", .exc "WordError", .exc "BadLetters", .exm "BadLetters" "BadHeap" false, .exm "BadLetters" "BadLetters" true, .exm "BadLetters" "BadPlaces" false, .exm "BadLetters" "BadWord" false, .exm "BadHeap" "BadHeap" true, .exm "BadHeap" "BadLetters" false, .exm "BadHeap" "BadPlaces" false, .exm "BadHeap" "BadWord" false, .exm "BadPlaces" "BadHeap" false, .exm "BadPlaces" "BadLetters" false, .exm "BadPlaces" "BadPlaces" true, .exm "BadPlaces" "BadWord" false, .exm "BadWord" "BadHeap" false]
def fa4 : List Fa := [.exm "BadWord" "BadLetters" false, .exm "BadWord" "BadPlaces" false, .exm "BadWord" "BadWord" true]
def fa : List Fa := fa0 ++ fa1 ++ fa2 ++ fa3 ++ fa4
def ex (K : PySem.W.Frag) : Bool := excB "BadHeap" ["index"] K && (excB "BadPlaces" ["index"] K && (excB "BadWord" ["index"] K && (tupB "WITHOUT_LETTER" [1431655765, 858993459, 252645135, 16711935, 65535] K)))
abbrev R : PySem.W.OpenRow := PySem.W.OpenLaw.row PySem.Challenge.rw_lowerwords_k01_whole_words_are_sums_of_h
abbrev hk : PySem.W.Hook := hookE 5 fa fn ex
def ob (s : PySem.W.SharedT) : AlE := obsE 5 fa fn ex (HandSHeadRun.getT s)
theorem ob_eq (s : PySem.W.SharedT) : ob s = hk.obs s.abs := obsE_eq (HandSHeadRun.getT_eq s)
def loose0 : List PySem.Str := ["WordError", "BadLetters", "BadHeap", "BadPlaces", "BadWord", "MOST_LETTERS", "is_whole", "check_letters", "check_heap", "check_heaps", "check_places", "_first_bad", "count_ones", "parity_of", "all_letters", "all_heaps", "WITHOUT_LETTER", "check_word", "full_word", "word_of"]
def loose1 : List PySem.Str := ["heap_word", "heaps_of", "_stepped", "_marks", "places_of", "marked_word", "weight_of", "value_at", "meets_evenly", "_law_mix", "_law_hand", "_law_draw", "_law_wide", "_law_letters", "_law_is_int", "_law_is_row", "_law_ones", "_law_heap_word", "_law_sum", "_law_heaps_of"]
def loose2 : List PySem.Str := ["_law_any_word", "_law_mark", "_law_odd", "_law_heap_list", "_law_unique", "_law_either", "_law_word_right", "_law_asked", "_law_refused"]
def loose : List PySem.Str := loose0 ++ loose1 ++ loose2
theorem run (w : World) : HandSHeadRun.RunEq R (PySem.W.view R.prog [53]) hk ob 4000 loose w := by
  intro os
  kernel_rfl
end Lw

set_option Elab.async false
set_option linter.all false
set_option maxRecDepth 100000
set_option maxHeartbeats 2000000
namespace Lw
open PySem PySem.Spec PyProof.Rows L2 He
structure Ctx (K : PySem.W.Frag) (mg : Str → Option Value) : Prop where
  X : ∃ h : Heap, K.In h ∧ h.Ns mainGlobals mg
  c : SaysE fa fn ex K
section
variable {P : Program} {w : World} {K : PySem.W.Frag} {mg : Str → Option Value} {base : Heap}
theorem g_is_whole (E : Ctx K mg) : mg "is_whole" = some (.ref (ga K "is_whole")) := by
  obtain ⟨⟨h, X, G⟩, c⟩ := E
  exact glo_ok X G (c.d.fact 0 (f := .glo "is_whole") rfl)
theorem g_check_letters (E : Ctx K mg) : mg "check_letters" = some (.ref (ga K "check_letters")) := by
  obtain ⟨⟨h, X, G⟩, c⟩ := E
  exact glo_ok X G (c.d.fact 1 (f := .glo "check_letters") rfl)
theorem g_check_heap (E : Ctx K mg) : mg "check_heap" = some (.ref (ga K "check_heap")) := by
  obtain ⟨⟨h, X, G⟩, c⟩ := E
  exact glo_ok X G (c.d.fact 2 (f := .glo "check_heap") rfl)
theorem g_check_heaps (E : Ctx K mg) : mg "check_heaps" = some (.ref (ga K "check_heaps")) := by
  obtain ⟨⟨h, X, G⟩, c⟩ := E
  exact glo_ok X G (c.d.fact 3 (f := .glo "check_heaps") rfl)
theorem g_check_places (E : Ctx K mg) : mg "check_places" = some (.ref (ga K "check_places")) := by
  obtain ⟨⟨h, X, G⟩, c⟩ := E
  exact glo_ok X G (c.d.fact 4 (f := .glo "check_places") rfl)
theorem g__first_bad (E : Ctx K mg) : mg "_first_bad" = some (.ref (ga K "_first_bad")) := by
  obtain ⟨⟨h, X, G⟩, c⟩ := E
  exact glo_ok X G (c.d.fact 5 (f := .glo "_first_bad") rfl)
theorem g_count_ones (E : Ctx K mg) : mg "count_ones" = some (.ref (ga K "count_ones")) := by
  obtain ⟨⟨h, X, G⟩, c⟩ := E
  exact glo_ok X G (c.d.fact 6 (f := .glo "count_ones") rfl)
theorem g_parity_of (E : Ctx K mg) : mg "parity_of" = some (.ref (ga K "parity_of")) := by
  obtain ⟨⟨h, X, G⟩, c⟩ := E
  exact glo_ok X G (c.d.fact 7 (f := .glo "parity_of") rfl)
theorem g_all_letters (E : Ctx K mg) : mg "all_letters" = some (.ref (ga K "all_letters")) := by
  obtain ⟨⟨h, X, G⟩, c⟩ := E
  exact glo_ok X G (c.d.fact 8 (f := .glo "all_letters") rfl)
theorem g_all_heaps (E : Ctx K mg) : mg "all_heaps" = some (.ref (ga K "all_heaps")) := by
  obtain ⟨⟨h, X, G⟩, c⟩ := E
  exact glo_ok X G (c.d.fact 9 (f := .glo "all_heaps") rfl)
theorem g_check_word (E : Ctx K mg) : mg "check_word" = some (.ref (ga K "check_word")) := by
  obtain ⟨⟨h, X, G⟩, c⟩ := E
  exact glo_ok X G (c.d.fact 10 (f := .glo "check_word") rfl)
theorem g_full_word (E : Ctx K mg) : mg "full_word" = some (.ref (ga K "full_word")) := by
  obtain ⟨⟨h, X, G⟩, c⟩ := E
  exact glo_ok X G (c.d.fact 11 (f := .glo "full_word") rfl)
theorem g_word_of (E : Ctx K mg) : mg "word_of" = some (.ref (ga K "word_of")) := by
  obtain ⟨⟨h, X, G⟩, c⟩ := E
  exact glo_ok X G (c.d.fact 12 (f := .glo "word_of") rfl)
theorem g_heap_word (E : Ctx K mg) : mg "heap_word" = some (.ref (ga K "heap_word")) := by
  obtain ⟨⟨h, X, G⟩, c⟩ := E
  exact glo_ok X G (c.d.fact 13 (f := .glo "heap_word") rfl)
theorem g_heaps_of (E : Ctx K mg) : mg "heaps_of" = some (.ref (ga K "heaps_of")) := by
  obtain ⟨⟨h, X, G⟩, c⟩ := E
  exact glo_ok X G (c.d.fact 14 (f := .glo "heaps_of") rfl)
theorem g__stepped (E : Ctx K mg) : mg "_stepped" = some (.ref (ga K "_stepped")) := by
  obtain ⟨⟨h, X, G⟩, c⟩ := E
  exact glo_ok X G (c.d.fact 15 (f := .glo "_stepped") rfl)
theorem g__marks (E : Ctx K mg) : mg "_marks" = some (.ref (ga K "_marks")) := by
  obtain ⟨⟨h, X, G⟩, c⟩ := E
  exact glo_ok X G (c.d.fact 16 (f := .glo "_marks") rfl)
theorem g_places_of (E : Ctx K mg) : mg "places_of" = some (.ref (ga K "places_of")) := by
  obtain ⟨⟨h, X, G⟩, c⟩ := E
  exact glo_ok X G (c.d.fact 17 (f := .glo "places_of") rfl)
theorem g_marked_word (E : Ctx K mg) : mg "marked_word" = some (.ref (ga K "marked_word")) := by
  obtain ⟨⟨h, X, G⟩, c⟩ := E
  exact glo_ok X G (c.d.fact 18 (f := .glo "marked_word") rfl)
theorem g_weight_of (E : Ctx K mg) : mg "weight_of" = some (.ref (ga K "weight_of")) := by
  obtain ⟨⟨h, X, G⟩, c⟩ := E
  exact glo_ok X G (c.d.fact 19 (f := .glo "weight_of") rfl)
theorem g_value_at (E : Ctx K mg) : mg "value_at" = some (.ref (ga K "value_at")) := by
  obtain ⟨⟨h, X, G⟩, c⟩ := E
  exact glo_ok X G (c.d.fact 20 (f := .glo "value_at") rfl)
theorem g_meets_evenly (E : Ctx K mg) : mg "meets_evenly" = some (.ref (ga K "meets_evenly")) := by
  obtain ⟨⟨h, X, G⟩, c⟩ := E
  exact glo_ok X G (c.d.fact 21 (f := .glo "meets_evenly") rfl)
theorem g__law_mix (E : Ctx K mg) : mg "_law_mix" = some (.ref (ga K "_law_mix")) := by
  obtain ⟨⟨h, X, G⟩, c⟩ := E
  exact glo_ok X G (c.d.fact 22 (f := .glo "_law_mix") rfl)
theorem g__law_hand (E : Ctx K mg) : mg "_law_hand" = some (.ref (ga K "_law_hand")) := by
  obtain ⟨⟨h, X, G⟩, c⟩ := E
  exact glo_ok X G (c.d.fact 23 (f := .glo "_law_hand") rfl)
theorem g__law_draw (E : Ctx K mg) : mg "_law_draw" = some (.ref (ga K "_law_draw")) := by
  obtain ⟨⟨h, X, G⟩, c⟩ := E
  exact glo_ok X G (c.d.fact 24 (f := .glo "_law_draw") rfl)
theorem g__law_wide (E : Ctx K mg) : mg "_law_wide" = some (.ref (ga K "_law_wide")) := by
  obtain ⟨⟨h, X, G⟩, c⟩ := E
  exact glo_ok X G (c.d.fact 25 (f := .glo "_law_wide") rfl)
theorem g__law_letters (E : Ctx K mg) : mg "_law_letters" = some (.ref (ga K "_law_letters")) := by
  obtain ⟨⟨h, X, G⟩, c⟩ := E
  exact glo_ok X G (c.d.fact 26 (f := .glo "_law_letters") rfl)
theorem g__law_is_int (E : Ctx K mg) : mg "_law_is_int" = some (.ref (ga K "_law_is_int")) := by
  obtain ⟨⟨h, X, G⟩, c⟩ := E
  exact glo_ok X G (c.d.fact 27 (f := .glo "_law_is_int") rfl)
theorem g__law_is_row (E : Ctx K mg) : mg "_law_is_row" = some (.ref (ga K "_law_is_row")) := by
  obtain ⟨⟨h, X, G⟩, c⟩ := E
  exact glo_ok X G (c.d.fact 28 (f := .glo "_law_is_row") rfl)
theorem g__law_ones (E : Ctx K mg) : mg "_law_ones" = some (.ref (ga K "_law_ones")) := by
  obtain ⟨⟨h, X, G⟩, c⟩ := E
  exact glo_ok X G (c.d.fact 29 (f := .glo "_law_ones") rfl)
theorem g__law_heap_word (E : Ctx K mg) : mg "_law_heap_word" = some (.ref (ga K "_law_heap_word")) := by
  obtain ⟨⟨h, X, G⟩, c⟩ := E
  exact glo_ok X G (c.d.fact 30 (f := .glo "_law_heap_word") rfl)
theorem g__law_sum (E : Ctx K mg) : mg "_law_sum" = some (.ref (ga K "_law_sum")) := by
  obtain ⟨⟨h, X, G⟩, c⟩ := E
  exact glo_ok X G (c.d.fact 31 (f := .glo "_law_sum") rfl)
theorem g__law_heaps_of (E : Ctx K mg) : mg "_law_heaps_of" = some (.ref (ga K "_law_heaps_of")) := by
  obtain ⟨⟨h, X, G⟩, c⟩ := E
  exact glo_ok X G (c.d.fact 32 (f := .glo "_law_heaps_of") rfl)
theorem g__law_any_word (E : Ctx K mg) : mg "_law_any_word" = some (.ref (ga K "_law_any_word")) := by
  obtain ⟨⟨h, X, G⟩, c⟩ := E
  exact glo_ok X G (c.d.fact 33 (f := .glo "_law_any_word") rfl)
theorem g__law_mark (E : Ctx K mg) : mg "_law_mark" = some (.ref (ga K "_law_mark")) := by
  obtain ⟨⟨h, X, G⟩, c⟩ := E
  exact glo_ok X G (c.d.fact 34 (f := .glo "_law_mark") rfl)
theorem g__law_odd (E : Ctx K mg) : mg "_law_odd" = some (.ref (ga K "_law_odd")) := by
  obtain ⟨⟨h, X, G⟩, c⟩ := E
  exact glo_ok X G (c.d.fact 35 (f := .glo "_law_odd") rfl)
theorem g__law_heap_list (E : Ctx K mg) : mg "_law_heap_list" = some (.ref (ga K "_law_heap_list")) := by
  obtain ⟨⟨h, X, G⟩, c⟩ := E
  exact glo_ok X G (c.d.fact 36 (f := .glo "_law_heap_list") rfl)
theorem g__law_unique (E : Ctx K mg) : mg "_law_unique" = some (.ref (ga K "_law_unique")) := by
  obtain ⟨⟨h, X, G⟩, c⟩ := E
  exact glo_ok X G (c.d.fact 37 (f := .glo "_law_unique") rfl)
theorem g__law_either (E : Ctx K mg) : mg "_law_either" = some (.ref (ga K "_law_either")) := by
  obtain ⟨⟨h, X, G⟩, c⟩ := E
  exact glo_ok X G (c.d.fact 38 (f := .glo "_law_either") rfl)
theorem g__law_word_right (E : Ctx K mg) : mg "_law_word_right" = some (.ref (ga K "_law_word_right")) := by
  obtain ⟨⟨h, X, G⟩, c⟩ := E
  exact glo_ok X G (c.d.fact 39 (f := .glo "_law_word_right") rfl)
theorem g__law_asked (E : Ctx K mg) : mg "_law_asked" = some (.ref (ga K "_law_asked")) := by
  obtain ⟨⟨h, X, G⟩, c⟩ := E
  exact glo_ok X G (c.d.fact 40 (f := .glo "_law_asked") rfl)
theorem g__law_refused (E : Ctx K mg) : mg "_law_refused" = some (.ref (ga K "_law_refused")) := by
  obtain ⟨⟨h, X, G⟩, c⟩ := E
  exact glo_ok X G (c.d.fact 41 (f := .glo "_law_refused") rfl)
theorem g_law (E : Ctx K mg) : mg "law" = some (.ref (ga K "law")) := by
  obtain ⟨⟨h, X, G⟩, c⟩ := E
  exact glo_ok X G (c.d.fact 42 (f := .glo "law") rfl)
theorem g_WordError (E : Ctx K mg) : mg "WordError" = some (.ref (ga K "WordError")) := by
  obtain ⟨⟨h, X, G⟩, c⟩ := E
  exact glo_ok X G (c.d.fact 43 (f := .glo "WordError") rfl)
theorem g_BadLetters (E : Ctx K mg) : mg "BadLetters" = some (.ref (ga K "BadLetters")) := by
  obtain ⟨⟨h, X, G⟩, c⟩ := E
  exact glo_ok X G (c.d.fact 44 (f := .glo "BadLetters") rfl)
theorem g_BadHeap (E : Ctx K mg) : mg "BadHeap" = some (.ref (ga K "BadHeap")) := by
  obtain ⟨⟨h, X, G⟩, c⟩ := E
  exact glo_ok X G (c.d.fact 45 (f := .glo "BadHeap") rfl)
theorem g_BadPlaces (E : Ctx K mg) : mg "BadPlaces" = some (.ref (ga K "BadPlaces")) := by
  obtain ⟨⟨h, X, G⟩, c⟩ := E
  exact glo_ok X G (c.d.fact 46 (f := .glo "BadPlaces") rfl)
theorem g_BadWord (E : Ctx K mg) : mg "BadWord" = some (.ref (ga K "BadWord")) := by
  obtain ⟨⟨h, X, G⟩, c⟩ := E
  exact glo_ok X G (c.d.fact 47 (f := .glo "BadWord") rfl)
theorem k_MOST_LETTERS (E : Ctx K mg) : ∃ t, mg "MOST_LETTERS" = some (.int 5 t) := by
  obtain ⟨⟨h, X, G⟩, c⟩ := E
  exact int_ok X G (c.d.fact 48 (f := .int "MOST_LETTERS" 5) rfl)
theorem g_WITHOUT_LETTER (E : Ctx K mg) : mg "WITHOUT_LETTER" = some (.ref (ga K "WITHOUT_LETTER")) := by
  obtain ⟨⟨h, X, G⟩, c⟩ := E
  exact glo_ok X G (c.d.fact 49 (f := .glo "WITHOUT_LETTER") rfl)
theorem b_ValueError (E : Ctx K mg) : mg "ValueError" = none := by
  obtain ⟨⟨h, X, G⟩, c⟩ := E
  exact free_ok X G (c.d.fact 50 (f := .free "ValueError") rfl)
theorem b_abs (E : Ctx K mg) : mg "abs" = none := by
  obtain ⟨⟨h, X, G⟩, c⟩ := E
  exact free_ok X G (c.d.fact 51 (f := .free "abs") rfl)
theorem b_all (E : Ctx K mg) : mg "all" = none := by
  obtain ⟨⟨h, X, G⟩, c⟩ := E
  exact free_ok X G (c.d.fact 52 (f := .free "all") rfl)
theorem b_any (E : Ctx K mg) : mg "any" = none := by
  obtain ⟨⟨h, X, G⟩, c⟩ := E
  exact free_ok X G (c.d.fact 53 (f := .free "any") rfl)
theorem b_bool (E : Ctx K mg) : mg "bool" = none := by
  obtain ⟨⟨h, X, G⟩, c⟩ := E
  exact free_ok X G (c.d.fact 54 (f := .free "bool") rfl)
theorem b_enumerate (E : Ctx K mg) : mg "enumerate" = none := by
  obtain ⟨⟨h, X, G⟩, c⟩ := E
  exact free_ok X G (c.d.fact 55 (f := .free "enumerate") rfl)
theorem b_int (E : Ctx K mg) : mg "int" = none := by
  obtain ⟨⟨h, X, G⟩, c⟩ := E
  exact free_ok X G (c.d.fact 56 (f := .free "int") rfl)
theorem b_isinstance (E : Ctx K mg) : mg "isinstance" = none := by
  obtain ⟨⟨h, X, G⟩, c⟩ := E
  exact free_ok X G (c.d.fact 57 (f := .free "isinstance") rfl)
theorem b_len (E : Ctx K mg) : mg "len" = none := by
  obtain ⟨⟨h, X, G⟩, c⟩ := E
  exact free_ok X G (c.d.fact 58 (f := .free "len") rfl)
theorem b_list (E : Ctx K mg) : mg "list" = none := by
  obtain ⟨⟨h, X, G⟩, c⟩ := E
  exact free_ok X G (c.d.fact 59 (f := .free "list") rfl)
theorem b_range (E : Ctx K mg) : mg "range" = none := by
  obtain ⟨⟨h, X, G⟩, c⟩ := E
  exact free_ok X G (c.d.fact 60 (f := .free "range") rfl)
theorem b_set (E : Ctx K mg) : mg "set" = none := by
  obtain ⟨⟨h, X, G⟩, c⟩ := E
  exact free_ok X G (c.d.fact 61 (f := .free "set") rfl)
theorem b_sorted (E : Ctx K mg) : mg "sorted" = none := by
  obtain ⟨⟨h, X, G⟩, c⟩ := E
  exact free_ok X G (c.d.fact 62 (f := .free "sorted") rfl)
theorem b_sum (E : Ctx K mg) : mg "sum" = none := by
  obtain ⟨⟨h, X, G⟩, c⟩ := E
  exact free_ok X G (c.d.fact 63 (f := .free "sum") rfl)
theorem b_tuple (E : Ctx K mg) : mg "tuple" = none := by
  obtain ⟨⟨h, X, G⟩, c⟩ := E
  exact free_ok X G (c.d.fact 64 (f := .free "tuple") rfl)
theorem x0_WordError (E : Ctx K mg) : Ex0 K mg "WordError" := ⟨g_WordError E, E.c.d.fact 65 (f := .exc "WordError") rfl⟩
theorem x0_BadLetters (E : Ctx K mg) : Ex0 K mg "BadLetters" := ⟨g_BadLetters E, E.c.d.fact 66 (f := .exc "BadLetters") rfl⟩
theorem m_BadLetters_BadHeap (E : Ctx K mg) : PySem.W.exmOne K (.ref (ga K "BadLetters")) (.ref (ga K "BadHeap")) = some false := of_decide_eq_true (E.c.d.fact 67 (f := .exm "BadLetters" "BadHeap" false) rfl)
theorem m_BadLetters_BadLetters (E : Ctx K mg) : PySem.W.exmOne K (.ref (ga K "BadLetters")) (.ref (ga K "BadLetters")) = some true := of_decide_eq_true (E.c.d.fact 68 (f := .exm "BadLetters" "BadLetters" true) rfl)
theorem m_BadLetters_BadPlaces (E : Ctx K mg) : PySem.W.exmOne K (.ref (ga K "BadLetters")) (.ref (ga K "BadPlaces")) = some false := of_decide_eq_true (E.c.d.fact 69 (f := .exm "BadLetters" "BadPlaces" false) rfl)
theorem m_BadLetters_BadWord (E : Ctx K mg) : PySem.W.exmOne K (.ref (ga K "BadLetters")) (.ref (ga K "BadWord")) = some false := of_decide_eq_true (E.c.d.fact 70 (f := .exm "BadLetters" "BadWord" false) rfl)
theorem m_BadHeap_BadHeap (E : Ctx K mg) : PySem.W.exmOne K (.ref (ga K "BadHeap")) (.ref (ga K "BadHeap")) = some true := of_decide_eq_true (E.c.d.fact 71 (f := .exm "BadHeap" "BadHeap" true) rfl)
theorem m_BadHeap_BadLetters (E : Ctx K mg) : PySem.W.exmOne K (.ref (ga K "BadHeap")) (.ref (ga K "BadLetters")) = some false := of_decide_eq_true (E.c.d.fact 72 (f := .exm "BadHeap" "BadLetters" false) rfl)
theorem m_BadHeap_BadPlaces (E : Ctx K mg) : PySem.W.exmOne K (.ref (ga K "BadHeap")) (.ref (ga K "BadPlaces")) = some false := of_decide_eq_true (E.c.d.fact 73 (f := .exm "BadHeap" "BadPlaces" false) rfl)
theorem m_BadHeap_BadWord (E : Ctx K mg) : PySem.W.exmOne K (.ref (ga K "BadHeap")) (.ref (ga K "BadWord")) = some false := of_decide_eq_true (E.c.d.fact 74 (f := .exm "BadHeap" "BadWord" false) rfl)
theorem m_BadPlaces_BadHeap (E : Ctx K mg) : PySem.W.exmOne K (.ref (ga K "BadPlaces")) (.ref (ga K "BadHeap")) = some false := of_decide_eq_true (E.c.d.fact 75 (f := .exm "BadPlaces" "BadHeap" false) rfl)
theorem m_BadPlaces_BadLetters (E : Ctx K mg) : PySem.W.exmOne K (.ref (ga K "BadPlaces")) (.ref (ga K "BadLetters")) = some false := of_decide_eq_true (E.c.d.fact 76 (f := .exm "BadPlaces" "BadLetters" false) rfl)
theorem m_BadPlaces_BadPlaces (E : Ctx K mg) : PySem.W.exmOne K (.ref (ga K "BadPlaces")) (.ref (ga K "BadPlaces")) = some true := of_decide_eq_true (E.c.d.fact 77 (f := .exm "BadPlaces" "BadPlaces" true) rfl)
theorem m_BadPlaces_BadWord (E : Ctx K mg) : PySem.W.exmOne K (.ref (ga K "BadPlaces")) (.ref (ga K "BadWord")) = some false := of_decide_eq_true (E.c.d.fact 78 (f := .exm "BadPlaces" "BadWord" false) rfl)
theorem m_BadWord_BadHeap (E : Ctx K mg) : PySem.W.exmOne K (.ref (ga K "BadWord")) (.ref (ga K "BadHeap")) = some false := of_decide_eq_true (E.c.d.fact 79 (f := .exm "BadWord" "BadHeap" false) rfl)
theorem m_BadWord_BadLetters (E : Ctx K mg) : PySem.W.exmOne K (.ref (ga K "BadWord")) (.ref (ga K "BadLetters")) = some false := of_decide_eq_true (E.c.d.fact 80 (f := .exm "BadWord" "BadLetters" false) rfl)
theorem m_BadWord_BadPlaces (E : Ctx K mg) : PySem.W.exmOne K (.ref (ga K "BadWord")) (.ref (ga K "BadPlaces")) = some false := of_decide_eq_true (E.c.d.fact 81 (f := .exm "BadWord" "BadPlaces" false) rfl)
theorem m_BadWord_BadWord (E : Ctx K mg) : PySem.W.exmOne K (.ref (ga K "BadWord")) (.ref (ga K "BadWord")) = some true := of_decide_eq_true (E.c.d.fact 82 (f := .exm "BadWord" "BadWord" true) rfl)
theorem f_is_whole (E : Ctx K mg) : ∃ fd, FunD K "is_whole" "is_whole" (defArgs s_is_whole) (defBody s_is_whole) (defScope s_is_whole) [] [] (ga K "is_whole") fd := E.c.d.def_ 0 (d := d_is_whole) rfl
theorem f_check_letters (E : Ctx K mg) : ∃ fd, FunD K "check_letters" "check_letters" (defArgs s_check_letters) (defBody s_check_letters) (defScope s_check_letters) [] [] (ga K "check_letters") fd := E.c.d.def_ 1 (d := d_check_letters) rfl
theorem f_check_heap (E : Ctx K mg) : ∃ fd, FunD K "check_heap" "check_heap" (defArgs s_check_heap) (defBody s_check_heap) (defScope s_check_heap) [] [] (ga K "check_heap") fd := E.c.d.def_ 2 (d := d_check_heap) rfl
theorem f_check_heaps (E : Ctx K mg) : ∃ fd, FunD K "check_heaps" "check_heaps" (defArgs s_check_heaps) (defBody s_check_heaps) (defScope s_check_heaps) [] [] (ga K "check_heaps") fd := E.c.d.def_ 3 (d := d_check_heaps) rfl
theorem f_check_places (E : Ctx K mg) : ∃ fd, FunD K "check_places" "check_places" (defArgs s_check_places) (defBody s_check_places) (defScope s_check_places) [] [] (ga K "check_places") fd := E.c.d.def_ 4 (d := d_check_places) rfl
theorem f__first_bad (E : Ctx K mg) : ∃ fd, FunD K "_first_bad" "_first_bad" (defArgs s__first_bad) (defBody s__first_bad) (defScope s__first_bad) [] [] (ga K "_first_bad") fd := E.c.d.def_ 5 (d := d__first_bad) rfl
theorem f_count_ones (E : Ctx K mg) : ∃ fd, FunD K "count_ones" "count_ones" (defArgs s_count_ones) (defBody s_count_ones) (defScope s_count_ones) [] [] (ga K "count_ones") fd := E.c.d.def_ 6 (d := d_count_ones) rfl
theorem f_parity_of (E : Ctx K mg) : ∃ fd, FunD K "parity_of" "parity_of" (defArgs s_parity_of) (defBody s_parity_of) (defScope s_parity_of) [] [] (ga K "parity_of") fd := E.c.d.def_ 7 (d := d_parity_of) rfl
theorem f_all_letters (E : Ctx K mg) : ∃ fd, FunD K "all_letters" "all_letters" (defArgs s_all_letters) (defBody s_all_letters) (defScope s_all_letters) [] [] (ga K "all_letters") fd := E.c.d.def_ 8 (d := d_all_letters) rfl
theorem f_all_heaps (E : Ctx K mg) : ∃ fd, FunD K "all_heaps" "all_heaps" (defArgs s_all_heaps) (defBody s_all_heaps) (defScope s_all_heaps) [] [] (ga K "all_heaps") fd := E.c.d.def_ 9 (d := d_all_heaps) rfl
theorem f_check_word (E : Ctx K mg) : ∃ fd, FunD K "check_word" "check_word" (defArgs s_check_word) (defBody s_check_word) (defScope s_check_word) [] [] (ga K "check_word") fd := E.c.d.def_ 10 (d := d_check_word) rfl
theorem f_full_word (E : Ctx K mg) : ∃ fd, FunD K "full_word" "full_word" (defArgs s_full_word) (defBody s_full_word) (defScope s_full_word) [] [] (ga K "full_word") fd := E.c.d.def_ 11 (d := d_full_word) rfl
theorem f_word_of (E : Ctx K mg) : ∃ fd, FunD K "word_of" "word_of" (defArgs s_word_of) (defBody s_word_of) (defScope s_word_of) [] [] (ga K "word_of") fd := E.c.d.def_ 12 (d := d_word_of) rfl
theorem f_heap_word (E : Ctx K mg) : ∃ fd, FunD K "heap_word" "heap_word" (defArgs s_heap_word) (defBody s_heap_word) (defScope s_heap_word) [] [] (ga K "heap_word") fd := E.c.d.def_ 13 (d := d_heap_word) rfl
theorem f_heaps_of (E : Ctx K mg) : ∃ fd, FunD K "heaps_of" "heaps_of" (defArgs s_heaps_of) (defBody s_heaps_of) (defScope s_heaps_of) [] [] (ga K "heaps_of") fd := E.c.d.def_ 14 (d := d_heaps_of) rfl
theorem f__stepped (E : Ctx K mg) : ∃ fd, FunD K "_stepped" "_stepped" (defArgs s__stepped) (defBody s__stepped) (defScope s__stepped) [] [] (ga K "_stepped") fd := E.c.d.def_ 15 (d := d__stepped) rfl
theorem f__marks (E : Ctx K mg) : ∃ fd, FunD K "_marks" "_marks" (defArgs s__marks) (defBody s__marks) (defScope s__marks) [] [] (ga K "_marks") fd := E.c.d.def_ 16 (d := d__marks) rfl
theorem f_places_of (E : Ctx K mg) : ∃ fd, FunD K "places_of" "places_of" (defArgs s_places_of) (defBody s_places_of) (defScope s_places_of) [] [] (ga K "places_of") fd := E.c.d.def_ 17 (d := d_places_of) rfl
theorem f_marked_word (E : Ctx K mg) : ∃ fd, FunD K "marked_word" "marked_word" (defArgs s_marked_word) (defBody s_marked_word) (defScope s_marked_word) [] [] (ga K "marked_word") fd := E.c.d.def_ 18 (d := d_marked_word) rfl
theorem f_weight_of (E : Ctx K mg) : ∃ fd, FunD K "weight_of" "weight_of" (defArgs s_weight_of) (defBody s_weight_of) (defScope s_weight_of) [] [] (ga K "weight_of") fd := E.c.d.def_ 19 (d := d_weight_of) rfl
theorem f_value_at (E : Ctx K mg) : ∃ fd, FunD K "value_at" "value_at" (defArgs s_value_at) (defBody s_value_at) (defScope s_value_at) [] [] (ga K "value_at") fd := E.c.d.def_ 20 (d := d_value_at) rfl
theorem f_meets_evenly (E : Ctx K mg) : ∃ fd, FunD K "meets_evenly" "meets_evenly" (defArgs s_meets_evenly) (defBody s_meets_evenly) (defScope s_meets_evenly) [] [] (ga K "meets_evenly") fd := E.c.d.def_ 21 (d := d_meets_evenly) rfl
theorem f__law_mix (E : Ctx K mg) : ∃ fd, FunD K "_law_mix" "_law_mix" (defArgs s__law_mix) (defBody s__law_mix) (defScope s__law_mix) [] [] (ga K "_law_mix") fd := E.c.d.def_ 22 (d := d__law_mix) rfl
theorem f__law_hand (E : Ctx K mg) : ∃ fd, FunD K "_law_hand" "_law_hand" (defArgs s__law_hand) (defBody s__law_hand) (defScope s__law_hand) [] [] (ga K "_law_hand") fd := E.c.d.def_ 23 (d := d__law_hand) rfl
theorem f__law_draw (E : Ctx K mg) : ∃ fd, FunD K "_law_draw" "_law_draw" (defArgs s__law_draw) (defBody s__law_draw) (defScope s__law_draw) [] [] (ga K "_law_draw") fd := E.c.d.def_ 24 (d := d__law_draw) rfl
theorem f__law_wide (E : Ctx K mg) : ∃ fd, FunD K "_law_wide" "_law_wide" (defArgs s__law_wide) (defBody s__law_wide) (defScope s__law_wide) [] [] (ga K "_law_wide") fd := E.c.d.def_ 25 (d := d__law_wide) rfl
theorem f__law_letters (E : Ctx K mg) : ∃ fd, FunD K "_law_letters" "_law_letters" (defArgs s__law_letters) (defBody s__law_letters) (defScope s__law_letters) [] [] (ga K "_law_letters") fd := E.c.d.def_ 26 (d := d__law_letters) rfl
theorem f__law_is_int (E : Ctx K mg) : ∃ fd, FunD K "_law_is_int" "_law_is_int" (defArgs s__law_is_int) (defBody s__law_is_int) (defScope s__law_is_int) [] [] (ga K "_law_is_int") fd := E.c.d.def_ 27 (d := d__law_is_int) rfl
theorem f__law_is_row (E : Ctx K mg) : ∃ fd, FunD K "_law_is_row" "_law_is_row" (defArgs s__law_is_row) (defBody s__law_is_row) (defScope s__law_is_row) [] [] (ga K "_law_is_row") fd := E.c.d.def_ 28 (d := d__law_is_row) rfl
theorem f__law_ones (E : Ctx K mg) : ∃ fd, FunD K "_law_ones" "_law_ones" (defArgs s__law_ones) (defBody s__law_ones) (defScope s__law_ones) [] [] (ga K "_law_ones") fd := E.c.d.def_ 29 (d := d__law_ones) rfl
theorem f__law_heap_word (E : Ctx K mg) : ∃ fd, FunD K "_law_heap_word" "_law_heap_word" (defArgs s__law_heap_word) (defBody s__law_heap_word) (defScope s__law_heap_word) [] [] (ga K "_law_heap_word") fd := E.c.d.def_ 30 (d := d__law_heap_word) rfl
theorem f__law_sum (E : Ctx K mg) : ∃ fd, FunD K "_law_sum" "_law_sum" (defArgs s__law_sum) (defBody s__law_sum) (defScope s__law_sum) [] [] (ga K "_law_sum") fd := E.c.d.def_ 31 (d := d__law_sum) rfl
theorem f__law_heaps_of (E : Ctx K mg) : ∃ fd, FunD K "_law_heaps_of" "_law_heaps_of" (defArgs s__law_heaps_of) (defBody s__law_heaps_of) (defScope s__law_heaps_of) [] [] (ga K "_law_heaps_of") fd := E.c.d.def_ 32 (d := d__law_heaps_of) rfl
theorem f__law_any_word (E : Ctx K mg) : ∃ fd, FunD K "_law_any_word" "_law_any_word" (defArgs s__law_any_word) (defBody s__law_any_word) (defScope s__law_any_word) [] [] (ga K "_law_any_word") fd := E.c.d.def_ 33 (d := d__law_any_word) rfl
theorem f__law_mark (E : Ctx K mg) : ∃ fd, FunD K "_law_mark" "_law_mark" (defArgs s__law_mark) (defBody s__law_mark) (defScope s__law_mark) [] [] (ga K "_law_mark") fd := E.c.d.def_ 34 (d := d__law_mark) rfl
theorem f__law_odd (E : Ctx K mg) : ∃ fd, FunD K "_law_odd" "_law_odd" (defArgs s__law_odd) (defBody s__law_odd) (defScope s__law_odd) [] [] (ga K "_law_odd") fd := E.c.d.def_ 35 (d := d__law_odd) rfl
theorem f__law_heap_list (E : Ctx K mg) : ∃ fd, FunD K "_law_heap_list" "_law_heap_list" (defArgs s__law_heap_list) (defBody s__law_heap_list) (defScope s__law_heap_list) [] [] (ga K "_law_heap_list") fd := E.c.d.def_ 36 (d := d__law_heap_list) rfl
theorem f__law_unique (E : Ctx K mg) : ∃ fd, FunD K "_law_unique" "_law_unique" (defArgs s__law_unique) (defBody s__law_unique) (defScope s__law_unique) [] [] (ga K "_law_unique") fd := E.c.d.def_ 37 (d := d__law_unique) rfl
theorem f__law_either (E : Ctx K mg) : ∃ fd, FunD K "_law_either" "_law_either" (defArgs s__law_either) (defBody s__law_either) (defScope s__law_either) [] [] (ga K "_law_either") fd := E.c.d.def_ 38 (d := d__law_either) rfl
theorem f__law_word_right (E : Ctx K mg) : ∃ fd, FunD K "_law_word_right" "_law_word_right" (defArgs s__law_word_right) (defBody s__law_word_right) (defScope s__law_word_right) [] [] (ga K "_law_word_right") fd := E.c.d.def_ 39 (d := d__law_word_right) rfl
theorem f__law_asked (E : Ctx K mg) : ∃ fd, FunD K "_law_asked" "_law_asked" (defArgs s__law_asked) (defBody s__law_asked) (defScope s__law_asked) [] [] (ga K "_law_asked") fd := E.c.d.def_ 40 (d := d__law_asked) rfl
theorem f__law_refused (E : Ctx K mg) : ∃ fd, FunD K "_law_refused" "_law_refused" (defArgs s__law_refused) (defBody s__law_refused) (defScope s__law_refused) [] [] (ga K "_law_refused") fd := E.c.d.def_ 41 (d := d__law_refused) rfl
theorem f_law (E : Ctx K mg) : ∃ fd, FunD K "law" "law" (defArgs s_law) (defBody s_law) (defScope s_law) [] [] (ga K "law") fd := E.c.d.def_ 42 (d := d_law) rfl
theorem f_BadHeap___init__ (E : Ctx K mg) : ∃ fd, FunD K "__init__" "BadHeap.__init__" (defArgs s_BadHeap___init__) (defBody s_BadHeap___init__) (defScope s_BadHeap___init__) [] [] (ma K (ga K "BadHeap") "__init__") fd := E.c.d.def_ 43 (d := d_BadHeap___init__) rfl
theorem f_BadPlaces___init__ (E : Ctx K mg) : ∃ fd, FunD K "__init__" "BadPlaces.__init__" (defArgs s_BadPlaces___init__) (defBody s_BadPlaces___init__) (defScope s_BadPlaces___init__) [] [] (ma K (ga K "BadPlaces") "__init__") fd := E.c.d.def_ 44 (d := d_BadPlaces___init__) rfl
theorem f_BadWord___init__ (E : Ctx K mg) : ∃ fd, FunD K "__init__" "BadWord.__init__" (defArgs s_BadWord___init__) (defBody s_BadWord___init__) (defScope s_BadWord___init__) [] [] (ma K (ga K "BadWord") "__init__") fd := E.c.d.def_ 45 (d := d_BadWord___init__) rfl
theorem t_WITHOUT_LETTER (E : Ctx K mg) (H : Hp) : SqT K H (ga K "WITHOUT_LETTER") (([1431655765, 858993459, 252645135, 16711935, 65535] : List Int).map V.int) := tupB_ok ((ba (ba (ba E.c.x).2).2).2) (by decide) H
theorem x_BadHeap (E : Ctx K mg) : ExcT K "BadHeap" ["index"] := excB_ok ((ba E.c.x).1)
abbrev N_BadHeap___init__ : List Str := ["self", "index"]
theorem sc_BadHeap___init__ : FnScope N_BadHeap___init__ ["self", "index"] (defScope s_BadHeap___init__) := ⟨rfl, rfl, rfl, by decide +kernel, rfl, by decide +kernel, by decide +kernel⟩
theorem i_BadHeap (E : Ctx K mg) : ExI P w K mg base 1 "BadHeap" ["index"] ["self", "index"] (spIni1 K "BadHeap" "index") := by
  obtain ⟨fd, F⟩ := f_BadHeap___init__ E
  refine ⟨g_BadHeap E, x_BadHeap E, fd, ?_, F.bindsN fun _ _ _ _ _ _ us hl => match us, hl with | [_, _], _ => rfl⟩
  refine F.ok sc_BadHeap___init__ (fun vs H Q E h => ?_) (fun cdv A outer s H vs Q E' hr h => ⟨_, PSs.nox (pss_one (ps_ost (pv 0) (pv 1))), ?_⟩)
  · obtain ⟨a, v, rfl, _⟩ := h
    rfl
  · obtain ⟨a, v, rfl, ha, q⟩ := h
    exact ⟨_, rfl, _, rfl, a, ga K "BadHeap", rfl, (x_BadHeap E).o, (x_BadHeap E).n _ (by decide), .inl ⟨ha, fun d hd ne => q d hd ne⟩⟩
theorem x_BadPlaces (E : Ctx K mg) : ExcT K "BadPlaces" ["index"] := excB_ok ((ba (ba E.c.x).2).1)
abbrev N_BadPlaces___init__ : List Str := ["self", "index"]
theorem sc_BadPlaces___init__ : FnScope N_BadPlaces___init__ ["self", "index"] (defScope s_BadPlaces___init__) := ⟨rfl, rfl, rfl, by decide +kernel, rfl, by decide +kernel, by decide +kernel⟩
theorem i_BadPlaces (E : Ctx K mg) : ExI P w K mg base 1 "BadPlaces" ["index"] ["self", "index"] (spIni1 K "BadPlaces" "index") := by
  obtain ⟨fd, F⟩ := f_BadPlaces___init__ E
  refine ⟨g_BadPlaces E, x_BadPlaces E, fd, ?_, F.bindsN fun _ _ _ _ _ _ us hl => match us, hl with | [_, _], _ => rfl⟩
  refine F.ok sc_BadPlaces___init__ (fun vs H Q E h => ?_) (fun cdv A outer s H vs Q E' hr h => ⟨_, PSs.nox (pss_one (ps_ost (pv 0) (pv 1))), ?_⟩)
  · obtain ⟨a, v, rfl, _⟩ := h
    rfl
  · obtain ⟨a, v, rfl, ha, q⟩ := h
    exact ⟨_, rfl, _, rfl, a, ga K "BadPlaces", rfl, (x_BadPlaces E).o, (x_BadPlaces E).n _ (by decide), .inl ⟨ha, fun d hd ne => q d hd ne⟩⟩
theorem x_BadWord (E : Ctx K mg) : ExcT K "BadWord" ["index"] := excB_ok ((ba (ba (ba E.c.x).2).2).1)
abbrev N_BadWord___init__ : List Str := ["self", "index"]
theorem sc_BadWord___init__ : FnScope N_BadWord___init__ ["self", "index"] (defScope s_BadWord___init__) := ⟨rfl, rfl, rfl, by decide +kernel, rfl, by decide +kernel, by decide +kernel⟩
theorem i_BadWord (E : Ctx K mg) : ExI P w K mg base 1 "BadWord" ["index"] ["self", "index"] (spIni1 K "BadWord" "index") := by
  obtain ⟨fd, F⟩ := f_BadWord___init__ E
  refine ⟨g_BadWord E, x_BadWord E, fd, ?_, F.bindsN fun _ _ _ _ _ _ us hl => match us, hl with | [_, _], _ => rfl⟩
  refine F.ok sc_BadWord___init__ (fun vs H Q E h => ?_) (fun cdv A outer s H vs Q E' hr h => ⟨_, PSs.nox (pss_one (ps_ost (pv 0) (pv 1))), ?_⟩)
  · obtain ⟨a, v, rfl, _⟩ := h
    rfl
  · obtain ⟨a, v, rfl, ha, q⟩ := h
    exact ⟨_, rfl, _, rfl, a, ga K "BadWord", rfl, (x_BadWord E).o, (x_BadWord E).n _ (by decide), .inl ⟨ha, fun d hd ne => q d hd ne⟩⟩
end
abbrev N_is_whole : List Str := ["thing", "low", "high"]
theorem sc_is_whole : FnScope N_is_whole ["thing", "low", "high"] (defScope s_is_whole) := ⟨rfl, rfl, rfl, by decide +kernel, rfl, by decide +kernel, by decide +kernel⟩
abbrev N_check_letters : List Str := ["letters"]
theorem sc_check_letters : FnScope N_check_letters ["letters"] (defScope s_check_letters) := ⟨rfl, rfl, rfl, by decide +kernel, rfl, by decide +kernel, by decide +kernel⟩
abbrev N_check_heap : List Str := ["letters", "heap"]
theorem sc_check_heap : FnScope N_check_heap ["letters", "heap"] (defScope s_check_heap) := ⟨rfl, rfl, rfl, by decide +kernel, rfl, by decide +kernel, by decide +kernel⟩
abbrev N_check_heaps : List Str := ["letters", "heaps", "bad"]
theorem sc_check_heaps : FnScope N_check_heaps ["letters", "heaps"] (defScope s_check_heaps) := ⟨rfl, rfl, rfl, by decide +kernel, rfl, by decide +kernel, by decide +kernel⟩
abbrev N_check_places : List Str := ["letters", "places", "bad"]
theorem sc_check_places : FnScope N_check_places ["letters", "places"] (defScope s_check_places) := ⟨rfl, rfl, rfl, by decide +kernel, rfl, by decide +kernel, by decide +kernel⟩
abbrev N__first_bad : List Str := ["most", "things", "index", "thing"]
theorem sc__first_bad : FnScope N__first_bad ["most", "things"] (defScope s__first_bad) := ⟨rfl, rfl, rfl, by decide +kernel, rfl, by decide +kernel, by decide +kernel⟩
abbrev N_count_ones : List Str := ["number", "digits"]
theorem sc_count_ones : FnScope N_count_ones ["number"] (defScope s_count_ones) := ⟨rfl, rfl, rfl, by decide +kernel, rfl, by decide +kernel, by decide +kernel⟩
abbrev N_parity_of : List Str := ["number"]
theorem sc_parity_of : FnScope N_parity_of ["number"] (defScope s_parity_of) := ⟨rfl, rfl, rfl, by decide +kernel, rfl, by decide +kernel, by decide +kernel⟩
abbrev N_all_letters : List Str := ["letters"]
theorem sc_all_letters : FnScope N_all_letters ["letters"] (defScope s_all_letters) := ⟨rfl, rfl, rfl, by decide +kernel, rfl, by decide +kernel, by decide +kernel⟩
abbrev N_all_heaps : List Str := ["letters"]
theorem sc_all_heaps : FnScope N_all_heaps ["letters"] (defScope s_all_heaps) := ⟨rfl, rfl, rfl, by decide +kernel, rfl, by decide +kernel, by decide +kernel⟩
abbrev N_check_word : List Str := ["letters", "word"]
theorem sc_check_word : FnScope N_check_word ["letters", "word"] (defScope s_check_word) := ⟨rfl, rfl, rfl, by decide +kernel, rfl, by decide +kernel, by decide +kernel⟩
abbrev N_full_word : List Str := ["letters"]
theorem sc_full_word : FnScope N_full_word ["letters"] (defScope s_full_word) := ⟨rfl, rfl, rfl, by decide +kernel, rfl, by decide +kernel, by decide +kernel⟩
abbrev N_word_of : List Str := ["letters", "heaps"]
theorem sc_word_of : FnScope N_word_of ["letters", "heaps"] (defScope s_word_of) := ⟨rfl, rfl, rfl, by decide +kernel, rfl, by decide +kernel, by decide +kernel⟩
abbrev N_heap_word : List Str := ["letters", "heap"]
theorem sc_heap_word : FnScope N_heap_word ["letters", "heap"] (defScope s_heap_word) := ⟨rfl, rfl, rfl, by decide +kernel, rfl, by decide +kernel, by decide +kernel⟩
abbrev N_heaps_of : List Str := ["letters", "word"]
theorem sc_heaps_of : FnScope N_heaps_of ["letters", "word"] (defScope s_heaps_of) := ⟨rfl, rfl, rfl, by decide +kernel, rfl, by decide +kernel, by decide +kernel⟩
abbrev N__stepped : List Str := ["letters", "number", "letter"]
theorem sc__stepped : FnScope N__stepped ["letters", "number"] (defScope s__stepped) := ⟨rfl, rfl, rfl, by decide +kernel, rfl, by decide +kernel, by decide +kernel⟩
abbrev N__marks : List Str := ["places", "place"]
theorem sc__marks : FnScope N__marks ["places"] (defScope s__marks) := ⟨rfl, rfl, rfl, by decide +kernel, rfl, by decide +kernel, by decide +kernel⟩
abbrev N_places_of : List Str := ["letters", "word", "place"]
theorem sc_places_of : FnScope N_places_of ["letters", "word"] (defScope s_places_of) := ⟨rfl, rfl, rfl, by decide +kernel, rfl, by decide +kernel, by decide +kernel⟩
abbrev N_marked_word : List Str := ["letters", "places"]
theorem sc_marked_word : FnScope N_marked_word ["letters", "places"] (defScope s_marked_word) := ⟨rfl, rfl, rfl, by decide +kernel, rfl, by decide +kernel, by decide +kernel⟩
abbrev N_weight_of : List Str := ["letters", "word"]
theorem sc_weight_of : FnScope N_weight_of ["letters", "word"] (defScope s_weight_of) := ⟨rfl, rfl, rfl, by decide +kernel, rfl, by decide +kernel, by decide +kernel⟩
abbrev N_value_at : List Str := ["letters", "word", "place"]
theorem sc_value_at : FnScope N_value_at ["letters", "word", "place"] (defScope s_value_at) := ⟨rfl, rfl, rfl, by decide +kernel, rfl, by decide +kernel, by decide +kernel⟩
abbrev N_meets_evenly : List Str := ["letters", "word", "other"]
theorem sc_meets_evenly : FnScope N_meets_evenly ["letters", "word", "other"] (defScope s_meets_evenly) := ⟨rfl, rfl, rfl, by decide +kernel, rfl, by decide +kernel, by decide +kernel⟩
abbrev N__law_mix : List Str := ["_law_number", "_law_turn", "_law_once", "_law_twice"]
theorem sc__law_mix : FnScope N__law_mix ["_law_number", "_law_turn"] (defScope s__law_mix) := ⟨rfl, rfl, rfl, by decide +kernel, rfl, by decide +kernel, by decide +kernel⟩
abbrev N__law_hand : List Str := ["_law_script", "_law_total", "_law_at", "_law_cell"]
theorem sc__law_hand : FnScope N__law_hand ["_law_script"] (defScope s__law_hand) := ⟨rfl, rfl, rfl, by decide +kernel, rfl, by decide +kernel, by decide +kernel⟩
abbrev N__law_draw : List Str := ["_law_hand_here", "_law_many", "_law_cell", "_law_rest"]
theorem sc__law_draw : FnScope N__law_draw ["_law_hand_here", "_law_many"] (defScope s__law_draw) := ⟨rfl, rfl, rfl, by decide +kernel, rfl, by decide +kernel, by decide +kernel⟩
abbrev N__law_wide : List Str := ["_law_hand_here", "_law_bits", "_law_number", "_law_k"]
theorem sc__law_wide : FnScope N__law_wide ["_law_hand_here", "_law_bits"] (defScope s__law_wide) := ⟨rfl, rfl, rfl, by decide +kernel, rfl, by decide +kernel, by decide +kernel⟩
abbrev N__law_letters : List Str := ["_law_hand_here"]
theorem sc__law_letters : FnScope N__law_letters ["_law_hand_here"] (defScope s__law_letters) := ⟨rfl, rfl, rfl, by decide +kernel, rfl, by decide +kernel, by decide +kernel⟩
abbrev N__law_is_int : List Str := ["_law_thing", "_law_low", "_law_high"]
theorem sc__law_is_int : FnScope N__law_is_int ["_law_thing", "_law_low", "_law_high"] (defScope s__law_is_int) := ⟨rfl, rfl, rfl, by decide +kernel, rfl, by decide +kernel, by decide +kernel⟩
abbrev N__law_is_row : List Str := ["_law_thing", "_law_high", "_law_last", "_law_item"]
theorem sc__law_is_row : FnScope N__law_is_row ["_law_thing", "_law_high"] (defScope s__law_is_row) := ⟨rfl, rfl, rfl, by decide +kernel, rfl, by decide +kernel, by decide +kernel⟩
abbrev N__law_ones : List Str := ["_law_number", "_law_many"]
theorem sc__law_ones : FnScope N__law_ones ["_law_number"] (defScope s__law_ones) := ⟨rfl, rfl, rfl, by decide +kernel, rfl, by decide +kernel, by decide +kernel⟩
abbrev N__law_heap_word : List Str := ["_law_m", "_law_heap", "_law_word", "_law_place"]
theorem sc__law_heap_word : FnScope N__law_heap_word ["_law_m", "_law_heap"] (defScope s__law_heap_word) := ⟨rfl, rfl, rfl, by decide +kernel, rfl, by decide +kernel, by decide +kernel⟩
abbrev N__law_sum : List Str := ["_law_m", "_law_heaps", "_law_word", "_law_heap"]
theorem sc__law_sum : FnScope N__law_sum ["_law_m", "_law_heaps"] (defScope s__law_sum) := ⟨rfl, rfl, rfl, by decide +kernel, rfl, by decide +kernel, by decide +kernel⟩
abbrev N__law_heaps_of : List Str := ["_law_m", "_law_word", "_law_found", "_law_heap", "_law_odd_here", "_law_place"]
theorem sc__law_heaps_of : FnScope N__law_heaps_of ["_law_m", "_law_word"] (defScope s__law_heaps_of) := ⟨rfl, rfl, rfl, by decide +kernel, rfl, by decide +kernel, by decide +kernel⟩
abbrev N__law_any_word : List Str := ["_law_hand_here", "_law_m"]
theorem sc__law_any_word : FnScope N__law_any_word ["_law_hand_here", "_law_m"] (defScope s__law_any_word) := ⟨rfl, rfl, rfl, by decide +kernel, rfl, by decide +kernel, by decide +kernel⟩
abbrev N__law_mark : List Str := ["_law_places", "_law_word", "_law_place"]
theorem sc__law_mark : FnScope N__law_mark ["_law_places"] (defScope s__law_mark) := ⟨rfl, rfl, rfl, by decide +kernel, rfl, by decide +kernel, by decide +kernel⟩
abbrev N__law_odd : List Str := ["_law_hand_here", "_law_low", "_law_high", "_law_turn"]
theorem sc__law_odd : FnScope N__law_odd ["_law_hand_here", "_law_low", "_law_high"] (defScope s__law_odd) := ⟨rfl, rfl, rfl, by decide +kernel, rfl, by decide +kernel, by decide +kernel⟩
abbrev N__law_heap_list : List Str := ["_law_hand_here", "_law_m", "_law_many", "_law_rows", "_law_k"]
theorem sc__law_heap_list : FnScope N__law_heap_list ["_law_hand_here", "_law_m", "_law_many"] (defScope s__law_heap_list) := ⟨rfl, rfl, rfl, by decide +kernel, rfl, by decide +kernel, by decide +kernel⟩
abbrev N__law_unique : List Str := ["_law_rows", "_law_found", "_law_row"]
theorem sc__law_unique : FnScope N__law_unique ["_law_rows"] (defScope s__law_unique) := ⟨rfl, rfl, rfl, by decide +kernel, rfl, by decide +kernel, by decide +kernel⟩
abbrev N__law_either : List Str := ["_law_hand_here", "_law_rows"]
theorem sc__law_either : FnScope N__law_either ["_law_hand_here", "_law_rows"] (defScope s__law_either) := ⟨rfl, rfl, rfl, by decide +kernel, rfl, by decide +kernel, by decide +kernel⟩
abbrev N__law_word_right : List Str := ["_law_m", "_law_word", "_law_heaps", "_law_told", "_law_places", "_law_place"]
theorem sc__law_word_right : FnScope N__law_word_right ["_law_m", "_law_word"] (defScope s__law_word_right) := ⟨rfl, rfl, rfl, by decide +kernel, rfl, by decide +kernel, by decide +kernel⟩
abbrev N__law_asked : List Str := ["_law_turn", "_law_m", "_law_thing", "_law_word", "e"]
theorem sc__law_asked : FnScope N__law_asked ["_law_turn", "_law_m", "_law_thing", "_law_word"] (defScope s__law_asked) := ⟨rfl, rfl, rfl, by decide +kernel, rfl, by decide +kernel, by decide +kernel⟩
abbrev N__law_refused : List Str := ["_law_hand_here", "_law_m", "_law_word", "_law_high", "_law_turn", "_law_dues", "_law_bad"]
theorem sc__law_refused : FnScope N__law_refused ["_law_hand_here", "_law_m", "_law_word"] (defScope s__law_refused) := ⟨rfl, rfl, rfl, by decide +kernel, rfl, by decide +kernel, by decide +kernel⟩
abbrev N_law : List Str := ["_law_script", "_law_hand_here", "_law_m", "_law_word", "_law_other", "_law_rows", "_law_things", "_law_made", "_law_spots", "_law_heap", "_law_one", "_law_two", "_law_even", "_law_values", "_law_small", "_law_told", "_law_place", "_law_value"]
theorem sc_law : FnScope N_law ["_law_script"] (defScope s_law) := ⟨rfl, rfl, rfl, by decide +kernel, rfl, by decide +kernel, by decide +kernel⟩
end Lw

set_option Elab.async false
set_option linter.all false
set_option maxRecDepth 100000
set_option maxHeartbeats 4000000
namespace Lw
open PySem PySem.Spec PyProof.Rows L2 He Evl StX
local macro_rules | `(tactic| walk_at "rd") => `(tactic| (repeat first
  | with_reducible refine rd_seq ?_
  | with_reducible refine rd_asg ?_
  | with_reducible refine rd_ret ?_
  | with_reducible refine rd_next ?_
  | with_reducible refine rd_drop ?_
  | with_reducible refine rd_if ?_
  | with_reducible refine rd_ifE ?_
  | ((with_reducible refine' rd_var ?hv ?_); (case hv => rfl))
  | with_reducible refine rd_c ?_
  | with_reducible refine rd_op ?_
  | with_reducible refine rd_chain ?_
  | with_reducible refine rd_I0 ?_
  | with_reducible refine rd_test ?_
  | with_reducible refine rd_B ?_
  | with_reducible refine rd_bl ?_
  | with_reducible refine rd_not ?_
  | with_reducible refine rd_and ?_
  | with_reducible refine rd_or ?_
  | with_reducible refine rd_andV ?_
  | with_reducible refine rd_orV ?_
  | with_reducible refine rd_notV ?_
  | with_reducible refine rd_cons ?_
  | with_reducible refine rd_nil ?_
  | with_reducible refine rd_CB ?_
  | with_reducible refine rd_callS ?_
  | with_reducible refine rd_raise0 ?_
  | with_reducible refine rd_raise1 ?_
  | with_reducible refine rd_raise2 ?_
  | ((with_reducible refine' rd_eq ?hs ?_); (case hs => rfl))
  | ((with_reducible refine' rd_ne ?hs ?_); (case hs => rfl))
  | ((with_reducible refine' rd_isT ?th ?hT ?_); (case th => assumption); (case hT => decide))
  | with_reducible refine rd_tup ?_
  | with_reducible refine rd_lst ?_
  | with_reducible refine rd_iEnum ?_
  | with_reducible refine rd_iEnumA ?_
  | ((with_reducible refine' rd_ixl ?hl ?hk ?_); (case hl => assumption); (case hk => rfl))
  | with_reducible refine rd_int1 ?_
  | with_reducible refine rd_sub ?_
  | with_reducible refine rd_gcons ?_
  | with_reducible refine rd_gnil ?_
  | with_reducible refine rd_iZip ?_
  | with_reducible refine rd_BM ?_
  | with_reducible refine rd_neg ?_
  | ((with_reducible refine' rd_last ?hl ?_); (case hl => assumption))
  | with_reducible refine rd_lc2 ?_
  | with_reducible refine rd_Rg1 ?_
  | with_reducible refine rd_tupRg ?_
  | with_reducible refine rd_sl ?_
  | with_reducible refine rd_noPart ?_
  | with_reducible refine rd_part ?_
  | with_reducible refine rd_for ?_
  | with_reducible refine rd_iRev ?_
  | with_reducible refine rd_gname ?_
  | with_reducible refine rd_NN ?_
  | with_reducible refine rd_NL ?_
  | with_reducible refine rd_LN ?_
  | ((with_reducible refine' rd_shl1 ?hs ?_); (case hs => omega))
  | ((with_reducible refine' rd_I ?hs ?_); (case hs => first | omega | decide | exact ⟨by decide, by decide, by decide⟩ | exact ⟨by omega, by omega⟩))
  | with_reducible refine rd_tr ?_
  | with_reducible refine rd_trI ?_
  | with_reducible refine rd_star ?_
  | with_reducible refine rd_fmtB ?_
  | with_reducible refine rd_M1 ?_
  | with_reducible refine rd_un ?_
  | with_reducible refine rd_lc ?_
  | with_reducible refine rd_iT ?_
  | with_reducible refine rd_iL ?_
  | with_reducible refine rd_iR1 ?_
  | with_reducible refine rd_iR2 ?_
  | dsimp only [List.set, start]))
section
variable {P : Program} {w : World} {K : PySem.W.Frag} {mg : Str → Option Value} {base : Heap}

def Chk (b : Bool) (A B : Prop) : Prop := (b = true → A) ∧ (b = false → B)
def Let (K : PySem.W.Frag) (l : V) (E : XK) (H : Hp) (A : Nat → Prop) : Prop := Thg K H l ∧ (wholeV 1 5 l = false → Er0 K "BadLetters" E H) ∧ ∀ m : Nat, l = .int m → 1 ≤ m → m ≤ 5 → A m
theorem whole_nat {lo hi : Int} {x : V} (h : wholeV lo hi x = true) (h0 : 0 ≤ lo) : ∃ n : Nat, x = .int n ∧ lo ≤ n ∧ (n : Int) ≤ hi := by
  cases x with
  | int i =>
    have h2 : (decide (lo ≤ i) && decide (i ≤ hi)) = true := h
    simp only [Bool.and_eq_true, decide_eq_true_eq] at h2
    exact ⟨i.toNat, by rw [Int.toNat_of_nonneg (by omega)], by omega, by omega⟩
  | _ => cases h
theorem whole_of {lo hi : Int} {n : Nat} (h1 : lo ≤ n) (h2 : (n : Int) ≤ hi) : wholeV lo hi (.int n) = true := by
  show (decide (lo ≤ (n : Int)) && decide ((n : Int) ≤ hi)) = true
  simp [h1, h2]
theorem not_true {b : Bool} (h : (!b) = true) : b = false := by cases b <;> simp_all
theorem not_false {b : Bool} (h : (!b) = false) : b = true := by cases b <;> simp_all
def RetT (H : Hp) (Q : VK) (ns : List Int) : Prop := ∀ p H', H p = none → Ex H H' → H' p = some (.tup (ns.map V.int)) → Q (.ref p) H'
def spWhole (K : PySem.W.Frag) : Sp := fun vs H Q _ => ∃ (x : V) (lo hi : Int), vs = [x, .int lo, .int hi] ∧ Thg K H x ∧ Q (.bl (wholeV lo hi x)) H
theorem h_is_whole (E : Ctx K mg) : Has P w K mg base 2 "is_whole" ["thing", "low", "high"] (spWhole K) := by
  obtain ⟨fd, F⟩ := f_is_whole E
  refine ⟨⟨fd, ?_, F.bindsN fun _ _ _ _ _ _ us hl => match us, hl with | [_, _, _], _ => rfl⟩, g_is_whole E, F.kp⟩
  refine F.ok sc_is_whole (fun vs H Q E' h => ?len) (fun cdv A outer s H vs Q E' hr h => ⟨_, (pss_one (ps_ret (pe_and (pe_callB (kc_isT (K := K) rfl) rfl (b_isinstance E) (by decide +kernel) (pa_cons (pv 0) (pa_cons (pe_bltn rfl (b_int E) (by decide +kernel) (v := .ty "int") rfl) pa_nil))) (pe_and (pe_not (pe_callB (kc_isT (K := K) rfl) rfl (b_isinstance E) (by decide +kernel) (pa_cons (pv 0) (pa_cons (pe_bltn rfl (b_bool E) (by decide +kernel) (v := .ty "bool") rfl) pa_nil)))) (pe_one (pe_chain op_le op_le (pv 1) (pv 0) (pv 2))))))), ?rd⟩)
  case len =>
    obtain ⟨x, lo, hi, rfl, _⟩ := h
    rfl
  case rd =>
    obtain ⟨x, lo, hi, rfl, ⟨n, th⟩, q⟩ := h
    walk_at "rd"
    rcases th_cases th with ⟨h1, h2, i, rfl⟩ | ⟨h1, h2⟩
    · refine ⟨fun _ => ?_, fun z => by rw [h1] at z; cases z⟩
      walk_at "rd"
      refine ⟨fun _ => ?_, fun z => by rw [h2] at z; cases z⟩
      walk_at "rd"
      have e : wholeV lo hi (.int i) = (decide (lo ≤ i) && decide (i ≤ hi)) := rfl
      exact ⟨fun z => by walk_at "rd"; rw [e, z, Bool.true_and] at q; exact q, fun z => by rw [e, z, Bool.false_and] at q; exact q⟩
    · refine ⟨fun z => ?_, fun z => by rw [h2] at q; exact q⟩
      walk_at "rd"
      rw [h2] at q
      refine ⟨fun z2 => ?_, fun _ => q⟩
      rcases h1 with h1 | h1
      · rw [h1] at z; cases z
      · rw [h1] at z2; cases z2
def spCheckLetters (K : PySem.W.Frag) : Sp := fun vs H Q E => ∃ l : V, vs = [l] ∧ Let K l E H fun m => Q (.int m) H
theorem h_check_letters (E : Ctx K mg) : Has P w K mg base 4 "check_letters" ["letters"] (spCheckLetters K) := by
  obtain ⟨fd, F⟩ := f_check_letters E
  refine ⟨⟨fd, ?_, F.bindsN fun _ _ _ _ _ _ us hl => match us, hl with | [_], _ => rfl⟩, g_check_letters E, F.kp⟩
  refine F.ok sc_check_letters (fun vs H Q E' h => ?len) (fun cdv A outer s H vs Q E' hr h => ⟨_, (pss_cons (ps_if (pt_not (pt_val (pe_H (h_is_whole E) (hr.mono (by decide)) (takes_of rfl rfl rfl rfl) (pa_cons (pv 0) (pa_cons pe_int (pa_cons (pe_glob (v := .int 5) rfl (k_MOST_LETTERS E).choose_spec ⟨_, rfl⟩) pa_nil))))))
 (pss_one (ps_raise0 rfl (takes_of rfl rfl rfl rfl) (x0_BadLetters E)))
 pss_nil)
 (pss_one (ps_ret (pv 0)))), ?rd⟩)
  case len =>
    obtain ⟨l, rfl, _⟩ := h
    rfl
  case rd =>
    obtain ⟨l, rfl, th, hb, hg⟩ := h
    walk_at "rd"
    refine ⟨l, 1, 5, rfl, th, ?_⟩
    walk_at "rd"
    refine ⟨fun z => ?_, fun z => ?_⟩
    · walk_at "rd"
      exact hb (not_true z)
    · walk_at "rd"
      obtain ⟨n, rfl, h1, h2⟩ := whole_nat (not_false z) (by decide)
      exact hg n rfl (by omega) (by omega)
def spAllLetters (K : PySem.W.Frag) : Sp := fun vs H Q E => ∃ l : V, vs = [l] ∧ Let K l E H fun m => Q (.int ((2 ^ m - 1 : Nat) : Int)) H
theorem h_all_letters (E : Ctx K mg) : Has P w K mg base 5 "all_letters" ["letters"] (spAllLetters K) := by
  obtain ⟨fd, F⟩ := f_all_letters E
  refine ⟨⟨fd, ?_, F.bindsN fun _ _ _ _ _ _ us hl => match us, hl with | [_], _ => rfl⟩, g_all_letters E, F.kp⟩
  refine F.ok sc_all_letters (fun vs H Q E' h => ?len) (fun cdv A outer s H vs Q E' hr h => ⟨_, (pss_one (ps_ret (pe_op op_sub (pe_op on_shl pe_int (pe_H (h_check_letters E) (hr.mono (by decide)) (takes_of rfl rfl rfl rfl) (pa_cons (pv 0) pa_nil))) pe_int))), ?rd⟩)
  case len =>
    obtain ⟨l, rfl, _⟩ := h
    rfl
  case rd =>
    obtain ⟨l, rfl, th, hb, hg⟩ := h
    walk_at "rd"
    refine ⟨l, rfl, th, hb, fun m e h1 h2 => ?_⟩
    obtain rfl := e
    walk_at "rd"
    have e2 : ((2 ^ m : Nat) : Int) - 1 = ((2 ^ m - 1 : Nat) : Int) := by
      rcases (show m = 1 ∨ m = 2 ∨ m = 3 ∨ m = 4 ∨ m = 5 by omega) with rfl | rfl | rfl | rfl | rfl <;> decide
    rw [e2]
    exact hg m rfl h1 h2
def spCheckHeap (K : PySem.W.Frag) : Sp := fun vs H Q E => ∃ l x : V, vs = [l, x] ∧ Thg K H x ∧ Let K l E H fun m => Chk (wholeV 0 ((2 ^ m - 1 : Nat) : Int) x) (Q x H) (Er K "BadHeap" [("index", .int 0)] E H)
theorem h_check_heap (E : Ctx K mg) : Has P w K mg base 6 "check_heap" ["letters", "heap"] (spCheckHeap K) := by
  obtain ⟨fd, F⟩ := f_check_heap E
  refine ⟨⟨fd, ?_, F.bindsN fun _ _ _ _ _ _ us hl => match us, hl with | [_, _], _ => rfl⟩, g_check_heap E, F.kp⟩
  refine F.ok sc_check_heap (fun vs H Q E' h => ?len) (fun cdv A outer s H vs Q E' hr h => ⟨_, (pss_cons (ps_if (pt_not (pt_val (pe_H (h_is_whole E) (hr.mono (by decide)) (takes_of rfl rfl rfl rfl) (pa_cons (pv 1) (pa_cons pe_int (pa_cons (pe_H (h_all_letters E) (hr.mono (by decide)) (takes_of rfl rfl rfl rfl) (pa_cons (pv 0) pa_nil)) pa_nil))))))
 (pss_one (ps_raise1 rfl (takes_of rfl rfl rfl rfl) (i_BadHeap E) (hr.mono (by decide)) pe_int))
 pss_nil)
 (pss_one (ps_ret (pv 1)))), ?rd⟩)
  case len =>
    obtain ⟨l, x, rfl, _⟩ := h
    rfl
  case rd =>
    obtain ⟨l, x, rfl, tx, th, hb, hg⟩ := h
    walk_at "rd"
    refine ⟨l, rfl, th, hb, fun m e h1 h2 => ?_⟩
    walk_at "rd"
    refine ⟨x, 0, _, rfl, tx, ?_⟩
    walk_at "rd"
    refine ⟨fun z => ?_, fun z => ?_⟩
    · walk_at "rd"
      exact rd_mk1 ((hg m e h1 h2).2 (not_true z))
    · walk_at "rd"
      exact (hg m e h1 h2).1 (not_false z)
def spOnes : Sp := fun vs H Q _ => ∃ n : Nat, vs = [.int n] ∧ n < 1606938044258990275541962092341162602522202993782792835301376 ∧ Q (.int (onesN n)) H
theorem h_count_ones (E : Ctx K mg) : Has P w K mg base 2 "count_ones" ["number"] (spOnes) := by
  obtain ⟨fd, F⟩ := f_count_ones E
  refine ⟨⟨fd, ?_, F.bindsN fun _ _ _ _ _ _ us hl => match us, hl with | [_], _ => rfl⟩, g_count_ones E, F.kp⟩
  refine F.ok sc_count_ones (fun vs H Q E' h => ?len) (fun cdv A outer s H vs Q E' hr h => ⟨_, (pss_cons (ps_set (i := 1) sc_count_ones.nd rfl (.inl rfl) (pe_fs1 (pe_fmtB (pv 0))))
 (pss_one (ps_ret (pe_m1 PySem.F.slot_str_count PySem.F.type_str_count mt_count (pv 1) pe_str)))), ?rd⟩)
  case len =>
    obtain ⟨l, rfl, _⟩ := h
    rfl
  case rd =>
    obtain ⟨n, rfl, hn, q⟩ := h
    walk_at "rd"
    refine ⟨n, rfl, Nat.le_trans (binL_len n (k := 200) (by decide) (by omega)) (by decide), ?_⟩
    walk_at "rd"
    refine ⟨⟨_, rfl⟩, ?_⟩
    walk_at "rd"
    refine ⟨_, _, rfl, rfl, ?_⟩
    rw [count_bin]
    exact q
theorem mod_test (a : Nat) : (a % 2 != 0) = (a % 2 == 1) := by
  rcases Nat.mod_two_eq_zero_or_one a with h | h <;> rw [h] <;> rfl
/-- the letters of a heap -/
def lets (n : Nat) : List Nat := (List.range 5).filter fun i => n / 2 ^ i % 2 == 1
def intsL (l : List Nat) : List Int := l.map fun (n : Nat) => (n : Int)

end
end Lw

set_option Elab.async false
set_option linter.all false
set_option maxRecDepth 100000
set_option maxHeartbeats 4000000
namespace Lw
open PySem PySem.Spec PyProof.Rows L2 He Evl StX
local macro_rules | `(tactic| walk_at "rd") => `(tactic| (repeat first
  | with_reducible refine rd_seq ?_
  | with_reducible refine rd_asg ?_
  | with_reducible refine rd_ret ?_
  | with_reducible refine rd_next ?_
  | with_reducible refine rd_drop ?_
  | with_reducible refine rd_if ?_
  | with_reducible refine rd_ifE ?_
  | ((with_reducible refine' rd_var ?hv ?_); (case hv => rfl))
  | with_reducible refine rd_c ?_
  | with_reducible refine rd_op ?_
  | with_reducible refine rd_chain ?_
  | with_reducible refine rd_I0 ?_
  | with_reducible refine rd_test ?_
  | with_reducible refine rd_B ?_
  | with_reducible refine rd_bl ?_
  | with_reducible refine rd_not ?_
  | with_reducible refine rd_and ?_
  | with_reducible refine rd_or ?_
  | with_reducible refine rd_andV ?_
  | with_reducible refine rd_orV ?_
  | with_reducible refine rd_notV ?_
  | with_reducible refine rd_cons ?_
  | with_reducible refine rd_nil ?_
  | with_reducible refine rd_CB ?_
  | with_reducible refine rd_callS ?_
  | with_reducible refine rd_raise0 ?_
  | with_reducible refine rd_raise1 ?_
  | with_reducible refine rd_raise2 ?_
  | ((with_reducible refine' rd_eq ?hs ?_); (case hs => rfl))
  | ((with_reducible refine' rd_ne ?hs ?_); (case hs => rfl))
  | ((with_reducible refine' rd_isT ?th ?hT ?_); (case th => assumption); (case hT => decide))
  | with_reducible refine rd_tup ?_
  | with_reducible refine rd_lst ?_
  | with_reducible refine rd_iEnum ?_
  | with_reducible refine rd_iEnumA ?_
  | ((with_reducible refine' rd_ixl ?hl ?hk ?_); (case hl => assumption); (case hk => rfl))
  | with_reducible refine rd_int1 ?_
  | with_reducible refine rd_sub ?_
  | with_reducible refine rd_gcons ?_
  | with_reducible refine rd_gnil ?_
  | with_reducible refine rd_iZip ?_
  | with_reducible refine rd_BM ?_
  | with_reducible refine rd_neg ?_
  | ((with_reducible refine' rd_last ?hl ?_); (case hl => assumption))
  | with_reducible refine rd_lc2 ?_
  | with_reducible refine rd_Rg1 ?_
  | with_reducible refine rd_tupRg ?_
  | with_reducible refine rd_sl ?_
  | with_reducible refine rd_noPart ?_
  | with_reducible refine rd_part ?_
  | with_reducible refine rd_for ?_
  | with_reducible refine rd_iRev ?_
  | with_reducible refine rd_gname ?_
  | with_reducible refine rd_NN ?_
  | with_reducible refine rd_NL ?_
  | with_reducible refine rd_LN ?_
  | ((with_reducible refine' rd_shl1 ?hs ?_); (case hs => omega))
  | ((with_reducible refine' rd_I ?hs ?_); (case hs => first | omega | decide | exact ⟨by decide, by decide, by decide⟩ | exact ⟨by omega, by omega⟩))
  | with_reducible refine rd_tr ?_
  | with_reducible refine rd_trI ?_
  | with_reducible refine rd_star ?_
  | with_reducible refine rd_fmtB ?_
  | with_reducible refine rd_M1 ?_
  | with_reducible refine rd_un ?_
  | with_reducible refine rd_lc ?_
  | with_reducible refine rd_iT ?_
  | with_reducible refine rd_iL ?_
  | with_reducible refine rd_iR1 ?_
  | with_reducible refine rd_iR2 ?_
  | dsimp only [List.set, start]))
section
variable {P : Program} {w : World} {K : PySem.W.Frag} {mg : Str → Option Value} {base : Heap}

def optV : Option Nat → V
  | none => .non
  | some n => .int (n : Int)
theorem firstOff_at {hi : Int} {xs : List V} {i : Nat} {x : V} (hx : xs[i]? = some x) (before : ∀ k, k < i → ∀ y, xs[k]? = some y → wholeV 0 hi y = true) (off : wholeV 0 hi x = false) : firstOff hi xs = some i := by
  unfold firstOff
  obtain ⟨lt, e⟩ := List.getElem?_eq_some_iff.mp hx
  rw [List.findIdx?_eq_some_iff_getElem]
  refine ⟨lt, by rw [e, off]; rfl, fun j hj => ?_⟩
  rw [before j hj _ (List.getElem?_eq_getElem (by omega))]
  decide
theorem firstOff_none {hi : Int} {xs : List V} (all : ∀ k, k < xs.length → ∀ y, xs[k]? = some y → wholeV 0 hi y = true) : firstOff hi xs = none := by
  unfold firstOff
  rw [List.findIdx?_eq_none_iff]
  intro x hx
  obtain ⟨k, hk⟩ := List.getElem?_of_mem hx
  rw [all k (List.getElem?_eq_some_iff.mp hk).1 x hk]
  rfl
def spFirstBad (K : PySem.W.Frag) : Sp := fun vs H Q _ => ∃ (hi : Int) (y : V) (r : Option (List V)), vs = [.int hi, y] ∧ RowV K H y r ∧ ∀ H', Ex H H' → Q (optV (badOf hi r)) H'
theorem h__first_bad (E : Ctx K mg) : Has P w K mg base 3 "_first_bad" ["most", "things"] (spFirstBad K) := by
  obtain ⟨fd, F⟩ := f__first_bad E
  refine ⟨⟨fd, ?_, F.bindsN fun _ _ _ _ _ _ us hl => match us, hl with | [_, _], _ => rfl⟩, g__first_bad E, F.kp⟩
  refine F.ok sc__first_bad (fun vs H Q E' h => ?len) (fun cdv A outer s H vs Q E' hr h => ⟨_, (pss_cons (ps_if (pt_not (pt_val (pe_callB (kc_isT2 (K := K) rfl) rfl (b_isinstance E) (by decide +kernel) (pa_cons (pv 1) (pa_cons (pe_tup (pa_cons (pe_bltn rfl (b_list E) (by decide +kernel) (v := .ty "list") rfl) (pa_cons (pe_bltn rfl (b_tuple E) (by decide +kernel) (v := .ty "tuple") rfl) pa_nil))) pa_nil)))))
 (pss_one (ps_ret pe_int))
 pss_nil)
 (pss_cons (ps_for (passes_of rfl) rfl (kpi_enumA (K := K) rfl rfl (b_enumerate E) (pa_cons (pv 1) pa_nil)) (pg_tup rfl (pgs_cons (pg_name (i := 2) sc__first_bad.nd rfl (.inl rfl)) (pgs_cons (pg_name (i := 3) sc__first_bad.nd rfl (.inl rfl)) pgs_nil)))
 (pss_one (ps_if (pt_not (pt_val (pe_H (h_is_whole E) (hr.mono (by decide)) (takes_of rfl rfl rfl rfl) (pa_cons (pv 3) (pa_cons pe_int (pa_cons (pv 0) pa_nil))))))
 (pss_one (ps_ret (pv 2)))
 pss_nil)))
 (pss_one (ps_ret pe_non)))), ?rd⟩)
  case len =>
    obtain ⟨hi, y, r, rfl, _⟩ := h
    rfl
  case rd =>
    obtain ⟨hi, y, r, rfl, row, q⟩ := h
    walk_at "rd"
    refine ⟨by show 2 ≤ sizeLine; decide, fun tp htp => ?_⟩
    cases r with
    | none =>
      obtain ⟨n, th, n1, n2⟩ := row
      refine ⟨y, tp, "list", "tuple", n, rfl, upd_same, th _ (Ex.new htp), by decide, by decide, ?_⟩
      rw [n1, n2]
      refine ⟨false, rfl, fun _ => ?_, (fun z => nomatch z)⟩
      walk_at "rd"
      exact q _ (Ex.new htp)
    | some xs =>
      obtain ⟨a, rfl, at_, len, od⟩ := row
      have e0 : Ex H (upd H tp (.tup [.ty "list", .ty "tuple"])) := Ex.new htp
      rcases at_ with at_ | at_
      · refine ⟨.ref a, tp, "list", "tuple", "list", rfl, upd_same, th_lst (e0 _ _ at_), by decide, by decide, ?_⟩
        refine ⟨true, rfl, (fun z => nomatch z), fun _ => ?_⟩
        walk_at "rd"
        have sq : SqL K (upd H tp (.tup [.ty "list", .ty "tuple"])) a xs := sq_of (e0 _ _ at_)
        refine ⟨a, xs, rfl, .inl ⟨sq, for_it walk_enum (fun i σ H' => ∃ v2 v3 : Option V, σ = [some (.int hi), some (.ref a), v2, v3] ∧ Ex (upd H tp (.tup [.ty "list", .ty "tuple"])) H' ∧ ∀ k, k < i → ∀ y, xs[k]? = some y → wholeV 0 hi y = true)
          ⟨none, none, rfl, Ex.refl _, fun k hk => absurd hk (Nat.not_lt_zero k)⟩ (fun i σ H' _ ⟨_, _, _, e, _⟩ => ex_l e sq) ?_ ?_⟩⟩
        · rintro i x σ H1 H2 hlt ⟨v2, v3, rfl, e1, bef⟩ ⟨T, p, y, rfl, hT, rfl, hp, hy⟩
          obtain rfl : V.int ((i : Nat) : Int) = p := Option.some.inj hp
          refine ⟨T, _, rfl, st_of upd_same, rfl, ?_⟩
          have e2 : Ex (upd H tp (.tup [.ty "list", .ty "tuple"])) (upd H1 T (.tup [.int (i : Int), y])) := e1.trans (Ex.new hT)
          walk_at "rd"
          refine ⟨y, 0, hi, rfl, od y (List.mem_of_getElem? hy) _ (e0.trans e2), ?_⟩
          walk_at "rd"
          refine ⟨fun z => ?_, fun z => ?_⟩
          · walk_at "rd"
            have q2 := q _ (e0.trans e2)
            rw [show badOf hi (some xs) = some i from firstOff_at hy bef (not_true z)] at q2
            exact q2
          · walk_at "rd"
            refine ⟨_, _, rfl, e2, fun k hk y2 hy2 => ?_⟩
            by_cases ek : k = i
            · subst ek
              obtain rfl : y = y2 := Option.some.inj (Eq.trans (Eq.symm hy) hy2)
              exact not_false z
            · exact bef k (by omega) y2 hy2
        · rintro σ H1 ⟨v2, v3, rfl, e1, bef⟩
          walk_at "rd"
          have q2 := q _ (e0.trans e1)
          rw [show badOf hi (some xs) = none from firstOff_none bef] at q2
          exact q2
      · refine ⟨.ref a, tp, "list", "tuple", "tuple", rfl, upd_same, th_tup (e0 _ _ at_), by decide, by decide, ?_⟩
        refine ⟨true, rfl, (fun z => nomatch z), fun _ => ?_⟩
        walk_at "rd"
        have sq : SqT K (upd H tp (.tup [.ty "list", .ty "tuple"])) a xs := st_of (e0 _ _ at_)
        refine ⟨a, xs, rfl, .inr ⟨sq, for_it walk_enumT (fun i σ H' => ∃ v2 v3 : Option V, σ = [some (.int hi), some (.ref a), v2, v3] ∧ Ex (upd H tp (.tup [.ty "list", .ty "tuple"])) H' ∧ ∀ k, k < i → ∀ y, xs[k]? = some y → wholeV 0 hi y = true)
          ⟨none, none, rfl, Ex.refl _, fun k hk => absurd hk (Nat.not_lt_zero k)⟩ (fun i σ H' _ ⟨_, _, _, e, _⟩ => ex_t e sq) ?_ ?_⟩⟩
        · rintro i x σ H1 H2 hlt ⟨v2, v3, rfl, e1, bef⟩ ⟨T, p, y, rfl, hT, rfl, hp, hy⟩
          obtain rfl : V.int ((i : Nat) : Int) = p := Option.some.inj hp
          refine ⟨T, _, rfl, st_of upd_same, rfl, ?_⟩
          have e2 : Ex (upd H tp (.tup [.ty "list", .ty "tuple"])) (upd H1 T (.tup [.int (i : Int), y])) := e1.trans (Ex.new hT)
          walk_at "rd"
          refine ⟨y, 0, hi, rfl, od y (List.mem_of_getElem? hy) _ (e0.trans e2), ?_⟩
          walk_at "rd"
          refine ⟨fun z => ?_, fun z => ?_⟩
          · walk_at "rd"
            have q2 := q _ (e0.trans e2)
            rw [show badOf hi (some xs) = some i from firstOff_at hy bef (not_true z)] at q2
            exact q2
          · walk_at "rd"
            refine ⟨_, _, rfl, e2, fun k hk y2 hy2 => ?_⟩
            by_cases ek : k = i
            · subst ek
              obtain rfl : y = y2 := Option.some.inj (Eq.trans (Eq.symm hy) hy2)
              exact not_false z
            · exact bef k (by omega) y2 hy2
        · rintro σ H1 ⟨v2, v3, rfl, e1, bef⟩
          walk_at "rd"
          have q2 := q _ (e0.trans e1)
          rw [show badOf hi (some xs) = none from firstOff_none bef] at q2
          exact q2
def spRows (cls fld : Str) (K : PySem.W.Frag) : Sp := fun vs H Q E => ∃ (l y : V) (r : Option (List V)), vs = [l, y] ∧ RowV K H y r ∧ Let K l E H fun m =>
  (∀ b, badOf ((2 ^ m - 1 : Nat) : Int) r = some b → ∀ H', Ex H H' → Er K cls [(fld, .int (b : Int))] E H') ∧
  ∀ ns : List Int, r = some (ns.map V.int) → (∀ z ∈ ns, 0 ≤ z ∧ z ≤ ((2 ^ m - 1 : Nat) : Int)) → ns.length < 60 ∧ RetT H Q (uniq ns)
theorem h_check_heaps (E : Ctx K mg) : Has P w K mg base 6 "check_heaps" ["letters", "heaps"] (spRows "BadHeap" "index" K) := by
  obtain ⟨fd, F⟩ := f_check_heaps E
  refine ⟨⟨fd, ?_, F.bindsN fun _ _ _ _ _ _ us hl => match us, hl with | [_, _], _ => rfl⟩, g_check_heaps E, F.kp⟩
  refine F.ok sc_check_heaps (fun vs H Q E' h => ?len) (fun cdv A outer s H vs Q E' hr h => ⟨_, (pss_cons (ps_set (i := 2) sc_check_heaps.nd rfl (.inl rfl) (pe_H (h__first_bad E) (hr.mono (by decide)) (takes_of rfl rfl rfl rfl) (pa_cons (pe_H (h_all_letters E) (hr.mono (by decide)) (takes_of rfl rfl rfl rfl) (pa_cons (pv 0) pa_nil)) (pa_cons (pv 1) pa_nil))))
 (pss_cons (ps_if (pt_cmpR op_notN (pv 2) pe_non (nomark _))
 (pss_one (ps_raise1 rfl (takes_of rfl rfl rfl rfl) (i_BadHeap E) (hr.mono (by decide)) (pv 2)))
 pss_nil)
 (pss_one (ps_ret (pe_callTy (kc_tup (K := K) rfl) rfl (b_tuple E) (by decide +kernel) (pa_cons (pe_callB (kc_sortedSet (w := w) rfl rfl) rfl (b_sorted E) (by decide +kernel) (pa_cons (pe_callTy (kc_setI (K := K) (w := w) rfl rfl rfl) rfl (b_set E) (by decide +kernel) (pa_cons (pv 1) pa_nil)) pa_nil)) pa_nil)))))), ?rd⟩)
  case len =>
    obtain ⟨l, y, r, rfl, _⟩ := h
    rfl
  case rd =>
    obtain ⟨l, y, r, rfl, row, th, hb, hg⟩ := h
    walk_at "rd"
    refine ⟨l, rfl, th, hb, fun m e h1 h2 => ?_⟩
    obtain ⟨g1, g2⟩ := hg m e h1 h2
    walk_at "rd"
    refine ⟨_, y, r, rfl, row, fun H1 e1 => ?_⟩
    walk_at "rd"
    cases eb : badOf ((2 ^ m - 1 : Nat) : Int) r with
    | some b =>
      refine ⟨rfl, true, rfl, fun _ => ?_, (fun z => nomatch z)⟩
      walk_at "rd"
      exact rd_mk1 (g1 b eb H1 e1)
    | none =>
      refine ⟨rfl, false, rfl, (fun z => nomatch z), fun _ => ?_⟩
      cases r with
      | none => exact nomatch eb
      | some xs =>
        obtain ⟨ns, rfl, bd⟩ := ints_off eb
        obtain ⟨few, ret⟩ := g2 ns rfl bd
        obtain ⟨a, rfl, at_, _⟩ := row
        walk_at "rd"
        refine ⟨a, ns, rfl, at_.imp (fun q => sq_of (e1 _ _ q)) (fun q => st_of (e1 _ _ q)), few, fun s c hs hc => ?_⟩
        walk_at "rd"
        refine rd_sortedSet upd_same (by omega) fun p hp => ?_
        walk_at "rd"
        refine ⟨p, _, rfl, .inl ⟨sq_of upd_same, fun p2 hp2 => ?_⟩⟩
        have e2 : Ex H (upd (upd H1 s (SetO w s (fun j => decide (j ∈ ns)) c)) p (.lst ((uniq ns).map V.int))) := (e1.trans (Ex.new hs)).trans (Ex.new hp)
        exact ret p2 _ (fresh_back e2 hp2) (e2.trans (Ex.new hp2)) upd_same
theorem h_check_places (E : Ctx K mg) : Has P w K mg base 6 "check_places" ["letters", "places"] (spRows "BadPlaces" "index" K) := by
  obtain ⟨fd, F⟩ := f_check_places E
  refine ⟨⟨fd, ?_, F.bindsN fun _ _ _ _ _ _ us hl => match us, hl with | [_, _], _ => rfl⟩, g_check_places E, F.kp⟩
  refine F.ok sc_check_places (fun vs H Q E' h => ?len) (fun cdv A outer s H vs Q E' hr h => ⟨_, (pss_cons (ps_set (i := 2) sc_check_places.nd rfl (.inl rfl) (pe_H (h__first_bad E) (hr.mono (by decide)) (takes_of rfl rfl rfl rfl) (pa_cons (pe_H (h_all_letters E) (hr.mono (by decide)) (takes_of rfl rfl rfl rfl) (pa_cons (pv 0) pa_nil)) (pa_cons (pv 1) pa_nil))))
 (pss_cons (ps_if (pt_cmpR op_notN (pv 2) pe_non (nomark _))
 (pss_one (ps_raise1 rfl (takes_of rfl rfl rfl rfl) (i_BadPlaces E) (hr.mono (by decide)) (pv 2)))
 pss_nil)
 (pss_one (ps_ret (pe_callTy (kc_tup (K := K) rfl) rfl (b_tuple E) (by decide +kernel) (pa_cons (pe_callB (kc_sortedSet (w := w) rfl rfl) rfl (b_sorted E) (by decide +kernel) (pa_cons (pe_callTy (kc_setI (K := K) (w := w) rfl rfl rfl) rfl (b_set E) (by decide +kernel) (pa_cons (pv 1) pa_nil)) pa_nil)) pa_nil)))))), ?rd⟩)
  case len =>
    obtain ⟨l, y, r, rfl, _⟩ := h
    rfl
  case rd =>
    obtain ⟨l, y, r, rfl, row, th, hb, hg⟩ := h
    walk_at "rd"
    refine ⟨l, rfl, th, hb, fun m e h1 h2 => ?_⟩
    obtain ⟨g1, g2⟩ := hg m e h1 h2
    walk_at "rd"
    refine ⟨_, y, r, rfl, row, fun H1 e1 => ?_⟩
    walk_at "rd"
    cases eb : badOf ((2 ^ m - 1 : Nat) : Int) r with
    | some b =>
      refine ⟨rfl, true, rfl, fun _ => ?_, (fun z => nomatch z)⟩
      walk_at "rd"
      exact rd_mk1 (g1 b eb H1 e1)
    | none =>
      refine ⟨rfl, false, rfl, (fun z => nomatch z), fun _ => ?_⟩
      cases r with
      | none => exact nomatch eb
      | some xs =>
        obtain ⟨ns, rfl, bd⟩ := ints_off eb
        obtain ⟨few, ret⟩ := g2 ns rfl bd
        obtain ⟨a, rfl, at_, _⟩ := row
        walk_at "rd"
        refine ⟨a, ns, rfl, at_.imp (fun q => sq_of (e1 _ _ q)) (fun q => st_of (e1 _ _ q)), few, fun s c hs hc => ?_⟩
        walk_at "rd"
        refine rd_sortedSet upd_same (by omega) fun p hp => ?_
        walk_at "rd"
        refine ⟨p, _, rfl, .inl ⟨sq_of upd_same, fun p2 hp2 => ?_⟩⟩
        have e2 : Ex H (upd (upd H1 s (SetO w s (fun j => decide (j ∈ ns)) c)) p (.lst ((uniq ns).map V.int))) := (e1.trans (Ex.new hs)).trans (Ex.new hp)
        exact ret p2 _ (fresh_back e2 hp2) (e2.trans (Ex.new hp2)) upd_same
def spPar : Sp := fun vs H Q _ => ∃ n : Nat, vs = [.int n] ∧ n < 1606938044258990275541962092341162602522202993782792835301376 ∧ Q (.int ((onesN n % 2 : Nat) : Int)) H
theorem h_parity_of (E : Ctx K mg) : Has P w K mg base 3 "parity_of" ["number"] (spPar) := by
  obtain ⟨fd, F⟩ := f_parity_of E
  refine ⟨⟨fd, ?_, F.bindsN fun _ _ _ _ _ _ us hl => match us, hl with | [_], _ => rfl⟩, g_parity_of E, F.kp⟩
  refine F.ok sc_parity_of (fun vs H Q E' h => ?len) (fun cdv A outer s H vs Q E' hr h => ⟨_, (pss_one (ps_ret (pe_op on_and (pe_H (h_count_ones E) (hr.mono (by decide)) (takes_of rfl rfl rfl rfl) (pa_cons (pv 0) pa_nil)) pe_int))), ?rd⟩)
  case len =>
    obtain ⟨n, rfl, _⟩ := h
    rfl
  case rd =>
    obtain ⟨n, rfl, hn, q⟩ := h
    walk_at "rd"
    refine ⟨n, rfl, hn, ?_⟩
    walk_at "rd"
    rw [Nat.and_one_is_mod]
    exact q
def spAllHeaps (K : PySem.W.Frag) : Sp := fun vs H Q E => ∃ l : V, vs = [l] ∧ Let K l E H fun m => RetT H Q (intsL (List.range (2 ^ m)))
theorem h_all_heaps (E : Ctx K mg) : Has P w K mg base 6 "all_heaps" ["letters"] (spAllHeaps K) := by
  obtain ⟨fd, F⟩ := f_all_heaps E
  refine ⟨⟨fd, ?_, F.bindsN fun _ _ _ _ _ _ us hl => match us, hl with | [_], _ => rfl⟩, g_all_heaps E, F.kp⟩
  refine F.ok sc_all_heaps (fun vs H Q E' h => ?len) (fun cdv A outer s H vs Q E' hr h => ⟨_, (pss_one (ps_ret (pe_tupRg rfl rfl (b_tuple E) (prg_1 rfl (b_range E) (pe_op op_add (pe_H (h_all_letters E) (hr.mono (by decide)) (takes_of rfl rfl rfl rfl) (pa_cons (pv 0) pa_nil)) pe_int))))), ?rd⟩)
  case len =>
    obtain ⟨l, rfl, _⟩ := h
    rfl
  case rd =>
    obtain ⟨l, rfl, th, hb, hg⟩ := h
    walk_at "rd"
    refine ⟨l, rfl, th, hb, fun m e h1 h2 => ?_⟩
    have hg2 := hg m e h1 h2
    walk_at "rd"
    have p5 : 2 ^ m ≤ 32 := Nat.le_trans (Nat.pow_le_pow_right (by decide) h2) (by decide)
    have p0 : 0 < 2 ^ m := Nat.pow_pos (by decide)
    have e2 : ((2 ^ m - 1 : Nat) : Int) + 1 = ((2 ^ m : Nat) : Int) := by omega
    rw [e2]
    refine ⟨_, rfl, RgOk.of_le (by decide) (by omega) (by decide) (by omega), fun p hp => ?_⟩
    rw [rgV_nat]
    exact hg2 p _ hp (Ex.new hp) upd_same
def fullW (m : Nat) : Nat := 2 ^ (2 ^ m) - 1
def spFullWord (K : PySem.W.Frag) : Sp := fun vs H Q E => ∃ l : V, vs = [l] ∧ Let K l E H fun m => Q (.int ((fullW m : Nat) : Int)) H
theorem h_full_word (E : Ctx K mg) : Has P w K mg base 5 "full_word" ["letters"] (spFullWord K) := by
  obtain ⟨fd, F⟩ := f_full_word E
  refine ⟨⟨fd, ?_, F.bindsN fun _ _ _ _ _ _ us hl => match us, hl with | [_], _ => rfl⟩, g_full_word E, F.kp⟩
  refine F.ok sc_full_word (fun vs H Q E' h => ?len) (fun cdv A outer s H vs Q E' hr h => ⟨_, (pss_one (ps_ret (pe_op op_sub (pe_op on_shl pe_int (pe_op on_shl pe_int (pe_H (h_check_letters E) (hr.mono (by decide)) (takes_of rfl rfl rfl rfl) (pa_cons (pv 0) pa_nil)))) pe_int))), ?rd⟩)
  case len =>
    obtain ⟨l, rfl, _⟩ := h
    rfl
  case rd =>
    obtain ⟨l, rfl, th, hb, hg⟩ := h
    walk_at "rd"
    refine ⟨l, rfl, th, hb, fun m e h1 h2 => ?_⟩
    have p5 : 2 ^ m ≤ 32 := Nat.le_trans (Nat.pow_le_pow_right (by decide) h2) (by decide)
    have hg2 := hg m e h1 h2
    walk_at "rd"
    have p0 : 0 < 2 ^ (2 ^ m) := Nat.pow_pos (by decide)
    have e2 : ((2 ^ (2 ^ m) : Nat) : Int) - 1 = ((fullW m : Nat) : Int) := by
      unfold fullW
      omega
    rw [e2]
    exact hg2
def spCheckWord (K : PySem.W.Frag) : Sp := fun vs H Q E => ∃ l x : V, vs = [l, x] ∧ Thg K H x ∧ Let K l E H fun m => Chk (wholeV 0 ((fullW m : Nat) : Int) x) (Q x H) (Er K "BadWord" [("index", .int 0)] E H)
theorem h_check_word (E : Ctx K mg) : Has P w K mg base 6 "check_word" ["letters", "word"] (spCheckWord K) := by
  obtain ⟨fd, F⟩ := f_check_word E
  refine ⟨⟨fd, ?_, F.bindsN fun _ _ _ _ _ _ us hl => match us, hl with | [_, _], _ => rfl⟩, g_check_word E, F.kp⟩
  refine F.ok sc_check_word (fun vs H Q E' h => ?len) (fun cdv A outer s H vs Q E' hr h => ⟨_, (pss_cons (ps_if (pt_not (pt_val (pe_H (h_is_whole E) (hr.mono (by decide)) (takes_of rfl rfl rfl rfl) (pa_cons (pv 1) (pa_cons pe_int (pa_cons (pe_H (h_full_word E) (hr.mono (by decide)) (takes_of rfl rfl rfl rfl) (pa_cons (pv 0) pa_nil)) pa_nil))))))
 (pss_one (ps_raise1 rfl (takes_of rfl rfl rfl rfl) (i_BadWord E) (hr.mono (by decide)) pe_int))
 pss_nil)
 (pss_one (ps_ret (pv 1)))), ?rd⟩)
  case len =>
    obtain ⟨l, x, rfl, _⟩ := h
    rfl
  case rd =>
    obtain ⟨l, x, rfl, tx, th, hb, hg⟩ := h
    walk_at "rd"
    refine ⟨l, rfl, th, hb, fun m e h1 h2 => ?_⟩
    walk_at "rd"
    refine ⟨x, 0, _, rfl, tx, ?_⟩
    walk_at "rd"
    refine ⟨fun z => ?_, fun z => ?_⟩
    · walk_at "rd"
      exact rd_mk1 ((hg m e h1 h2).2 (not_true z))
    · walk_at "rd"
      exact (hg m e h1 h2).1 (not_false z)
theorem given_all {xs : List Nat} {f : Nat → V} : given xs.length (fun _ => true) (fun i => f (xs.getD i 0)) = xs.map f := by
  rw [given_map]
  refine List.ext_getElem (by simp) fun i h1 h2 => ?_
  simp only [List.getElem_map, List.getElem_range]
  rw [List.getD_eq_getElem?_getD, List.getElem?_eq_getElem (by simpa using h2)]
  rfl
/-- the number that marks the places -/
def markN (ps : List Nat) : Nat := (ps.map fun p => 2 ^ p).sum
theorem markN_int (ps : List Nat) : ((ps.map fun p => ((2 ^ p : Nat) : Int)).sum) = ((markN ps : Nat) : Int) := by
  induction ps with
  | nil => rfl
  | cons p r ih =>
    unfold markN at ih ⊢
    rw [List.map_cons, List.sum_cons, List.map_cons, List.sum_cons, ih, Int.natCast_add]
def spMarks : Sp := fun vs H Q _ => ∃ (a : Addr) (ps : List Nat), vs = [.ref a] ∧ H a = some (.tup ((intsL ps).map V.int)) ∧ (∀ p ∈ ps, p < 32) ∧ ps.length ≤ 60 ∧ ∀ H', Ex H H' → Q (.int ((markN ps : Nat) : Int)) H'
theorem h__marks (E : Ctx K mg) : Has P w K mg base 2 "_marks" ["places"] (spMarks) := by
  obtain ⟨fd, F⟩ := f__marks E
  refine ⟨⟨fd, ?_, F.bindsN fun _ _ _ _ _ _ us hl => match us, hl with | [_], _ => rfl⟩, g__marks E, F.kp⟩
  refine F.ok sc__marks (fun vs H Q E' h => ?len) (fun cdv A outer s H vs Q E' hr h => ⟨_, (pss_one (ps_ret (pe_callB (kc_sum rfl (K := K) rfl) rfl (b_sum E) (by decide +kernel) (pa_cons (pe_lc (own := [("place", 1)]) (g := gName 1) (tt := tYes) rfl sc__marks.nd (ki_tup (K := K) rfl (pv 0)) (blkOk_by (own := [("place", 1)]) (N := N__marks) (sc := defScope s__marks) (by decide +kernel)) (fun _ _ _ _ _ => (pg_name (i := 1) sc__marks.nd rfl (.inl rfl))) (fun _ _ _ _ _ => pts_nil) (fun _ _ _ _ _ => (pe_op on_shl pe_int (pv 1)))) pa_nil)))), ?rd⟩)
  case len =>
    obtain ⟨a, ps, rfl, _⟩ := h
    rfl
  case rd =>
    obtain ⟨a, ps, rfl, at_, lt, few, q⟩ := h
    have el : ((intsL ps).map V.int).length = ps.length := by simp [intsL]
    walk_at "rd"
    refine ⟨a, rfl, ⟨_, st_of at_⟩, lc_tupT (fun _ => true) (fun i => .int ((2 ^ (ps.getD i 0) : Nat) : Int)) (st_of at_) (by rw [el]; omega) (fun _ => rfl) (fun i x H1 e1 hi H2 e2 R q => q _ (Ex.refl _)) (fun i x H1 e1 hi hf H2 e2 R q => ?_) fun p2 H2 hp2 e2 h2 => ?_⟩
    · have hi2 : ∃ p, ps[i]? = some p ∧ x = .int (p : Int) := by
        unfold intsL at hi
        rw [List.map_map, List.getElem?_map] at hi
        cases e : ps[i]? with
        | none => rw [e] at hi; cases hi
        | some p => rw [e] at hi; exact ⟨p, rfl, (Option.some.inj hi).symm⟩
      obtain ⟨p, ep, rfl⟩ := hi2
      have pl := lt p (List.mem_of_getElem? ep)
      walk_at "rd"
      have q2 := q _ (Ex.refl _)
      rw [List.getD_eq_getElem?_getD, ep] at q2
      exact q2
    · have eg : given ((intsL ps).map V.int).length (fun _ => true) (fun i => V.int ((2 ^ (ps.getD i 0) : Nat) : Int)) = (ps.map fun p => ((2 ^ p : Nat) : Int)).map V.int := by
        rw [el, given_all (f := fun p => V.int ((2 ^ p : Nat) : Int)), map_int]
      rw [eg] at h2
      refine ⟨p2, _, rfl, sq_of h2, ?_⟩
      rw [markN_int]
      exact q _ e2
def withoutL : List Nat := [1431655765, 858993459, 252645135, 16711935, 65535]
def step1 (n l : Nat) : Nat := n ^^^ ((n &&& withoutL.getD l 0) * 2 ^ (2 ^ l))
def stepN (m n : Nat) : Nat := (List.range m).foldl step1 n
theorem without_room : ∀ m : Nat, m < 6 → ∀ l : Nat, l < m → (withoutL.getD l 0 % 2 ^ (2 ^ m)) * 2 ^ (2 ^ l) < 2 ^ (2 ^ m) := by decide +kernel
theorem step1_lt {m n l : Nat} (hm : m ≤ 5) (hl : l < m) (hn : n < 2 ^ (2 ^ m)) : step1 n l < 2 ^ (2 ^ m) := by
  unfold step1
  refine Nat.xor_lt_two_pow hn ?_
  have e : n &&& withoutL.getD l 0 = n &&& (withoutL.getD l 0 % 2 ^ (2 ^ m)) := by
    conv => lhs; rw [← Nat.mod_eq_of_lt hn, ← Nat.and_two_pow_sub_one_eq_mod]
    rw [Nat.and_assoc, Nat.and_comm (2 ^ 2 ^ m - 1), Nat.and_two_pow_sub_one_eq_mod]
  rw [e]
  exact Nat.lt_of_le_of_lt (Nat.mul_le_mul_right _ Nat.and_le_right) (without_room m (by omega) l hl)
theorem stepN_lt {m n : Nat} (hm : m ≤ 5) (hn : n < 2 ^ (2 ^ m)) : ∀ k, k ≤ m → (List.range k).foldl step1 n < 2 ^ (2 ^ m)
  | 0, _ => hn
  | k + 1, hk => by
    rw [List.range_succ, List.foldl_append]
    exact step1_lt hm hk (stepN_lt hm hn k (by omega))
def spStepped : Sp := fun vs H Q _ => ∃ m n : Nat, vs = [.int (m : Int), .int (n : Int)] ∧ m ≤ 5 ∧ n < 2 ^ (2 ^ m) ∧ Q (.int ((stepN m n : Nat) : Int)) H
theorem h__stepped (E : Ctx K mg) : Has P w K mg base 2 "_stepped" ["letters", "number"] (spStepped) := by
  obtain ⟨fd, F⟩ := f__stepped E
  refine ⟨⟨fd, ?_, F.bindsN fun _ _ _ _ _ _ us hl => match us, hl with | [_, _], _ => rfl⟩, g__stepped E, F.kp⟩
  refine F.ok sc__stepped (fun vs H Q E' h => ?len) (fun cdv A outer s H vs Q E' hr h => ⟨_, (pss_cons (ps_for (passes_of rfl) rfl (pi_range1 rfl (b_range E) (pa_cons (pv 0) pa_nil)) (pg_name (i := 2) sc__stepped.nd rfl (.inl rfl))
 (pss_one (ps_set (i := 1) sc__stepped.nd rfl (.inl rfl) (pe_op on_xor (pv 1) (pe_op on_shl (pe_op on_and (pv 1) (pe_ix (kx_tup (K := K) rfl) (pe_glob rfl (g_WITHOUT_LETTER E) (v := .ref (ga K "WITHOUT_LETTER")) rfl) (pv 2) (fun _ _ => rfl))) (pe_op on_shl pe_int (pv 2)))))))
 (pss_one (ps_ret (pv 1)))), ?rd⟩)
  case len =>
    obtain ⟨m, n, rfl, _⟩ := h
    rfl
  case rd =>
    obtain ⟨m, n, rfl, hm, hn, q⟩ := h
    walk_at "rd"
    refine ⟨_, rfl, by omega, by omega, ?_⟩
    rw [Int.toNat_natCast]
    refine for_range (lo := 0) (n := m) (fun i σ H' => ∃ v : Option V, σ = [some (.int (m : Int)), some (.int (((List.range i).foldl step1 n : Nat) : Int)), v] ∧ H' = H) ⟨none, rfl, rfl⟩ ?_ ?_
    · rintro i σ H1 hi ⟨v, rfl, rfl⟩
      rw [Int.zero_add]
      walk_at "rd"
      have i5 : i < 5 := by omega
      have hx : (([1431655765, 858993459, 252645135, 16711935, 65535] : List Int).map V.int)[i]? = some (.int ((withoutL.getD i 0 : Nat) : Int)) := by
        rcases (show i = 0 ∨ i = 1 ∨ i = 2 ∨ i = 3 ∨ i = 4 by omega) with rfl | rfl | rfl | rfl | rfl <;> rfl
      refine ⟨_, _, _, _, rfl, rfl, t_WITHOUT_LETTER E H1, atI_nat hx, ?_⟩
      walk_at "rd"
      have p5 : 2 ^ i ≤ 32 := Nat.le_trans (Nat.pow_le_pow_right (by decide) (show i ≤ 5 by omega)) (by decide)
      have small : ((List.range i).foldl step1 n &&& withoutL.getD i 0) < 2 ^ 1000 := by
        refine Nat.lt_of_le_of_lt Nat.and_le_right ?_
        rcases (show i = 0 ∨ i = 1 ∨ i = 2 ∨ i = 3 ∨ i = 4 by omega) with rfl | rfl | rfl | rfl | rfl <;> decide +kernel
      refine rd_shlN small (by omega) ?_
      walk_at "rd"
      refine ⟨some (.int (i : Int)), ?_, rfl⟩
      rw [List.range_succ, List.foldl_append]
      rfl
    · rintro σ H1 ⟨v, rfl, rfl⟩
      walk_at "rd"
      exact q
def spHeapWord (K : PySem.W.Frag) : Sp := fun vs H Q E => ∃ l x : V, vs = [l, x] ∧ Thg K H x ∧ Let K l E H fun m => Chk (wholeV 0 ((2 ^ m - 1 : Nat) : Int) x) (∀ n : Nat, x = .int n → n < 2 ^ m → Q (.int ((stepN m (2 ^ n) : Nat) : Int)) H) (Er K "BadHeap" [("index", .int 0)] E H)
theorem h_heap_word (E : Ctx K mg) : Has P w K mg base 7 "heap_word" ["letters", "heap"] (spHeapWord K) := by
  obtain ⟨fd, F⟩ := f_heap_word E
  refine ⟨⟨fd, ?_, F.bindsN fun _ _ _ _ _ _ us hl => match us, hl with | [_, _], _ => rfl⟩, g_heap_word E, F.kp⟩
  refine F.ok sc_heap_word (fun vs H Q E' h => ?len) (fun cdv A outer s H vs Q E' hr h => ⟨_, (pss_one (ps_ret (pe_H (h__stepped E) (hr.mono (by decide)) (takes_of rfl rfl rfl rfl) (pa_cons (pv 0) (pa_cons (pe_op on_shl pe_int (pe_H (h_check_heap E) (hr.mono (by decide)) (takes_of rfl rfl rfl rfl) (pa_cons (pv 0) (pa_cons (pv 1) pa_nil)))) pa_nil))))), ?rd⟩)
  case len =>
    obtain ⟨l, x, rfl, _⟩ := h
    rfl
  case rd =>
    obtain ⟨l, x, rfl, tx, th, hb, hg⟩ := h
    walk_at "rd"
    refine ⟨l, x, rfl, tx, th, hb, fun m e h1 h2 => ?_⟩
    obtain ⟨g1, g2⟩ := hg m e h1 h2
    refine ⟨fun z => ?_, fun z => g2 z⟩
    obtain ⟨n, rfl, n1, n2⟩ := whole_nat z (by decide)
    subst e
    have p5 : 2 ^ m ≤ 32 := Nat.le_trans (Nat.pow_le_pow_right (by decide) h2) (by decide)
    have p0 : 0 < 2 ^ m := Nat.pow_pos (by decide)
    walk_at "rd"
    exact ⟨m, 2 ^ n, rfl, h2, Nat.pow_lt_pow_right (by decide) (by omega), g1 z n rfl (by omega)⟩

end
end Lw

set_option Elab.async false
set_option linter.all false
set_option maxRecDepth 100000
set_option maxHeartbeats 4000000
namespace Lw
open PySem PySem.Spec PyProof.Rows L2 He Evl StX
local macro_rules | `(tactic| walk_at "rd") => `(tactic| (repeat first
  | with_reducible refine rd_seq ?_
  | with_reducible refine rd_asg ?_
  | with_reducible refine rd_ret ?_
  | with_reducible refine rd_next ?_
  | with_reducible refine rd_drop ?_
  | with_reducible refine rd_if ?_
  | with_reducible refine rd_ifE ?_
  | ((with_reducible refine' rd_var ?hv ?_); (case hv => rfl))
  | with_reducible refine rd_c ?_
  | with_reducible refine rd_op ?_
  | with_reducible refine rd_chain ?_
  | with_reducible refine rd_I0 ?_
  | with_reducible refine rd_test ?_
  | with_reducible refine rd_B ?_
  | with_reducible refine rd_bl ?_
  | with_reducible refine rd_not ?_
  | with_reducible refine rd_and ?_
  | with_reducible refine rd_or ?_
  | with_reducible refine rd_andV ?_
  | with_reducible refine rd_orV ?_
  | with_reducible refine rd_notV ?_
  | with_reducible refine rd_cons ?_
  | with_reducible refine rd_nil ?_
  | with_reducible refine rd_CB ?_
  | with_reducible refine rd_callS ?_
  | with_reducible refine rd_raise0 ?_
  | with_reducible refine rd_raise1 ?_
  | with_reducible refine rd_raise2 ?_
  | ((with_reducible refine' rd_eq ?hs ?_); (case hs => rfl))
  | ((with_reducible refine' rd_ne ?hs ?_); (case hs => rfl))
  | ((with_reducible refine' rd_isT ?th ?hT ?_); (case th => assumption); (case hT => decide))
  | with_reducible refine rd_tup ?_
  | with_reducible refine rd_lst ?_
  | with_reducible refine rd_iEnum ?_
  | with_reducible refine rd_iEnumA ?_
  | ((with_reducible refine' rd_ixl ?hl ?hk ?_); (case hl => assumption); (case hk => rfl))
  | with_reducible refine rd_int1 ?_
  | with_reducible refine rd_sub ?_
  | with_reducible refine rd_gcons ?_
  | with_reducible refine rd_gnil ?_
  | with_reducible refine rd_iZip ?_
  | with_reducible refine rd_BM ?_
  | with_reducible refine rd_neg ?_
  | ((with_reducible refine' rd_last ?hl ?_); (case hl => assumption))
  | with_reducible refine rd_lc2 ?_
  | with_reducible refine rd_Rg1 ?_
  | with_reducible refine rd_tupRg ?_
  | with_reducible refine rd_sl ?_
  | with_reducible refine rd_noPart ?_
  | with_reducible refine rd_part ?_
  | with_reducible refine rd_for ?_
  | with_reducible refine rd_iRev ?_
  | with_reducible refine rd_gname ?_
  | with_reducible refine rd_NN ?_
  | with_reducible refine rd_NL ?_
  | with_reducible refine rd_LN ?_
  | ((with_reducible refine' rd_shl1 ?hs ?_); (case hs => omega))
  | ((with_reducible refine' rd_I ?hs ?_); (case hs => first | omega | decide | exact ⟨by decide, by decide, by decide⟩ | exact ⟨by omega, by omega⟩))
  | with_reducible refine rd_tr ?_
  | with_reducible refine rd_trI ?_
  | with_reducible refine rd_star ?_
  | with_reducible refine rd_fmtB ?_
  | with_reducible refine rd_M1 ?_
  | with_reducible refine rd_un ?_
  | with_reducible refine rd_lc ?_
  | with_reducible refine rd_iT ?_
  | with_reducible refine rd_iL ?_
  | with_reducible refine rd_iR1 ?_
  | with_reducible refine rd_iR2 ?_
  | dsimp only [List.set, start]))
section
variable {P : Program} {w : World} {K : PySem.W.Frag} {mg : Str → Option Value} {base : Heap}

/-- the places of a row of ints from 0 -/
theorem nats_of {ns : List Int} {hi : Nat} (h : ∀ z ∈ ns, 0 ≤ z ∧ z ≤ (hi : Int)) : ∃ ps : List Nat, ns = intsL ps ∧ ∀ p ∈ ps, p ≤ hi := by
  refine ⟨ns.map Int.toNat, ?_, fun p hp => ?_⟩
  · unfold intsL
    rw [List.map_map]
    conv => lhs; rw [← List.map_id ns]
    exact List.map_congr_left fun z hz => by
      have := (h z hz).1
      show z = ((z.toNat : Nat) : Int)
      omega
  · obtain ⟨z, hz, rfl⟩ := List.mem_map.mp hp
    have := h z hz
    omega
def natsU (ns : List Int) : List Nat := (uniq ns).map Int.toNat
theorem natsU_int {ns : List Int} (h : ∀ z ∈ ns, 0 ≤ z) : uniq ns = intsL (natsU ns) := by
  unfold intsL natsU
  rw [List.map_map]
  conv => lhs; rw [← List.map_id (uniq ns)]
  exact List.map_congr_left fun z hz => by
    have := h z ((uniq_mem z ns).mp hz)
    show z = ((z.toNat : Nat) : Int)
    omega
/-- a row of letters' heaps or places makes a number: bad, the first off; good, fn of the row's own members -/
def spMade (cls : Str) (fn : Nat → List Nat → Nat) (K : PySem.W.Frag) : Sp := fun vs H Q E => ∃ (l y : V) (r : Option (List V)), vs = [l, y] ∧ RowV K H y r ∧ Let K l E H fun m =>
  (∀ b, badOf ((2 ^ m - 1 : Nat) : Int) r = some b → ∀ H', Ex H H' → Er K cls [("index", .int (b : Int))] E H') ∧
  ∀ ns : List Int, r = some (ns.map V.int) → (∀ z ∈ ns, 0 ≤ z ∧ z ≤ ((2 ^ m - 1 : Nat) : Int)) → ns.length < 60 ∧ ∀ H', Ex H H' → Q (.int ((fn m (natsU ns) : Nat) : Int)) H'
theorem natsU_lt {m : Nat} {ns : List Int} (hm : m ≤ 5) (h : ∀ z ∈ ns, 0 ≤ z ∧ z ≤ ((2 ^ m - 1 : Nat) : Int)) : ∀ p ∈ natsU ns, p < 2 ^ m := fun p hp => by
  obtain ⟨z, hz, rfl⟩ := List.mem_map.mp hp
  have := h z ((uniq_mem z ns).mp hz)
  have p0 : 0 < 2 ^ m := Nat.pow_pos (by decide)
  omega
theorem natsU_len (ns : List Int) : (natsU ns).length ≤ ns.length := by
  unfold natsU
  rw [List.length_map]
  exact uniq_len ns
theorem h_marked_word (E : Ctx K mg) : Has P w K mg base 7 "marked_word" ["letters", "places"] (spMade "BadPlaces" (fun _ ps => markN ps) K) := by
  obtain ⟨fd, F⟩ := f_marked_word E
  refine ⟨⟨fd, ?_, F.bindsN fun _ _ _ _ _ _ us hl => match us, hl with | [_, _], _ => rfl⟩, g_marked_word E, F.kp⟩
  refine F.ok sc_marked_word (fun vs H Q E' h => ?len) (fun cdv A outer s H vs Q E' hr h => ⟨_, (pss_one (ps_ret (pe_H (h__marks E) (hr.mono (by decide)) (takes_of rfl rfl rfl rfl) (pa_cons (pe_H (h_check_places E) (hr.mono (by decide)) (takes_of rfl rfl rfl rfl) (pa_cons (pv 0) (pa_cons (pv 1) pa_nil))) pa_nil)))), ?rd⟩)
  case len =>
    obtain ⟨l, y, r, rfl, _⟩ := h
    rfl
  case rd =>
    obtain ⟨l, y, r, rfl, row, th, hb, hg⟩ := h
    walk_at "rd"
    refine ⟨l, y, r, rfl, row, th, hb, fun m e h1 h2 => ?_⟩
    obtain ⟨g1, g2⟩ := hg m e h1 h2
    refine ⟨g1, fun ns er bd => ?_⟩
    obtain ⟨few, gd⟩ := g2 ns er bd
    refine ⟨few, fun p H1 hp e1 h1 => ?_⟩
    have p5 : 2 ^ m ≤ 32 := Nat.le_trans (Nat.pow_le_pow_right (by decide) h2) (by decide)
    have ll := natsU_len ns
    walk_at "rd"
    refine ⟨p, natsU ns, rfl, by rw [← natsU_int fun z hz => (bd z hz).1]; exact h1, fun q hq => Nat.lt_of_lt_of_le (natsU_lt h2 bd q hq) p5, by omega, fun H2 e2 => ?_⟩
    exact gd H2 (e1.trans e2)
/-- marks of places below k are below 2^k, where no place comes twice -/
theorem markN_lt {k : Nat} : ∀ {ps : List Nat}, ps.Nodup → (∀ p ∈ ps, p < k) → markN ps < 2 ^ k := by
  induction k with
  | zero =>
    intro ps _ h
    cases ps with
    | nil => decide
    | cons p r => exact absurd (h p List.mem_cons_self) (Nat.not_lt_zero p)
  | succ k ih =>
    intro ps nd h
    by_cases c : k ∈ ps
    · have e := (List.perm_cons_erase c)
      have s : markN ps = 2 ^ k + markN (ps.erase k) := by
        unfold markN
        rw [(e.map fun p => 2 ^ p).sum_nat, List.map_cons, List.sum_cons]
      have lt := ih (nd.erase k) fun p hp => by
        have h1 := h p (List.mem_of_mem_erase hp)
        have h2 : p ≠ k := fun e => by
          subst e
          exact (List.Nodup.not_mem_erase nd) hp
        omega
      rw [s, Nat.pow_succ]
      omega
    · have lt := ih nd fun p hp => by
        have h1 := h p hp
        have h2 : p ≠ k := fun e => c (e ▸ hp)
        omega
      rw [Nat.pow_succ]
      omega
theorem natsU_nodup {ns : List Int} (h : ∀ z ∈ ns, 0 ≤ z) : (natsU ns).Nodup := by
  unfold natsU
  rw [List.nodup_iff_pairwise_ne, List.pairwise_map]
  have srt := uniq_sorted ns
  exact (List.Pairwise.and_mem.mp srt).imp fun {a b} ⟨ha, hb, lt⟩ e => by
    have := h a ((uniq_mem a ns).mp ha)
    have := h b ((uniq_mem b ns).mp hb)
    omega
theorem h_word_of (E : Ctx K mg) : Has P w K mg base 7 "word_of" ["letters", "heaps"] (spMade "BadHeap" (fun m ps => stepN m (markN ps)) K) := by
  obtain ⟨fd, F⟩ := f_word_of E
  refine ⟨⟨fd, ?_, F.bindsN fun _ _ _ _ _ _ us hl => match us, hl with | [_, _], _ => rfl⟩, g_word_of E, F.kp⟩
  refine F.ok sc_word_of (fun vs H Q E' h => ?len) (fun cdv A outer s H vs Q E' hr h => ⟨_, (pss_one (ps_ret (pe_H (h__stepped E) (hr.mono (by decide)) (takes_of rfl rfl rfl rfl) (pa_cons (pv 0) (pa_cons (pe_H (h__marks E) (hr.mono (by decide)) (takes_of rfl rfl rfl rfl) (pa_cons (pe_H (h_check_heaps E) (hr.mono (by decide)) (takes_of rfl rfl rfl rfl) (pa_cons (pv 0) (pa_cons (pv 1) pa_nil))) pa_nil)) pa_nil))))), ?rd⟩)
  case len =>
    obtain ⟨l, y, r, rfl, _⟩ := h
    rfl
  case rd =>
    obtain ⟨l, y, r, rfl, row, th, hb, hg⟩ := h
    walk_at "rd"
    refine ⟨l, y, r, rfl, row, th, hb, fun m e h1 h2 => ?_⟩
    obtain ⟨g1, g2⟩ := hg m e h1 h2
    refine ⟨g1, fun ns er bd => ?_⟩
    obtain ⟨few, gd⟩ := g2 ns er bd
    refine ⟨few, fun p H1 hp e1 h3 => ?_⟩
    subst e
    have p5 : 2 ^ m ≤ 32 := Nat.le_trans (Nat.pow_le_pow_right (by decide) h2) (by decide)
    have ll := natsU_len ns
    walk_at "rd"
    refine ⟨p, natsU ns, rfl, by rw [← natsU_int fun z hz => (bd z hz).1]; exact h3, fun q hq => Nat.lt_of_lt_of_le (natsU_lt h2 bd q hq) p5, by omega, fun H2 e2 => ?_⟩
    walk_at "rd"
    exact ⟨m, _, rfl, h2, markN_lt (natsU_nodup fun z hz => (bd z hz).1) (natsU_lt h2 bd), gd H2 (e1.trans e2)⟩
/-- the places that a word holds -/
def placesN (m n : Nat) : List Nat := (List.range (2 ^ m)).filter fun p => n / 2 ^ p % 2 == 1
def spOfWord (fn : Nat → Nat → List Nat) (K : PySem.W.Frag) : Sp := fun vs H Q E => ∃ l x : V, vs = [l, x] ∧ Thg K H x ∧ Let K l E H fun m =>
  (wholeV 0 ((fullW m : Nat) : Int) x = false → Er K "BadWord" [("index", .int 0)] E H) ∧ ∀ n : Nat, x = .int n → n < 2 ^ (2 ^ m) → RetT H Q (intsL (fn m n))
theorem h_places_of (E : Ctx K mg) : Has P w K mg base 7 "places_of" ["letters", "word"] (spOfWord placesN K) := by
  obtain ⟨fd, F⟩ := f_places_of E
  refine ⟨⟨fd, ?_, F.bindsN fun _ _ _ _ _ _ us hl => match us, hl with | [_, _], _ => rfl⟩, g_places_of E, F.kp⟩
  refine F.ok sc_places_of (fun vs H Q E' h => ?len) (fun cdv A outer s H vs Q E' hr h => ⟨_, (pss_cons (ps_expr (pe_H (h_check_word E) (hr.mono (by decide)) (takes_of rfl rfl rfl rfl) (pa_cons (pv 0) (pa_cons (pv 1) pa_nil))))
 (pss_one (ps_ret (pe_callTy (kc_tup (K := K) rfl) rfl (b_tuple E) (by decide +kernel) (pa_cons (pe_lc (own := [("place", 2)]) (g := gName 2) rfl sc_places_of.nd (ki_tup (K := K) rfl (pe_H (h_all_heaps E) (hr.mono (by decide)) (takes_of rfl rfl rfl rfl) (pa_cons (pv 0) pa_nil))) (blkOk_by (own := [("place", 2)]) (N := N_places_of) (sc := defScope s_places_of) (by decide +kernel)) (fun _ _ _ _ _ => (pg_name (i := 2) sc_places_of.nd rfl (.inl rfl))) (fun _ _ _ _ _ => (pts_one (kt_truth (K := K) rfl (pe_op on_and (pe_op on_shr (pv 1) (pv 2)) pe_int) (by intro _; rfl)))) (fun _ _ _ _ _ => (pv 2))) pa_nil))))), ?rd⟩)
  case len =>
    obtain ⟨l, x, rfl, _⟩ := h
    rfl
  case rd =>
    obtain ⟨l, x, rfl, tx, th, hb, hg⟩ := h
    walk_at "rd"
    refine ⟨l, x, rfl, tx, th, hb, fun m e h1 h2 => ?_⟩
    obtain ⟨g1, g2⟩ := hg m e h1 h2
    refine ⟨fun z => ?_, fun z => g1 z⟩
    obtain ⟨n, rfl, n1, n2⟩ := whole_nat z (by decide)
    subst e
    have p5 : 2 ^ m ≤ 32 := Nat.le_trans (Nat.pow_le_pow_right (by decide) h2) (by decide)
    have p0 : 0 < 2 ^ (2 ^ m) := Nat.pow_pos (by decide)
    have nl : n < 2 ^ (2 ^ m) := by
      unfold fullW at n2
      omega
    walk_at "rd"
    refine ⟨.int (m : Int), rfl, ⟨_, th_int _⟩, (fun z => absurd z (by rw [whole_of (by omega) (by omega)]; decide)), fun m2 e h3 h4 p1 H1 hp1 e1 h5 => ?_⟩
    obtain rfl : m = m2 := by injection e with e; omega
    have el : ((intsL (List.range (2 ^ m))).map V.int).length = 2 ^ m := by simp [intsL]
    have at_ : ∀ {i : Nat} {x : V}, ((intsL (List.range (2 ^ m))).map V.int)[i]? = some x → x = .int (i : Int) ∧ i < 2 ^ m := fun {i x} hi => by
      have lt : i < 2 ^ m := by
        have := (List.getElem?_eq_some_iff.mp hi).1
        omega
      unfold intsL at hi
      rw [List.map_map, List.getElem?_map, List.getElem?_range lt] at hi
      exact ⟨(Option.some.inj hi).symm, lt⟩
    refine ⟨p1, rfl, ⟨_, st_of h5⟩, lc_tupT (fun i => n / 2 ^ i % 2 == 1) (fun i => .int (i : Int)) (st_of h5) (by rw [el]; omega) (fun _ => rfl) (fun i x H2 e2 hi H3 e3 R q => ?_) (fun i x H2 e2 hi hf H3 e3 R q => ?_) fun p2 H2 hp2 e2 h6 => ?_⟩
    · obtain ⟨rfl, lt⟩ := at_ hi
      walk_at "rd"
      rw [bne_cast, Nat.and_one_is_mod, mod_test]
      exact q _ (Ex.refl _)
    · obtain ⟨rfl, lt⟩ := at_ hi
      walk_at "rd"
      exact q _ (Ex.refl _)
    · rw [el] at h6
      walk_at "rd"
      refine ⟨p2, _, rfl, .inl ⟨sq_of h6, fun p3 hp3 => ?_⟩⟩
      refine g2 n rfl nl p3 _ (fresh_back (e1.trans e2) hp3) ((e1.trans e2).trans (Ex.new hp3)) ?_
      rw [upd_same]
      unfold given intsL placesN
      rw [List.map_map]
      rfl

end
end Lw

set_option Elab.async false
set_option linter.all false
set_option maxRecDepth 100000
set_option maxHeartbeats 4000000
namespace Lw
open PySem PySem.Spec PyProof.Rows L2 He Evl StX
local macro_rules | `(tactic| walk_at "rd") => `(tactic| (repeat first
  | with_reducible refine rd_seq ?_
  | with_reducible refine rd_asg ?_
  | with_reducible refine rd_ret ?_
  | with_reducible refine rd_next ?_
  | with_reducible refine rd_drop ?_
  | with_reducible refine rd_if ?_
  | with_reducible refine rd_ifE ?_
  | ((with_reducible refine' rd_var ?hv ?_); (case hv => rfl))
  | with_reducible refine rd_c ?_
  | with_reducible refine rd_op ?_
  | with_reducible refine rd_chain ?_
  | with_reducible refine rd_I0 ?_
  | with_reducible refine rd_test ?_
  | with_reducible refine rd_B ?_
  | with_reducible refine rd_bl ?_
  | with_reducible refine rd_not ?_
  | with_reducible refine rd_and ?_
  | with_reducible refine rd_or ?_
  | with_reducible refine rd_andV ?_
  | with_reducible refine rd_orV ?_
  | with_reducible refine rd_notV ?_
  | with_reducible refine rd_cons ?_
  | with_reducible refine rd_nil ?_
  | with_reducible refine rd_CB ?_
  | with_reducible refine rd_callS ?_
  | with_reducible refine rd_raise0 ?_
  | with_reducible refine rd_raise1 ?_
  | with_reducible refine rd_raise2 ?_
  | ((with_reducible refine' rd_eq ?hs ?_); (case hs => rfl))
  | ((with_reducible refine' rd_ne ?hs ?_); (case hs => rfl))
  | ((with_reducible refine' rd_isT ?th ?hT ?_); (case th => assumption); (case hT => decide))
  | with_reducible refine rd_tup ?_
  | with_reducible refine rd_lst ?_
  | with_reducible refine rd_iEnum ?_
  | with_reducible refine rd_iEnumA ?_
  | ((with_reducible refine' rd_ixl ?hl ?hk ?_); (case hl => assumption); (case hk => rfl))
  | with_reducible refine rd_int1 ?_
  | with_reducible refine rd_sub ?_
  | with_reducible refine rd_gcons ?_
  | with_reducible refine rd_gnil ?_
  | with_reducible refine rd_iZip ?_
  | with_reducible refine rd_BM ?_
  | with_reducible refine rd_neg ?_
  | ((with_reducible refine' rd_last ?hl ?_); (case hl => assumption))
  | with_reducible refine rd_lc2 ?_
  | with_reducible refine rd_Rg1 ?_
  | with_reducible refine rd_tupRg ?_
  | with_reducible refine rd_sl ?_
  | with_reducible refine rd_noPart ?_
  | with_reducible refine rd_part ?_
  | with_reducible refine rd_for ?_
  | with_reducible refine rd_iRev ?_
  | with_reducible refine rd_gname ?_
  | with_reducible refine rd_NN ?_
  | with_reducible refine rd_NL ?_
  | with_reducible refine rd_LN ?_
  | ((with_reducible refine' rd_shl1 ?hs ?_); (case hs => omega))
  | ((with_reducible refine' rd_I ?hs ?_); (case hs => first | omega | decide | exact ⟨by decide, by decide, by decide⟩ | exact ⟨by omega, by omega⟩))
  | with_reducible refine rd_tr ?_
  | with_reducible refine rd_trI ?_
  | with_reducible refine rd_star ?_
  | with_reducible refine rd_fmtB ?_
  | with_reducible refine rd_M1 ?_
  | with_reducible refine rd_un ?_
  | with_reducible refine rd_lc ?_
  | with_reducible refine rd_iT ?_
  | with_reducible refine rd_iL ?_
  | with_reducible refine rd_iR1 ?_
  | with_reducible refine rd_iR2 ?_
  | dsimp only [List.set, start]))
section
variable {P : Program} {w : World} {K : PySem.W.Frag} {mg : Str → Option Value} {base : Heap}

theorem word_lt {m n : Nat} (h : (n : Int) ≤ ((fullW m : Nat) : Int)) : n < 2 ^ (2 ^ m) := by
  have p0 : 0 < 2 ^ (2 ^ m) := Nat.pow_pos (by decide)
  unfold fullW at h
  omega
theorem word_le {m n : Nat} (h : n < 2 ^ (2 ^ m)) : (n : Int) ≤ ((fullW m : Nat) : Int) := by
  have p0 : 0 < 2 ^ (2 ^ m) := Nat.pow_pos (by decide)
  unfold fullW
  omega
theorem word_200 {m n : Nat} (hm : m ≤ 5) (h : n < 2 ^ (2 ^ m)) : n < 4294967296 := Nat.lt_of_lt_of_le h (Nat.le_trans (Nat.pow_le_pow_right (by decide) (Nat.pow_le_pow_right (by decide) hm)) (by decide))
theorem h_heaps_of (E : Ctx K mg) : Has P w K mg base 8 "heaps_of" ["letters", "word"] (spOfWord (fun m n => placesN m (stepN m n)) K) := by
  obtain ⟨fd, F⟩ := f_heaps_of E
  refine ⟨⟨fd, ?_, F.bindsN fun _ _ _ _ _ _ us hl => match us, hl with | [_, _], _ => rfl⟩, g_heaps_of E, F.kp⟩
  refine F.ok sc_heaps_of (fun vs H Q E' h => ?len) (fun cdv A outer s H vs Q E' hr h => ⟨_, (pss_one (ps_ret (pe_H (h_places_of E) (hr.mono (by decide)) (takes_of rfl rfl rfl rfl) (pa_cons (pv 0) (pa_cons (pe_H (h__stepped E) (hr.mono (by decide)) (takes_of rfl rfl rfl rfl) (pa_cons (pv 0) (pa_cons (pe_H (h_check_word E) (hr.mono (by decide)) (takes_of rfl rfl rfl rfl) (pa_cons (pv 0) (pa_cons (pv 1) pa_nil))) pa_nil))) pa_nil))))), ?rd⟩)
  case len =>
    obtain ⟨l, x, rfl, _⟩ := h
    rfl
  case rd =>
    obtain ⟨l, x, rfl, tx, th, hb, hg⟩ := h
    walk_at "rd"
    refine ⟨l, x, rfl, tx, th, hb, fun m e h1 h2 => ?_⟩
    obtain ⟨g1, g2⟩ := hg m e h1 h2
    refine ⟨fun z => ?_, fun z => g1 z⟩
    obtain ⟨n, rfl, n1, n2⟩ := whole_nat z (by decide)
    subst e
    have nl := word_lt n2
    walk_at "rd"
    refine ⟨m, n, rfl, h2, nl, ?_⟩
    have sl : stepN m n < 2 ^ (2 ^ m) := stepN_lt h2 nl m (Nat.le_refl m)
    walk_at "rd"
    refine ⟨.int (m : Int), .int ((stepN m n : Nat) : Int), rfl, ⟨_, th_int _⟩, ⟨_, th_int _⟩, (fun z => absurd z (by rw [whole_of (by omega) (by omega)]; decide)), fun m2 e h3 h4 => ?_⟩
    obtain rfl : m = m2 := by injection e with e; omega
    refine ⟨fun z => absurd z (by rw [whole_of (by omega) (word_le sl)]; decide), fun k ek kl => ?_⟩
    obtain rfl : stepN m n = k := by injection ek with ek; omega
    exact g2 n rfl nl
def spNumOf (fn : Nat → Nat) (K : PySem.W.Frag) : Sp := fun vs H Q E => ∃ l x : V, vs = [l, x] ∧ Thg K H x ∧ Let K l E H fun m =>
  (wholeV 0 ((fullW m : Nat) : Int) x = false → Er K "BadWord" [("index", .int 0)] E H) ∧ ∀ n : Nat, x = .int n → n < 2 ^ (2 ^ m) → Q (.int ((fn n : Nat) : Int)) H
theorem h_weight_of (E : Ctx K mg) : Has P w K mg base 7 "weight_of" ["letters", "word"] (spNumOf onesN K) := by
  obtain ⟨fd, F⟩ := f_weight_of E
  refine ⟨⟨fd, ?_, F.bindsN fun _ _ _ _ _ _ us hl => match us, hl with | [_, _], _ => rfl⟩, g_weight_of E, F.kp⟩
  refine F.ok sc_weight_of (fun vs H Q E' h => ?len) (fun cdv A outer s H vs Q E' hr h => ⟨_, (pss_one (ps_ret (pe_H (h_count_ones E) (hr.mono (by decide)) (takes_of rfl rfl rfl rfl) (pa_cons (pe_H (h_check_word E) (hr.mono (by decide)) (takes_of rfl rfl rfl rfl) (pa_cons (pv 0) (pa_cons (pv 1) pa_nil))) pa_nil)))), ?rd⟩)
  case len =>
    obtain ⟨l, x, rfl, _⟩ := h
    rfl
  case rd =>
    obtain ⟨l, x, rfl, tx, th, hb, hg⟩ := h
    walk_at "rd"
    refine ⟨l, x, rfl, tx, th, hb, fun m e h1 h2 => ?_⟩
    obtain ⟨g1, g2⟩ := hg m e h1 h2
    refine ⟨fun z => ?_, fun z => g1 z⟩
    obtain ⟨n, rfl, n1, n2⟩ := whole_nat z (by decide)
    have nl := word_lt n2
    have n200 := word_200 h2 nl
    walk_at "rd"
    exact ⟨n, rfl, by omega, g2 n rfl nl⟩
def spValueAt (K : PySem.W.Frag) : Sp := fun vs H Q E => ∃ l x y : V, vs = [l, x, y] ∧ Thg K H x ∧ Thg K H y ∧ Let K l E H fun m =>
  (wholeV 0 ((fullW m : Nat) : Int) x = false → Er K "BadWord" [("index", .int 0)] E H) ∧
  (wholeV 0 ((fullW m : Nat) : Int) x = true → wholeV 0 ((2 ^ m - 1 : Nat) : Int) y = false → Er K "BadPlaces" [("index", .int 0)] E H) ∧
  ∀ n p : Nat, x = .int n → y = .int p → n < 2 ^ (2 ^ m) → p < 2 ^ m → Q (.int ((n / 2 ^ p % 2 : Nat) : Int)) H
theorem h_value_at (E : Ctx K mg) : Has P w K mg base 7 "value_at" ["letters", "word", "place"] (spValueAt K) := by
  obtain ⟨fd, F⟩ := f_value_at E
  refine ⟨⟨fd, ?_, F.bindsN fun _ _ _ _ _ _ us hl => match us, hl with | [_, _, _], _ => rfl⟩, g_value_at E, F.kp⟩
  refine F.ok sc_value_at (fun vs H Q E' h => ?len) (fun cdv A outer s H vs Q E' hr h => ⟨_, (pss_cons (ps_expr (pe_H (h_check_word E) (hr.mono (by decide)) (takes_of rfl rfl rfl rfl) (pa_cons (pv 0) (pa_cons (pv 1) pa_nil))))
 (pss_cons (ps_if (pt_not (pt_val (pe_H (h_is_whole E) (hr.mono (by decide)) (takes_of rfl rfl rfl rfl) (pa_cons (pv 2) (pa_cons pe_int (pa_cons (pe_H (h_all_letters E) (hr.mono (by decide)) (takes_of rfl rfl rfl rfl) (pa_cons (pv 0) pa_nil)) pa_nil))))))
 (pss_one (ps_raise1 rfl (takes_of rfl rfl rfl rfl) (i_BadPlaces E) (hr.mono (by decide)) pe_int))
 pss_nil)
 (pss_one (ps_ret (pe_op on_and (pe_op on_shr (pv 1) (pv 2)) pe_int))))), ?rd⟩)
  case len =>
    obtain ⟨l, x, y, rfl, _⟩ := h
    rfl
  case rd =>
    obtain ⟨l, x, y, rfl, tx, ty, th, hb, hg⟩ := h
    walk_at "rd"
    refine ⟨l, x, rfl, tx, th, hb, fun m e h1 h2 => ?_⟩
    obtain ⟨g1, g2, g3⟩ := hg m e h1 h2
    refine ⟨fun zx => ?_, fun z => g1 z⟩
    walk_at "rd"
    refine ⟨l, rfl, th, hb, fun m2 e2 h3 h4 => ?_⟩
    obtain rfl : m = m2 := by
      rw [e] at e2
      injection e2 with e2
      omega
    walk_at "rd"
    refine ⟨y, 0, _, rfl, ty, ?_⟩
    walk_at "rd"
    refine ⟨fun z => ?_, fun z => ?_⟩
    · walk_at "rd"
      exact rd_mk1 (g2 zx (not_true z))
    · obtain ⟨n, rfl, n1, n2⟩ := whole_nat zx (by decide)
      obtain ⟨p, rfl, p1, p2⟩ := whole_nat (not_false z) (by decide)
      have p0 : 0 < 2 ^ m := Nat.pow_pos (by decide)
      walk_at "rd"
      rw [Nat.and_one_is_mod]
      exact g3 n p rfl rfl (word_lt n2) (by omega)
def spMeets (K : PySem.W.Frag) : Sp := fun vs H Q E => ∃ l x y : V, vs = [l, x, y] ∧ Thg K H x ∧ Thg K H y ∧ Let K l E H fun m =>
  (wholeV 0 ((fullW m : Nat) : Int) x = false → Er K "BadWord" [("index", .int 0)] E H) ∧
  (wholeV 0 ((fullW m : Nat) : Int) x = true → wholeV 0 ((fullW m : Nat) : Int) y = false → Er K "BadWord" [("index", .int 0)] E H) ∧
  ∀ n k : Nat, x = .int n → y = .int k → n < 2 ^ (2 ^ m) → k < 2 ^ (2 ^ m) → Q (.bl (onesN (n &&& k) % 2 == 0)) H
theorem h_meets_evenly (E : Ctx K mg) : Has P w K mg base 7 "meets_evenly" ["letters", "word", "other"] (spMeets K) := by
  obtain ⟨fd, F⟩ := f_meets_evenly E
  refine ⟨⟨fd, ?_, F.bindsN fun _ _ _ _ _ _ us hl => match us, hl with | [_, _, _], _ => rfl⟩, g_meets_evenly E, F.kp⟩
  refine F.ok sc_meets_evenly (fun vs H Q E' h => ?len) (fun cdv A outer s H vs Q E' hr h => ⟨_, (pss_one (ps_ret (pe_cmpR op_eq (pe_H (h_parity_of E) (hr.mono (by decide)) (takes_of rfl rfl rfl rfl) (pa_cons (pe_op on_and (pe_H (h_check_word E) (hr.mono (by decide)) (takes_of rfl rfl rfl rfl) (pa_cons (pv 0) (pa_cons (pv 1) pa_nil))) (pe_H (h_check_word E) (hr.mono (by decide)) (takes_of rfl rfl rfl rfl) (pa_cons (pv 0) (pa_cons (pv 2) pa_nil)))) pa_nil)) pe_int (nomark _)))), ?rd⟩)
  case len =>
    obtain ⟨l, x, y, rfl, _⟩ := h
    rfl
  case rd =>
    obtain ⟨l, x, y, rfl, tx, ty, th, hb, hg⟩ := h
    walk_at "rd"
    refine ⟨l, x, rfl, tx, th, hb, fun m e h1 h2 => ?_⟩
    obtain ⟨g1, g2, g3⟩ := hg m e h1 h2
    refine ⟨fun zx => ?_, fun z => g1 z⟩
    walk_at "rd"
    refine ⟨l, y, rfl, ty, th, hb, fun m2 e2 h3 h4 => ?_⟩
    obtain rfl : m = m2 := by
      rw [e] at e2
      injection e2 with e2
      omega
    refine ⟨fun zy => ?_, fun z => g2 zx z⟩
    obtain ⟨n, rfl, n1, n2⟩ := whole_nat zx (by decide)
    obtain ⟨k, rfl, k1, k2⟩ := whole_nat zy (by decide)
    have nl := word_lt n2
    have n200 := word_200 h2 nl
    have al : n &&& k ≤ n := Nat.and_le_left
    walk_at "rd"
    refine ⟨n &&& k, rfl, by omega, ?_⟩
    walk_at "rd"
    have ez : decide (V.int ((onesN (n &&& k) % 2 : Nat) : Int) = V.int 0) = (onesN (n &&& k) % 2 == 0) := by
      rcases Nat.mod_two_eq_zero_or_one (onesN (n &&& k)) with h | h <;> rw [h] <;> rfl
    rw [ez]
    exact g3 n k rfl rfl nl (word_lt k2)

end
end Lw

set_option Elab.async false
set_option linter.all false
set_option maxRecDepth 100000
set_option maxHeartbeats 4000000
namespace Lw
open PySem PySem.Spec PyProof.Rows L2 He Evl StX
local macro_rules | `(tactic| walk_at "rd") => `(tactic| (repeat first
  | with_reducible refine rd_seq ?_
  | with_reducible refine rd_asg ?_
  | with_reducible refine rd_ret ?_
  | with_reducible refine rd_next ?_
  | with_reducible refine rd_drop ?_
  | with_reducible refine rd_if ?_
  | with_reducible refine rd_ifE ?_
  | ((with_reducible refine' rd_var ?hv ?_); (case hv => rfl))
  | with_reducible refine rd_c ?_
  | with_reducible refine rd_op ?_
  | with_reducible refine rd_chain ?_
  | with_reducible refine rd_I0 ?_
  | with_reducible refine rd_test ?_
  | with_reducible refine rd_B ?_
  | with_reducible refine rd_bl ?_
  | with_reducible refine rd_not ?_
  | with_reducible refine rd_and ?_
  | with_reducible refine rd_or ?_
  | with_reducible refine rd_andV ?_
  | with_reducible refine rd_orV ?_
  | with_reducible refine rd_notV ?_
  | with_reducible refine rd_cons ?_
  | with_reducible refine rd_nil ?_
  | with_reducible refine rd_CB ?_
  | with_reducible refine rd_callS ?_
  | with_reducible refine rd_raise0 ?_
  | with_reducible refine rd_raise1 ?_
  | with_reducible refine rd_raise2 ?_
  | ((with_reducible refine' rd_eq ?hs ?_); (case hs => rfl))
  | ((with_reducible refine' rd_ne ?hs ?_); (case hs => rfl))
  | ((with_reducible refine' rd_isT ?th ?hT ?_); (case th => assumption); (case hT => decide))
  | with_reducible refine rd_tup ?_
  | with_reducible refine rd_lst ?_
  | with_reducible refine rd_iEnum ?_
  | with_reducible refine rd_iEnumA ?_
  | ((with_reducible refine' rd_ixl ?hl ?hk ?_); (case hl => assumption); (case hk => rfl))
  | with_reducible refine rd_int1 ?_
  | with_reducible refine rd_sub ?_
  | with_reducible refine rd_gcons ?_
  | with_reducible refine rd_gnil ?_
  | with_reducible refine rd_iZip ?_
  | with_reducible refine rd_BM ?_
  | with_reducible refine rd_neg ?_
  | ((with_reducible refine' rd_last ?hl ?_); (case hl => assumption))
  | with_reducible refine rd_lc2 ?_
  | with_reducible refine rd_Rg1 ?_
  | with_reducible refine rd_tupRg ?_
  | with_reducible refine rd_sl ?_
  | with_reducible refine rd_noPart ?_
  | with_reducible refine rd_part ?_
  | with_reducible refine rd_for ?_
  | with_reducible refine rd_iRev ?_
  | with_reducible refine rd_gname ?_
  | with_reducible refine rd_NN ?_
  | with_reducible refine rd_NL ?_
  | with_reducible refine rd_LN ?_
  | ((with_reducible refine' rd_shl1 ?hs ?_); (case hs => omega))
  | ((with_reducible refine' rd_I ?hs ?_); (case hs => first | omega | decide | exact ⟨by decide, by decide, by decide⟩ | exact ⟨by omega, by omega⟩))
  | with_reducible refine rd_tr ?_
  | with_reducible refine rd_trI ?_
  | with_reducible refine rd_star ?_
  | with_reducible refine rd_fmtB ?_
  | with_reducible refine rd_M1 ?_
  | with_reducible refine rd_un ?_
  | with_reducible refine rd_lc ?_
  | with_reducible refine rd_iT ?_
  | with_reducible refine rd_iL ?_
  | with_reducible refine rd_iR1 ?_
  | with_reducible refine rd_iR2 ?_
  | dsimp only [List.set, start]))
section
variable {P : Program} {w : World} {K : PySem.W.Frag} {mg : Str → Option Value} {base : Heap}

def spMix : Sp := fun vs H Q _ => ∃ a b : Int, vs = [.int a, .int b] ∧ (0 ≤ a ∧ a < 2147483648) ∧ (0 ≤ b ∧ b < 1024) ∧ ∀ r : Int, 0 ≤ r → r < 2147483648 → Q (.int r) H
theorem h__law_mix (E : Ctx K mg) : Has P w K mg base 2 "_law_mix" ["_law_number", "_law_turn"] (spMix) := by
  obtain ⟨fd, F⟩ := f__law_mix E
  refine ⟨⟨fd, ?_, F.bindsN fun _ _ _ _ _ _ us hl => match us, hl with | [_, _], _ => rfl⟩, g__law_mix E, F.kp⟩
  refine F.ok sc__law_mix (fun vs H Q E' h => ?len) (fun cdv A outer s H vs Q E' hr h => ⟨_, (pss_cons (ps_set (i := 2) sc__law_mix.nd rfl (.inl rfl) (pe_op op_modN (pe_callTy call_int1 rfl (b_int E) (by decide +kernel) (pa_cons (pe_op op_add (pe_op op_add (pe_op op_mulX (pv 0) pe_int) (pe_op op_mulX (pv 1) pe_int)) pe_int) pa_nil)) pe_int))
 (pss_cons (ps_set (i := 3) sc__law_mix.nd rfl (.inl rfl) (pe_op op_modN (pe_callTy call_int1 rfl (b_int E) (by decide +kernel) (pa_cons (pe_op op_add (pe_op op_add (pe_op op_mulX (pv 2) (pv 2)) (pe_op op_mulX (pe_op op_fdivW (pv 2) pe_int) pe_int)) (pe_op op_mulX (pv 1) pe_int)) pa_nil)) pe_int))
 (pss_one (ps_ret (pe_op op_fdivW (pe_op op_modN (pe_callTy call_int1 rfl (b_int E) (by decide +kernel) (pa_cons (pe_op op_add (pe_op op_fdivW (pe_op op_mulX (pv 3) (pv 3)) pe_int) (pv 2)) pa_nil)) pe_int) pe_int))))), ?rd⟩)
  case len =>
    obtain ⟨a, b, rfl, _⟩ := h
    rfl
  case rd =>
    obtain ⟨a, b, rfl, ⟨ha, ha2⟩, ⟨hb, hb2⟩, q⟩ := h
    walk_at "rd"
    refine rd_I (mulx_ok (a := 31) (b := 16) (by omega) (by decide) (by decide)) ?_
    walk_at "rd"
    refine rd_I (mulx_ok (a := 10) (b := 16) (by omega) (by decide) (by decide)) ?_
    walk_at "rd"
    obtain ⟨o1, o2⟩ := fmod_bd (a * 48271 + b * 30269 + 101) (j := 2147483647) (by decide)
    generalize (a * 48271 + b * 30269 + 101).fmod 2147483647 = x at o1 o2 ⊢
    refine rd_I (mulx_ok (a := 31) (b := 31) (by omega) (by omega) (by decide)) ?_
    walk_at "rd"
    refine rd_I (wide_div (b := 8) (by decide) (by decide) (by decide) (by decide)) ?_
    walk_at "rd"
    obtain ⟨d1, d2⟩ := div_bd o1 (j := 211) (by decide)
    generalize x / 211 = y at d1 d2 ⊢
    refine rd_I (mulx_ok (a := 31) (b := 17) (by omega) (by decide) (by decide)) ?_
    walk_at "rd"
    refine rd_I (mulx_ok (a := 10) (b := 13) (by omega) (by decide) (by decide)) ?_
    walk_at "rd"
    obtain ⟨p1, p2⟩ := fmod_bd (x * x + y * 69621 + b * 7919) (j := 2147483629) (by decide)
    generalize (x * x + y * 69621 + b * 7919).fmod 2147483629 = z at p1 p2 ⊢
    refine rd_I (mulx_ok (a := 31) (b := 31) (by omega) (by omega) (by decide)) ?_
    walk_at "rd"
    refine rd_I (wide_div (b := 11) (by decide) (by decide) (by decide) (by decide)) ?_
    walk_at "rd"
    obtain ⟨e1, e2⟩ := fmod_bd (z * z / 2003 + x) (j := 2147483587) (by decide)
    generalize (z * z / 2003 + x).fmod 2147483587 = u at e1 e2 ⊢
    refine rd_I (wide_div (b := 4) (by decide) (by decide) (by decide) (by decide)) ?_
    obtain ⟨f1, f2⟩ := div_bd e1 (j := 8) (by decide)
    exact q _ f1 (by omega)
def spDraw (K : PySem.W.Frag) : Sp := fun vs H Q _ => ∃ (h : Addr) (m : Int), vs = [.ref h, .int m] ∧ Hand H h ∧ (0 < m ∧ m < 2 ^ 200) ∧ ∀ (r : Nat) (H' : Hp), (r : Int) < m → Dh h H H' → Hand H' h → Q (.int (r : Int)) H'
theorem h__law_draw (E : Ctx K mg) : Has P w K mg base 3 "_law_draw" ["_law_hand_here", "_law_many"] (spDraw K) := by
  obtain ⟨fd, F⟩ := f__law_draw E
  refine ⟨⟨fd, ?_, F.bindsN fun _ _ _ _ _ _ us hl => match us, hl with | [_, _], _ => rfl⟩, g__law_draw E, F.kp⟩
  refine F.ok sc__law_draw (fun vs H Q E' h => ?len) (fun cdv A outer s H vs Q E' hr h => ⟨_, (pss_cons (ps_if (PW.pt (pw_and (pt_cmpR op_eq (pe_ix (kx_list (K := K) rfl) (pv 0) pe_int (fun _ _ => rfl)) pe_int (nomark _)) (pw_and1 (pt_cmpR op_lt (pe_ix (kx_list (K := K) rfl) (pv 0) pe_int (fun _ _ => rfl)) (pe_callB (kc_len (K := K) rfl) rfl (b_len E) (by decide +kernel) (pa_cons (pe_ix (kx_list (K := K) rfl) (pv 0) pe_int (fun _ _ => rfl)) pa_nil)) (nomark _)))))
 (pss_cons (ps_set (i := 2) sc__law_draw.nd rfl (.inl rfl) (pe_ix (kx_list (K := K) rfl) (pe_ix (kx_list (K := K) rfl) (pv 0) pe_int (fun _ _ => rfl)) (pe_ix (kx_list (K := K) rfl) (pv 0) pe_int (fun _ _ => rfl)) (fun _ _ => rfl)))
 (pss_cons (ps_asg (pe_op op_add (pe_ix (kx_list (K := K) rfl) (pv 0) pe_int (fun _ _ => rfl)) pe_int) (pg_sub (pv 0) pe_int set_list))
 (pss_cons (ps_if (pt_cmpR op_lt (pv 2) (pe_op op_pow pe_int pe_int) (nomark _))
 (pss_one (ps_ret (pe_op op_modN (pe_callTy call_int1 rfl (b_int E) (by decide +kernel) (pa_cons (pe_H (h__law_mix E) (hr.mono (by decide)) (takes_of rfl rfl rfl rfl) (pa_cons (pe_op op_modN (pe_callTy call_int1 rfl (b_int E) (by decide +kernel) (pa_cons (pv 2) pa_nil)) pe_int) (pa_cons (pe_ix (kx_list (K := K) rfl) (pv 0) pe_int (fun _ _ => rfl)) pa_nil))) pa_nil)) (pv 1))))
 pss_nil)
 (pss_one (ps_asg (pv 2) (pg_sub (pv 0) pe_int set_list))))))
 pss_nil)
 (pss_cons (ps_if (pt_cmpR op_gt (pe_ix (kx_list (K := K) rfl) (pv 0) pe_int (fun _ _ => rfl)) pe_int (nomark _))
 (pss_cons (ps_set (i := 3) sc__law_draw.nd rfl (.inl rfl) (pe_ix (kx_list (K := K) rfl) (pv 0) pe_int (fun _ _ => rfl)))
 (pss_cons (ps_asg (pe_op op_fdivW (pv 3) (pv 1)) (pg_sub (pv 0) pe_int set_list))
 (pss_one (ps_ret (pe_op op_modN (pe_callTy call_int1 rfl (b_int E) (by decide +kernel) (pa_cons (pv 3) pa_nil)) (pv 1))))))
 pss_nil)
 (pss_cons (ps_asg (pe_op op_modN (pe_callTy call_int1 rfl (b_int E) (by decide +kernel) (pa_cons (pe_op op_add (pe_ix (kx_list (K := K) rfl) (pv 0) pe_int (fun _ _ => rfl)) pe_int) pa_nil)) pe_int) (pg_sub (pv 0) pe_int set_list))
 (pss_one (ps_ret (pe_op op_modN (pe_callTy call_int1 rfl (b_int E) (by decide +kernel) (pa_cons (pe_H (h__law_mix E) (hr.mono (by decide)) (takes_of rfl rfl rfl rfl) (pa_cons (pe_ix (kx_list (K := K) rfl) (pv 0) pe_int (fun _ _ => rfl)) (pa_cons (pe_ix (kx_list (K := K) rfl) (pv 0) pe_int (fun _ _ => rfl)) pa_nil))) pa_nil)) (pv 1))))))), ?rd⟩)
  case len =>
    obtain ⟨h0, m, rfl, _⟩ := h
    rfl
  case rd =>
    obtain ⟨h0, m, rfl, ⟨c, cells, i, r, t, hh, hc, hne, hz, hi, hl, hr0, hrb, ht0, ht1⟩, ⟨hm0, hm1⟩, q⟩ := h
    have fin : ∀ (x : Int) (H' : Hp), Dh h0 H H' → Hand H' h0 → Q (.int (x.fmod m)) H' := fun x H' d hd => by
      obtain ⟨f1, f2⟩ := fmod_bd x hm0
      have e : x.fmod m = ((x.fmod m).toNat : Int) := by omega
      rw [e]
      exact q _ H' (by omega) d hd
    have hcl : (cells.map V.int).length = cells.length := by simp
    refine rd_mid (fun σ H' => ∃ (v1 v2 : Option V) (i' : Nat) (r' : Int), σ = [some (.ref h0), some (.int m), v1, v2] ∧ Dh h0 H H' ∧ H' h0 = some (.lst [.ref c, .int (i' : Int), .int r', .int t]) ∧ H' c = some (.lst (cells.map V.int)) ∧ i' ≤ cells.length ∧ 0 ≤ r' ∧ bits r' ≤ 1048576) (fun N hN => ?_) ?_
    · walk_at "rd"
      have stay : N (L2.start N__law_draw [V.ref h0, V.int m]) H := hN _ _ ⟨none, none, i, r, rfl, Dh.refl _ _, hh, hc, hi, hr0, hrb⟩
      refine ⟨fun z => ?_, fun z => ⟨(fun z => nomatch z), fun _ => stay⟩⟩
      walk_at "rd"
      refine ⟨c, _, rfl, .inl (sq_of hc), ?_⟩
      walk_at "rd"
      refine ⟨fun z2 => ?_, fun z2 => stay⟩
      have hi2 : i < cells.length := by
        have := of_decide_eq_true z2
        rw [hcl] at this
        omega
      walk_at "rd"
      have hx : (cells.map V.int)[i]? = some (.int cells[i]) := by
        rw [List.getElem?_map, List.getElem?_eq_getElem hi2]
        rfl
      obtain ⟨x0, xb⟩ := hz cells[i] (List.getElem_mem hi2)
      refine rd_ix (sq_of hc) hx ?_
      walk_at "rd"
      refine rd_setH (k := 1) hh (by show 1 < 4; omega) ?_
      have e1 : ((i : Nat) : Int) + 1 = ((i + 1 : Nat) : Int) := by omega
      rw [e1]
      have hh1 : upd H h0 (.lst ([V.ref c, V.int (i : Int), V.int r, V.int t].set 1 (V.int ((i + 1 : Nat) : Int)))) h0 = some (.lst [.ref c, .int ((i + 1 : Nat) : Int), .int r, .int t]) := upd_same
      have hc1 : upd H h0 (.lst ([V.ref c, V.int (i : Int), V.int r, V.int t].set 1 (V.int ((i + 1 : Nat) : Int)))) c = some (.lst (cells.map V.int)) := by rw [upd_ne hne]; exact hc
      have d1 : Dh h0 H (upd H h0 (.lst ([V.ref c, V.int (i : Int), V.int r, V.int t].set 1 (V.int ((i + 1 : Nat) : Int))))) := Dh.upd
      generalize upd H h0 (.lst ([V.ref c, V.int (i : Int), V.int r, V.int t].set 1 (V.int ((i + 1 : Nat) : Int)))) = H1 at hh1 hc1 d1 ⊢
      walk_at "rd"
      refine ⟨fun z3 => ?_, fun z3 => ?_⟩
      · walk_at "rd"
        obtain ⟨f1, f2⟩ := fmod_bd cells[i] (j := 2147483647) (by decide)
        refine ⟨_, _, rfl, ⟨f1, by omega⟩, ⟨by omega, by omega⟩, fun u u0 u1 => ?_⟩
        walk_at "rd"
        exact fin u H1 d1 (Hand.mk hh1 hc1 hne hz (by omega) hl hr0 hrb ht0 ht1)
      · walk_at "rd"
        refine rd_setH (k := 2) hh1 (by show 2 < 4; omega) ?_
        refine hN _ _ ⟨_, none, i + 1, cells[i], rfl, d1.trans Dh.upd, upd_same, by rw [upd_ne hne]; exact hc1, by omega, x0, xb⟩
    · rintro σ H1 ⟨v1, v2, i', r', rfl, d1, hh1, hc1, hi', hr', hrb'⟩
      walk_at "rd"
      refine ⟨fun z => ?_, fun z => ?_⟩
      · walk_at "rd"
        refine rd_I (wide_div (b := 200) hm0 (by omega) (by decide) (by decide)) ?_
        walk_at "rd"
        obtain ⟨q0, q1⟩ := div_bd hr' hm0
        refine rd_setH (k := 2) hh1 (by show 2 < 4; omega) ?_
        walk_at "rd"
        exact fin r' _ (d1.trans Dh.upd) (Hand.mk upd_same (by rw [upd_ne hne]; exact hc1) hne hz hi' hl q0 (Nat.le_trans (bits_mono q0 q1) hrb') ht0 ht1)
      · walk_at "rd"
        obtain ⟨f1, f2⟩ := fmod_bd (t + 1) (j := 2147483629) (by decide)
        refine rd_setH (k := 3) hh1 (by show 3 < 4; omega) ?_
        have hh2 : upd H1 h0 (.lst ([V.ref c, V.int (i' : Int), V.int r', V.int t].set 3 (V.int ((t + 1).fmod 2147483629)))) h0 = some (.lst [.ref c, .int (i' : Int), .int r', .int ((t + 1).fmod 2147483629)]) := upd_same
        have hc2 : upd H1 h0 (.lst ([V.ref c, V.int (i' : Int), V.int r', V.int t].set 3 (V.int ((t + 1).fmod 2147483629)))) c = some (.lst (cells.map V.int)) := by rw [upd_ne hne]; exact hc1
        have d2 : Dh h0 H (upd H1 h0 (.lst ([V.ref c, V.int (i' : Int), V.int r', V.int t].set 3 (V.int ((t + 1).fmod 2147483629))))) := d1.trans Dh.upd
        generalize upd H1 h0 (.lst ([V.ref c, V.int (i' : Int), V.int r', V.int t].set 3 (V.int ((t + 1).fmod 2147483629)))) = H2 at hh2 hc2 d2 ⊢
        walk_at "rd"
        refine ⟨_, _, rfl, ⟨f1, by omega⟩, ⟨by omega, by omega⟩, fun u u0 u1 => ?_⟩
        walk_at "rd"
        exact fin u H2 d2 (Hand.mk hh2 hc2 hne hz hi' hl hr' hrb' f1 f2)
def spHand (K : PySem.W.Frag) : Sp := fun vs H Q _ => ∃ (a : Addr) (ns : List Int), vs = [.ref a] ∧ SqL K H a (ns.map V.int) ∧ ns.length ≤ 63 ∧ (∀ z ∈ ns, bits z ≤ 1048576) ∧ ∀ (h : Addr) (H' : Hp), H h = none → Ex H H' → Hand H' h → Q (.ref h) H'
theorem h__law_hand (E : Ctx K mg) : Has P w K mg base 2 "_law_hand" ["_law_script"] (spHand K) := by
  obtain ⟨fd, F⟩ := f__law_hand E
  refine ⟨⟨fd, ?_, F.bindsN fun _ _ _ _ _ _ us hl => match us, hl with | [_], _ => rfl⟩, g__law_hand E, F.kp⟩
  refine F.ok sc__law_hand (fun vs H Q E' h => ?len) (fun cdv A outer s H vs Q E' hr h => ⟨_, (pss_cons (ps_set (i := 1) sc__law_hand.nd rfl (.inl rfl) pe_int)
 (pss_cons (ps_for (passes_of rfl) rfl (pi_enum rfl (b_enumerate E) (pa_cons (pv 0) pa_nil)) (pg_tup rfl (pgs_cons (pg_name (i := 2) sc__law_hand.nd rfl (.inl rfl)) (pgs_cons (pg_name (i := 3) sc__law_hand.nd rfl (.inl rfl)) pgs_nil)))
 (pss_one (ps_set (i := 1) sc__law_hand.nd rfl (.inl rfl) (pe_op op_modN (pe_callTy call_int1 rfl (b_int E) (by decide +kernel) (pa_cons (pe_op op_add (pe_op op_mulX (pv 1) pe_int) (pe_op op_mulX (pe_callTy call_int1 rfl (b_int E) (by decide +kernel) (pa_cons (pv 3) pa_nil)) (pe_op op_add (pe_op op_mulX pe_int (pv 2)) pe_int))) pa_nil)) pe_int))))
 (pss_one (ps_ret (pe_lst (pa_cons (pe_lc (own := [("_law_cell", 3)]) (g := gName 3) (tt := tYes) rfl sc__law_hand.nd (ki_list (K := K) rfl (pv 0)) (blkOk_by (own := [("_law_cell", 3)]) (N := N__law_hand) (sc := defScope s__law_hand) (by decide +kernel)) (fun _ _ _ _ _ => (pg_name (i := 3) sc__law_hand.nd rfl (.inl rfl))) (fun _ _ _ _ _ => pts_nil) (fun _ _ _ _ _ => (pe_callB call_abs rfl (b_abs E) (by decide +kernel) (pa_cons (pe_callTy call_int1 rfl (b_int E) (by decide +kernel) (pa_cons (pv 3) pa_nil)) pa_nil)))) (pa_cons pe_int (pa_cons pe_int (pa_cons (pv 1) pa_nil))))))))), ?rd⟩)
  case len =>
    obtain ⟨a, ns, rfl, _⟩ := h
    rfl
  case rd =>
    obtain ⟨a, ns, rfl, hs, hl, hb, q⟩ := h
    have hcl : (ns.map V.int).length = ns.length := by simp
    have item : ∀ {i : Nat} {x : V}, (ns.map V.int)[i]? = some x → ∃ z, z ∈ ns ∧ ns[i]? = some z ∧ x = .int z := fun {i x} hx => by
      rw [List.getElem?_map] at hx
      cases e : ns[i]? with
      | none => rw [e] at hx; cases hx
      | some z => rw [e] at hx; exact ⟨z, List.mem_of_getElem? e, rfl, (Option.some.inj hx).symm⟩
    walk_at "rd"
    refine ⟨a, _, rfl, hs, for_it walk_enum (fun i σ H' => ∃ (t : Int) (v2 v3 : Option V), σ = [some (.ref a), some (.int t), v2, v3] ∧ Ex H H' ∧ 0 ≤ t ∧ t < 2147483629) ⟨17, none, none, rfl, Ex.refl H, by decide, by decide⟩ (fun i σ H' _ ⟨_, _, _, _, e, _⟩ => ex_l e hs) ?_ ?_⟩
    · rintro i x σ H1 H2 hi ⟨t, v2, v3, rfl, e1, t0, t1⟩ ⟨T, p, y, rfl, hT, rfl, hp, hy⟩
      obtain rfl : V.int ((i : Nat) : Int) = p := Option.some.inj hp
      obtain ⟨z, hz, _, rfl⟩ := item hy
      refine ⟨T, _, rfl, st_of upd_same, rfl, ?_⟩
      walk_at "rd"
      refine rd_I (mulx_ok (a := 31) (b := 6) (by omega) (by decide) (by decide)) ?_
      walk_at "rd"
      refine rd_I (mulx_ok (a := 2) (b := 20) (by decide) (by rw [hcl] at hi; omega) (by decide)) ?_
      walk_at "rd"
      refine rd_I (mulx_bits (a := 1048576) (b := 20) (hb z hz) (bits_le (by rw [hcl] at hi; omega)) (by decide)) ?_
      walk_at "rd"
      obtain ⟨f1, f2⟩ := fmod_bd (t * 37 + z * (2 * ((i : Nat) : Int) + 3)) (j := 2147483629) (by decide)
      exact ⟨_, _, _, rfl, e1.trans (Ex.new hT), f1, f2⟩
    · rintro σ H1 ⟨t, v2, v3, rfl, e1, t0, t1⟩
      walk_at "rd"
      refine ⟨a, rfl, ⟨_, ex_l e1 hs⟩, lc_lstT (fun _ => true) (fun i => .int (if ns.getD i 0 < 0 then -(ns.getD i 0) else ns.getD i 0)) (ex_l e1 hs) (by rw [hcl]; omega) (fun _ => rfl) (fun i x H2 e2 hx H3 e3 R q => q _ (Ex.refl _)) (fun i x H2 e2 hx hf H3 e3 R q => ?_) fun c H2 hc e2 h2 => ?_⟩
      · obtain ⟨z, hz, hz2, rfl⟩ := item hx
        walk_at "rd"
        refine rd_ex1 ?_
        have q2 := q _ (Ex.refl _)
        rw [List.getD_eq_getElem?_getD, hz2] at q2
        exact q2
      · walk_at "rd"
        refine ⟨by show 4 ≤ sizeLine; decide, fun h0 hh0 => ?_⟩
        have ec : given (ns.map V.int).length (fun _ => true) (fun i => V.int (if ns.getD i 0 < 0 then -(ns.getD i 0) else ns.getD i 0)) = (ns.map fun z => if z < 0 then -z else z).map V.int := by
          rw [hcl, given_map]
          refine List.ext_getElem (by simp) fun i h1 h2 => ?_
          simp only [List.getElem_map, List.getElem_range]
          rw [List.getD_eq_getElem?_getD, List.getElem?_eq_getElem (by simpa using h2)]
          rfl
        rw [ec] at h2
        have ne : c ≠ h0 := ne_of_none h2 hh0
        refine q h0 _ (fresh_back (e1.trans e2) hh0) ((e1.trans e2).trans (Ex.new hh0)) (Hand.mk (i := 0) upd_same (by rw [upd_ne ne]; exact h2) ne (fun z hz => ?_) (Nat.zero_le _) (by rw [List.length_map]; exact hl) (Int.le_refl 0) (by decide) t0 t1)
        obtain ⟨y, hy, rfl⟩ := List.mem_map.mp hz
        refine ⟨by split <;> omega, ?_⟩
        rw [bits_abs]
        exact hb y hy

end
end Lw

set_option Elab.async false
set_option linter.all false
set_option maxRecDepth 100000
set_option maxHeartbeats 4000000
namespace Lw
open PySem PySem.Spec PyProof.Rows L2 He Evl StX
local macro_rules | `(tactic| walk_at "rd") => `(tactic| (repeat first
  | with_reducible refine rd_seq ?_
  | with_reducible refine rd_asg ?_
  | with_reducible refine rd_ret ?_
  | with_reducible refine rd_next ?_
  | with_reducible refine rd_drop ?_
  | with_reducible refine rd_if ?_
  | with_reducible refine rd_ifE ?_
  | ((with_reducible refine' rd_var ?hv ?_); (case hv => rfl))
  | with_reducible refine rd_c ?_
  | with_reducible refine rd_op ?_
  | with_reducible refine rd_chain ?_
  | with_reducible refine rd_I0 ?_
  | with_reducible refine rd_test ?_
  | with_reducible refine rd_B ?_
  | with_reducible refine rd_bl ?_
  | with_reducible refine rd_not ?_
  | with_reducible refine rd_and ?_
  | with_reducible refine rd_or ?_
  | with_reducible refine rd_andV ?_
  | with_reducible refine rd_orV ?_
  | with_reducible refine rd_notV ?_
  | with_reducible refine rd_cons ?_
  | with_reducible refine rd_nil ?_
  | with_reducible refine rd_CB ?_
  | with_reducible refine rd_callS ?_
  | with_reducible refine rd_raise0 ?_
  | with_reducible refine rd_raise1 ?_
  | with_reducible refine rd_raise2 ?_
  | ((with_reducible refine' rd_eq ?hs ?_); (case hs => rfl))
  | ((with_reducible refine' rd_ne ?hs ?_); (case hs => rfl))
  | ((with_reducible refine' rd_isT ?th ?hT ?_); (case th => assumption); (case hT => decide))
  | with_reducible refine rd_tup ?_
  | with_reducible refine rd_lst ?_
  | with_reducible refine rd_iEnum ?_
  | with_reducible refine rd_iEnumA ?_
  | ((with_reducible refine' rd_ixl ?hl ?hk ?_); (case hl => assumption); (case hk => rfl))
  | with_reducible refine rd_int1 ?_
  | with_reducible refine rd_sub ?_
  | with_reducible refine rd_gcons ?_
  | with_reducible refine rd_gnil ?_
  | with_reducible refine rd_iZip ?_
  | with_reducible refine rd_BM ?_
  | with_reducible refine rd_neg ?_
  | ((with_reducible refine' rd_last ?hl ?_); (case hl => assumption))
  | with_reducible refine rd_lc2 ?_
  | with_reducible refine rd_Rg1 ?_
  | with_reducible refine rd_tupRg ?_
  | with_reducible refine rd_sl ?_
  | with_reducible refine rd_noPart ?_
  | with_reducible refine rd_part ?_
  | with_reducible refine rd_for ?_
  | with_reducible refine rd_iRev ?_
  | with_reducible refine rd_gname ?_
  | with_reducible refine rd_NN ?_
  | with_reducible refine rd_NL ?_
  | with_reducible refine rd_LN ?_
  | ((with_reducible refine' rd_shl1 ?hs ?_); (case hs => omega))
  | ((with_reducible refine' rd_I ?hs ?_); (case hs => first | omega | decide | exact ⟨by decide, by decide, by decide⟩ | exact ⟨by omega, by omega⟩))
  | with_reducible refine rd_tr ?_
  | with_reducible refine rd_trI ?_
  | with_reducible refine rd_star ?_
  | with_reducible refine rd_fmtB ?_
  | with_reducible refine rd_M1 ?_
  | with_reducible refine rd_un ?_
  | with_reducible refine rd_lc ?_
  | with_reducible refine rd_iT ?_
  | with_reducible refine rd_iL ?_
  | with_reducible refine rd_iR1 ?_
  | with_reducible refine rd_iR2 ?_
  | dsimp only [List.set, start]))
section
variable {P : Program} {w : World} {K : PySem.W.Frag} {mg : Str → Option Value} {base : Heap}

def belowM (m : Nat) : Prop := 1 ≤ m ∧ m ≤ 5
theorem ones_zero : onesN 0 = 0 := by decide
theorem Hand.ne {H : Hp} {h p : Addr} (x : Hand H h) (n : H p = none) : p ≠ h := fun e => by
  subst e
  obtain ⟨u, hu⟩ := x.there
  rw [n] at hu
  cases hu
def spLetters (K : PySem.W.Frag) : Sp := fun vs H Q _ => ∃ h : Addr, vs = [.ref h] ∧ Hand H h ∧ ∀ (m : Nat) (H' : Hp), 1 ≤ m → m ≤ 5 → Dh h H H' → Hand H' h → Q (.int (m : Int)) H'
theorem lets12 : ∀ r : Nat, r < 12 → ∃ m : Nat, ([3, 4, 3, 4, 3, 4, 3, 4, 5, 5, 2, 1].map V.int)[r]? = some (.int (m : Int)) ∧ 1 ≤ m ∧ m ≤ 5 := by
  intro r hr
  rcases (show r = 0 ∨ r = 1 ∨ r = 2 ∨ r = 3 ∨ r = 4 ∨ r = 5 ∨ r = 6 ∨ r = 7 ∨ r = 8 ∨ r = 9 ∨ r = 10 ∨ r = 11 by omega) with rfl | rfl | rfl | rfl | rfl | rfl | rfl | rfl | rfl | rfl | rfl | rfl
  · exact ⟨3, rfl, by decide, by decide⟩
  · exact ⟨4, rfl, by decide, by decide⟩
  · exact ⟨3, rfl, by decide, by decide⟩
  · exact ⟨4, rfl, by decide, by decide⟩
  · exact ⟨3, rfl, by decide, by decide⟩
  · exact ⟨4, rfl, by decide, by decide⟩
  · exact ⟨3, rfl, by decide, by decide⟩
  · exact ⟨4, rfl, by decide, by decide⟩
  · exact ⟨5, rfl, by decide, by decide⟩
  · exact ⟨5, rfl, by decide, by decide⟩
  · exact ⟨2, rfl, by decide, by decide⟩
  · exact ⟨1, rfl, by decide, by decide⟩
theorem h__law_letters (E : Ctx K mg) : Has P w K mg base 4 "_law_letters" ["_law_hand_here"] (spLetters K) := by
  obtain ⟨fd, F⟩ := f__law_letters E
  refine ⟨⟨fd, ?_, F.bindsN fun _ _ _ _ _ _ us hl => match us, hl with | [_], _ => rfl⟩, g__law_letters E, F.kp⟩
  refine F.ok sc__law_letters (fun vs H Q E' h => ?len) (fun cdv A outer s H vs Q E' hr h => ⟨_, (pss_one (ps_ret (pe_ix (kx_list (K := K) rfl) (pe_lst (pa_cons pe_int (pa_cons pe_int (pa_cons pe_int (pa_cons pe_int (pa_cons pe_int (pa_cons pe_int (pa_cons pe_int (pa_cons pe_int (pa_cons pe_int (pa_cons pe_int (pa_cons pe_int (pa_cons pe_int pa_nil))))))))))))) (pe_H (h__law_draw E) (hr.mono (by decide)) (takes_of rfl rfl rfl rfl) (pa_cons (pv 0) (pa_cons pe_int pa_nil))) (fun _ _ => rfl)))), ?rd⟩)
  case len =>
    obtain ⟨h0, rfl, _⟩ := h
    rfl
  case rd =>
    obtain ⟨h0, rfl, hh, q⟩ := h
    walk_at "rd"
    refine ⟨by show 12 ≤ sizeLine; decide, fun p hp => ?_⟩
    have ne := hh.ne hp
    walk_at "rd"
    refine ⟨h0, 12, rfl, hh.ex (Ex.new hp), ⟨by decide, by decide⟩, fun r H1 hr d1 hand1 => ?_⟩
    obtain ⟨m, em, m1, m2⟩ := lets12 r (by omega)
    have at1 : H1 p = some (.lst ([3, 4, 3, 4, 3, 4, 3, 4, 5, 5, 2, 1].map V.int)) := d1 _ _ ne upd_same
    refine rd_ix (sq_of at1) em ?_
    exact q m _ m1 m2 ((Dh.of (Ex.new hp)).trans d1) hand1
theorem h__law_is_int (E : Ctx K mg) : Has P w K mg base 2 "_law_is_int" ["_law_thing", "_law_low", "_law_high"] (spWhole K) := by
  obtain ⟨fd, F⟩ := f__law_is_int E
  refine ⟨⟨fd, ?_, F.bindsN fun _ _ _ _ _ _ us hl => match us, hl with | [_, _, _], _ => rfl⟩, g__law_is_int E, F.kp⟩
  refine F.ok sc__law_is_int (fun vs H Q E' h => ?len) (fun cdv A outer s H vs Q E' hr h => ⟨_, (pss_one (ps_ret (pe_and (pe_callB (kc_isT (K := K) rfl) rfl (b_isinstance E) (by decide +kernel) (pa_cons (pv 0) (pa_cons (pe_bltn rfl (b_int E) (by decide +kernel) (v := .ty "int") rfl) pa_nil))) (pe_and (pe_not (pe_callB (kc_isT (K := K) rfl) rfl (b_isinstance E) (by decide +kernel) (pa_cons (pv 0) (pa_cons (pe_bltn rfl (b_bool E) (by decide +kernel) (v := .ty "bool") rfl) pa_nil)))) (pe_one (pe_chain op_le op_le (pv 1) (pv 0) (pv 2))))))), ?rd⟩)
  case len =>
    obtain ⟨x, lo, hi, rfl, _⟩ := h
    rfl
  case rd =>
    obtain ⟨x, lo, hi, rfl, ⟨n, th⟩, q⟩ := h
    walk_at "rd"
    rcases th_cases th with ⟨h1, h2, i, rfl⟩ | ⟨h1, h2⟩
    · refine ⟨fun _ => ?_, fun z => by rw [h1] at z; cases z⟩
      walk_at "rd"
      refine ⟨fun _ => ?_, fun z => by rw [h2] at z; cases z⟩
      walk_at "rd"
      have e : wholeV lo hi (.int i) = (decide (lo ≤ i) && decide (i ≤ hi)) := rfl
      exact ⟨fun z => by walk_at "rd"; rw [e, z, Bool.true_and] at q; exact q, fun z => by rw [e, z, Bool.false_and] at q; exact q⟩
    · refine ⟨fun z => ?_, fun z => by rw [h2] at q; exact q⟩
      walk_at "rd"
      rw [h2] at q
      refine ⟨fun z2 => ?_, fun _ => q⟩
      rcases h1 with h1 | h1
      · rw [h1] at z; cases z
      · rw [h1] at z2; cases z2
theorem h__law_ones (E : Ctx K mg) : Has P w K mg base 2 "_law_ones" ["_law_number"] (spOnes) := by
  obtain ⟨fd, F⟩ := f__law_ones E
  refine ⟨⟨fd, ?_, F.bindsN fun _ _ _ _ _ _ us hl => match us, hl with | [_], _ => rfl⟩, g__law_ones E, F.kp⟩
  refine F.ok sc__law_ones (fun vs H Q E' h => ?len) (fun cdv A outer s H vs Q E' hr h => ⟨_, (pss_cons (ps_set (i := 1) sc__law_ones.nd rfl (.inl rfl) pe_int)
 (pss_cons (ps_while (passes_of rfl) (pt_cmpR op_gt (pv 0) pe_int (nomark _))
 (pss_cons (ps_set (i := 1) sc__law_ones.nd rfl (.inl rfl) (pe_op op_add (pv 1) (pe_op on_and (pv 0) pe_int)))
 (pss_one (ps_set (i := 0) sc__law_ones.nd rfl (.inl rfl) (pe_op op_fdivW (pv 0) pe_int)))))
 (pss_one (ps_ret (pv 1))))), ?rd⟩)
  case len =>
    obtain ⟨n, rfl, _⟩ := h
    rfl
  case rd =>
    obtain ⟨n, rfl, hn, q⟩ := h
    walk_at "rd"
    refine rd_while ⟨fun k σ H' => ∃ (x m : Nat), σ = [some (.int (x : Int)), some (.int (m : Int))] ∧ H' = H ∧ k = x ∧ x < 1606938044258990275541962092341162602522202993782792835301376 ∧ m + onesN x = onesN n, ⟨n, n, 0, rfl, rfl, rfl, hn, by omega⟩, ?_⟩
    rintro x σ H' ⟨_, m, rfl, rfl, rfl, hx, hm⟩
    walk_at "rd"
    refine ⟨fun z => ?_, fun z => ?_⟩
    · have z : 0 < x := by have := of_decide_eq_true z; omega
      refine ⟨fun σ' H2 => ∃ m', m' < x ∧ ∃ (x' m1 : Nat), σ' = [some (.int (x' : Int)), some (.int (m1 : Int))] ∧ H2 = H' ∧ m' = x' ∧ x' < 1606938044258990275541962092341162602522202993782792835301376 ∧ m1 + onesN x' = onesN n, fun σ' H2 h => h, ?_⟩
      walk_at "rd"
      refine rd_I (wide_div (b := 2) (by decide) (by decide) (by decide) (by decide)) ?_
      walk_at "rd"
      have e1 : (m : Int) + ((x &&& 1 : Nat) : Int) = ((m + x % 2 : Nat) : Int) := by rw [Nat.and_one_is_mod]; omega
      have e2 : (x : Int) / 2 = ((x / 2 : Nat) : Int) := by omega
      rw [e1, e2]
      refine ⟨x / 2, by omega, x / 2, _, rfl, rfl, rfl, by omega, ?_⟩
      have := ones_half x z
      omega
    · have z : x = 0 := by have := of_decide_eq_false z; omega
      subst z
      rw [ones_zero] at hm
      walk_at "rd"
      rw [show m = onesN n by omega]
      exact q
def spIsRow (K : PySem.W.Frag) : Sp := fun vs H Q _ => ∃ (p : Addr) (ns : List Int) (hi : Int), vs = [.ref p, .int hi] ∧ H p = some (.tup (ns.map V.int)) ∧ ns.Pairwise (· < ·) ∧ (∀ z ∈ ns, 0 ≤ z ∧ z ≤ hi) ∧ Q (.bl true) H
theorem h__law_is_row (E : Ctx K mg) : Has P w K mg base 3 "_law_is_row" ["_law_thing", "_law_high"] (spIsRow K) := by
  obtain ⟨fd, F⟩ := f__law_is_row E
  refine ⟨⟨fd, ?_, F.bindsN fun _ _ _ _ _ _ us hl => match us, hl with | [_, _], _ => rfl⟩, g__law_is_row E, F.kp⟩
  refine F.ok sc__law_is_row (fun vs H Q E' h => ?len) (fun cdv A outer s H vs Q E' hr h => ⟨_, (pss_cons (ps_if (pt_not (pt_val (pe_callB (kc_isT (K := K) rfl) rfl (b_isinstance E) (by decide +kernel) (pa_cons (pv 0) (pa_cons (pe_bltn rfl (b_tuple E) (by decide +kernel) (v := .ty "tuple") rfl) pa_nil)))))
 (pss_one (ps_ret pe_bl))
 pss_nil)
 (pss_cons (ps_set (i := 2) sc__law_is_row.nd rfl (.inl rfl) (pe_un un_neg pe_int))
 (pss_cons (ps_for (passes_of rfl) rfl (ki_tup (K := K) rfl (pv 0)) (pg_name (i := 3) sc__law_is_row.nd rfl (.inl rfl))
 (pss_cons (ps_if (pt_not (pt_val (pe_H (h__law_is_int E) (hr.mono (by decide)) (takes_of rfl rfl rfl rfl) (pa_cons (pv 3) (pa_cons (pe_op op_add (pv 2) pe_int) (pa_cons (pv 1) pa_nil))))))
 (pss_one (ps_ret pe_bl))
 pss_nil)
 (pss_one (ps_set (i := 2) sc__law_is_row.nd rfl (.inl rfl) (pv 3)))))
 (pss_one (ps_ret pe_bl))))), ?rd⟩)
  case len =>
    obtain ⟨p, ns, hi, rfl, _⟩ := h
    rfl
  case rd =>
    obtain ⟨p, ns, hi, rfl, at_, srt, bd, q⟩ := h
    have th : Th K H (.ref p) "tuple" := th_tup at_
    walk_at "rd"
    refine ⟨(fun z => nomatch z), fun _ => ?_⟩
    walk_at "rd"
    have sq : SqT K H p (ns.map V.int) := st_of at_
    refine ⟨p, rfl, ⟨_, sq⟩, for_it walk_tup (fun i σ H' => ∃ (last : Int) (v3 : Option V), σ = [some (.ref p), some (.int hi), some (.int last), v3] ∧ H' = H ∧ (last = -1 ∨ ∃ k, k < i ∧ ns[k]? = some last)) ⟨-1, none, rfl, rfl, .inl rfl⟩ (fun i σ H' _ ⟨_, _, _, e, _⟩ => e ▸ sq) ?_ ?_⟩
    · rintro i x σ H1 H2 hlt ⟨last, v3, rfl, rfl, lst⟩ ⟨rfl, hx⟩
      rw [List.getElem?_map] at hx
      cases ez : ns[i]? with
      | none => rw [ez] at hx; cases hx
      | some z =>
        rw [ez] at hx
        obtain rfl : V.int z = x := Option.some.inj hx
        obtain ⟨b0, b1⟩ := bd z (List.mem_of_getElem? ez)
        have up : last + 1 ≤ z := by
          rcases lst with rfl | ⟨k, hk, ek⟩
          · omega
          · obtain ⟨lk, ek⟩ := List.getElem?_eq_some_iff.mp ek
            obtain ⟨li, ei⟩ := List.getElem?_eq_some_iff.mp ez
            have := List.pairwise_iff_getElem.mp srt k i lk li hk
            omega
        walk_at "rd"
        refine ⟨.int z, last + 1, hi, rfl, ⟨_, th_int z⟩, ?_⟩
        have ew : wholeV (last + 1) hi (.int z) = true := by
          show (decide (last + 1 ≤ z) && decide (z ≤ hi)) = true
          rw [decide_eq_true up, decide_eq_true b1]
          rfl
        rw [ew]
        refine ⟨true, rfl, (fun z => nomatch z), fun _ => ?_⟩
        walk_at "rd"
        exact ⟨z, _, rfl, rfl, .inr ⟨i, Nat.lt_succ_self i, ez⟩⟩
    · rintro σ H1 ⟨last, v3, rfl, rfl, _⟩
      walk_at "rd"
      exact q
theorem hit_int {r : Nat} {k : Int} (h : decide (V.int (r : Int) = V.int k) = true) : (r : Int) = k := V.int.inj (of_decide_eq_true h)
theorem mis_int {r : Nat} {k : Int} (h : decide (V.int (r : Int) = V.int k) = false) : (r : Int) ≠ k := fun e => of_decide_eq_false h (congrArg V.int e)
theorem whole_low {lo hi i : Int} (h : i < lo) : wholeV lo hi (.int i) = false := by
  show (decide (lo ≤ i) && decide (i ≤ hi)) = false
  rw [decide_eq_false (by omega), Bool.false_and]
theorem whole_high {lo hi i : Int} (h : hi < i) : wholeV lo hi (.int i) = false := by
  show (decide (lo ≤ i) && decide (i ≤ hi)) = false
  rw [decide_eq_false (show ¬ i ≤ hi by omega), Bool.and_false]
def spOdd (K : PySem.W.Frag) : Sp := fun vs H Q _ => ∃ (h : Addr) (lo hi : Int), vs = [.ref h, .int lo, .int hi] ∧ Hand H h ∧ ∀ (v : V) (H' : Hp), wholeV lo hi v = false → Odd K H' v → Dh h H H' → Hand H' h → Q v H'
theorem h__law_odd (E : Ctx K mg) : Has P w K mg base 4 "_law_odd" ["_law_hand_here", "_law_low", "_law_high"] (spOdd K) := by
  obtain ⟨fd, F⟩ := f__law_odd E
  refine ⟨⟨fd, ?_, F.bindsN fun _ _ _ _ _ _ us hl => match us, hl with | [_, _, _], _ => rfl⟩, g__law_odd E, F.kp⟩
  refine F.ok sc__law_odd (fun vs H Q E' h => ?len) (fun cdv A outer s H vs Q E' hr h => ⟨_, (pss_cons (ps_set (i := 3) sc__law_odd.nd rfl (.inl rfl) (pe_H (h__law_draw E) (hr.mono (by decide)) (takes_of rfl rfl rfl rfl) (pa_cons (pv 0) (pa_cons pe_int pa_nil))))
 (pss_cons (ps_if (pt_cmpR op_eq (pv 3) pe_int (nomark _))
 (pss_one (ps_ret pe_bl))
 pss_nil)
 (pss_cons (ps_if (pt_cmpR op_eq (pv 3) pe_int (nomark _))
 (pss_one (ps_ret (pe_op op_sub (pe_op op_sub (pv 1) pe_int) (pe_H (h__law_draw E) (hr.mono (by decide)) (takes_of rfl rfl rfl rfl) (pa_cons (pv 0) (pa_cons pe_int pa_nil))))))
 pss_nil)
 (pss_cons (ps_if (pt_cmpR op_eq (pv 3) pe_int (nomark _))
 (pss_one (ps_ret (pe_op op_add (pv 2) pe_int)))
 pss_nil)
 (pss_cons (ps_if (pt_cmpR op_eq (pv 3) pe_int (nomark _))
 (pss_one (ps_ret (pe_op op_add (pe_op op_add (pv 2) pe_int) (pe_H (h__law_draw E) (hr.mono (by decide)) (takes_of rfl rfl rfl rfl) (pa_cons (pv 0) (pa_cons pe_int pa_nil))))))
 pss_nil)
 (pss_cons (ps_if (pt_cmpR op_eq (pv 3) pe_int (nomark _))
 (pss_one (ps_ret (pe_op op_sub (pv 1) pe_int)))
 pss_nil)
 (pss_one (ps_ret (pe_ix (kx_list (K := K) rfl) (pe_lst (pa_cons pe_non (pa_cons pe_str (pa_cons (pe_tup (pa_cons pe_int pa_nil)) (pa_cons pe_bl pa_nil))))) (pe_op op_sub (pv 3) pe_int) (fun _ _ => rfl)))))))))), ?rd⟩)
  case len =>
    obtain ⟨h0, lo, hi, rfl, _⟩ := h
    rfl
  case rd =>
    obtain ⟨h0, lo, hi, rfl, hh, q⟩ := h
    walk_at "rd"
    refine ⟨h0, 9, rfl, hh, ⟨by decide, by decide⟩, fun r H1 hr d1 hand1 => ?_⟩
    walk_at "rd"
    refine ⟨fun z => ?_, fun z0 => ?_⟩
    · walk_at "rd"
      exact q _ _ rfl (fun _ _ => ⟨_, th_bl _⟩) d1 hand1
    walk_at "rd"
    refine ⟨fun z => ?_, fun z1 => ?_⟩
    · walk_at "rd"
      refine ⟨h0, 5, rfl, hand1, ⟨by decide, by decide⟩, fun r2 H2 hr2 d2 hand2 => ?_⟩
      walk_at "rd"
      exact q _ _ (whole_low (by omega)) (odd_int _) (d1.trans d2) hand2
    walk_at "rd"
    refine ⟨fun z => ?_, fun z2 => ?_⟩
    · walk_at "rd"
      exact q _ _ (whole_high (by omega)) (odd_int _) d1 hand1
    walk_at "rd"
    refine ⟨fun z => ?_, fun z3 => ?_⟩
    · walk_at "rd"
      refine ⟨h0, 1000000007, rfl, hand1, ⟨by decide, by decide⟩, fun r2 H2 hr2 d2 hand2 => ?_⟩
      walk_at "rd"
      exact q _ _ (whole_high (by omega)) (odd_int _) (d1.trans d2) hand2
    walk_at "rd"
    refine ⟨fun z => ?_, fun z4 => ?_⟩
    · walk_at "rd"
      exact q _ _ (whole_low (by omega)) (odd_int _) d1 hand1
    have r5 : 5 ≤ r := by
      have := mis_int z0
      have := mis_int z1
      have := mis_int z2
      have := mis_int z3
      have := mis_int z4
      omega
    walk_at "rd"
    refine ⟨by show 1 ≤ sizeLine; decide, fun t1 ht1 => ?_⟩
    walk_at "rd"
    refine ⟨by show 4 ≤ sizeLine; decide, fun p hp => ?_⟩
    walk_at "rd"
    have e5 : (r : Int) - 5 = ((r - 5 : Nat) : Int) := by omega
    rw [e5]
    have tp : upd (upd H1 t1 (.tup [.int 1])) p (.lst [.non, .str "1", .ref t1, .bl false]) t1 = some (.tup [.int 1]) := (Ex.new hp) _ _ upd_same
    have e3 : Ex H1 (upd (upd H1 t1 (.tup [.int 1])) p (.lst [.non, .str "1", .ref t1, .bl false])) := (Ex.new ht1).trans (Ex.new hp)
    have d3 := d1.trans (Dh.of e3)
    have hand3 := hand1.ex e3
    have sq : SqL K (upd (upd H1 t1 (.tup [.int 1])) p (.lst [.non, .str "1", .ref t1, .bl false])) p [.non, .str "1", .ref t1, .bl false] := sq_of upd_same
    rcases (show r = 5 ∨ r = 6 ∨ r = 7 ∨ r = 8 by omega) with rfl | rfl | rfl | rfl
    · exact rd_ix sq (v := .non) rfl (q _ _ rfl (fun _ _ => ⟨_, th_non⟩) d3 hand3)
    · exact rd_ix sq (v := .str "1") rfl (q _ _ rfl (fun _ _ => ⟨_, th_str _⟩) d3 hand3)
    · exact rd_ix sq (v := .ref t1) rfl (q _ _ rfl (fun _ e => ⟨_, th_tup (e _ _ tp)⟩) d3 hand3)
    · exact rd_ix sq (v := .bl false) rfl (q _ _ rfl (fun _ _ => ⟨_, th_bl _⟩) d3 hand3)
def spWide (K : PySem.W.Frag) : Sp := fun vs H Q _ => ∃ (h : Addr) (b : Nat), vs = [.ref h, .int (b : Int)] ∧ Hand H h ∧ b ≤ 64 ∧ ∀ (r : Nat) (H' : Hp), r < 2 ^ b → Dh h H H' → Hand H' h → Q (.int (r : Int)) H'
theorem h__law_wide (E : Ctx K mg) : Has P w K mg base 4 "_law_wide" ["_law_hand_here", "_law_bits"] (spWide K) := by
  obtain ⟨fd, F⟩ := f__law_wide E
  refine ⟨⟨fd, ?_, F.bindsN fun _ _ _ _ _ _ us hl => match us, hl with | [_, _], _ => rfl⟩, g__law_wide E, F.kp⟩
  refine F.ok sc__law_wide (fun vs H Q E' h => ?len) (fun cdv A outer s H vs Q E' hr h => ⟨_, (pss_cons (ps_set (i := 2) sc__law_wide.nd rfl (.inl rfl) pe_int)
 (pss_cons (ps_for (passes_of rfl) rfl (pi_range1 rfl (b_range E) (pa_cons (pe_op op_fdivW (pv 1) pe_int) pa_nil)) (pg_name (i := 3) sc__law_wide.nd rfl (.inl rfl))
 (pss_one (ps_set (i := 2) sc__law_wide.nd rfl (.inl rfl) (pe_op op_add (pe_op op_mulX (pv 2) pe_int) (pe_H (h__law_draw E) (hr.mono (by decide)) (takes_of rfl rfl rfl rfl) (pa_cons (pv 0) (pa_cons pe_int pa_nil)))))))
 (pss_one (ps_ret (pe_op op_add (pe_op op_mulX (pv 2) (pe_op on_shl pe_int (pe_op op_sub (pv 1) (pe_op op_mulX (pe_op op_fdivW (pv 1) pe_int) pe_int)))) (pe_H (h__law_draw E) (hr.mono (by decide)) (takes_of rfl rfl rfl rfl) (pa_cons (pv 0) (pa_cons (pe_op on_shl pe_int (pe_op op_sub (pv 1) (pe_op op_mulX (pe_op op_fdivW (pv 1) pe_int) pe_int))) pa_nil)))))))), ?rd⟩)
  case len =>
    obtain ⟨h0, b, rfl, _⟩ := h
    rfl
  case rd =>
    obtain ⟨h0, b, rfl, hh, hb, q⟩ := h
    walk_at "rd"
    refine rd_I (wide_div (b := 4) (by decide) (by decide) (by decide) (by decide)) ?_
    have e8 : ((b : Int) / 8) = ((b / 8 : Nat) : Int) := by omega
    rw [e8]
    walk_at "rd"
    refine ⟨_, rfl, by omega, by omega, ?_⟩
    rw [Int.toNat_natCast]
    refine for_range (lo := 0) (n := b / 8) (fun i σ H' => ∃ (x : Nat) (v : Option V), σ = [some (.ref h0), some (.int (b : Int)), some (.int (x : Int)), v] ∧ Dh h0 H H' ∧ Hand H' h0 ∧ x < 256 ^ i) ⟨0, none, rfl, Dh.refl _ _, hh, by decide⟩ ?_ ?_
    · rintro i σ H1 hi ⟨x, v, rfl, d1, h1, hx⟩
      have hx2 : x < 2 ^ 64 := Nat.lt_of_lt_of_le hx (by
        have e : (256 : Nat) ^ i ≤ 256 ^ 8 := Nat.pow_le_pow_right (by decide) (by omega)
        exact Nat.le_trans e (by decide))
      walk_at "rd"
      refine rd_I (mulx_ok (a := 64) (b := 9) (by omega) (by decide) (by decide)) ?_
      walk_at "rd"
      refine ⟨h0, 256, rfl, h1, ⟨by decide, by decide⟩, fun r H2 hr d2 h2 => ?_⟩
      walk_at "rd"
      have e2 : (x : Int) * 256 + (r : Int) = ((x * 256 + r : Nat) : Int) := by omega
      rw [e2]
      refine ⟨_, _, rfl, d1.trans d2, h2, ?_⟩
      rw [Nat.pow_succ]
      omega
    · rintro σ H1 ⟨x, v, rfl, d1, h1, hx⟩
      have hx2 : x < 2 ^ 64 := Nat.lt_of_lt_of_le hx (by
        have e : (256 : Nat) ^ (b / 8) ≤ 256 ^ 8 := Nat.pow_le_pow_right (by decide) (by omega)
        exact Nat.le_trans e (by decide))
      walk_at "rd"
      refine rd_I (wide_div (b := 4) (by decide) (by decide) (by decide) (by decide)) ?_
      walk_at "rd"
      refine rd_I (mulx_ok (a := 64) (b := 4) (by omega) (by decide) (by decide)) ?_
      walk_at "rd"
      have e9 : (b : Int) - (b : Int) / 8 * 8 = ((b % 8 : Nat) : Int) := by omega
      rw [e9]
      walk_at "rd"
      have p2 : (2 : Nat) ^ (b % 8) < 2 ^ 8 := Nat.pow_lt_pow_right (by decide) (by omega)
      have p1 : 0 < (2 : Nat) ^ (b % 8) := Nat.pow_pos (by decide)
      generalize hu : (2 : Nat) ^ (b % 8) = u at p1 p2 ⊢
      refine rd_I (mulx_ok (a := 64) (b := 9) (by omega) (by omega) (by decide)) ?_
      walk_at "rd"
      refine rd_I (wide_div (b := 4) (by decide) (by decide) (by decide) (by decide)) ?_
      walk_at "rd"
      refine rd_I (mulx_ok (a := 64) (b := 4) (by omega) (by decide) (by decide)) ?_
      walk_at "rd"
      rw [e9]
      walk_at "rd"
      have p3 : (2 : Nat) ^ (b % 8) < 2 ^ 8 := Nat.pow_lt_pow_right (by decide) (by omega)
      have p4 : 0 < (2 : Nat) ^ (b % 8) := Nat.pow_pos (by decide)
      generalize hu2 : (2 : Nat) ^ (b % 8) = u2 at p3 p4 ⊢
      refine ⟨h0, (u2 : Int), rfl, h1, ⟨by omega, by omega⟩, fun r H2 hr d2 h2 => ?_⟩
      walk_at "rd"
      have e10 : (x : Int) * (u : Int) + (r : Int) = ((x * u + r : Nat) : Int) := by
        rw [Int.natCast_add, Int.natCast_mul]
      rw [e10]
      have all : x * u + r < 2 ^ b := by
        have e8 : (256 : Nat) ^ (b / 8) * 2 ^ (b % 8) = 2 ^ b := by
          rw [show (256 : Nat) = 2 ^ 8 from rfl, ← Nat.pow_mul, ← Nat.pow_add, Nat.div_add_mod]
        rw [← e8, hu]
        have eu : u2 = u := hu2.symm.trans hu
        have le : (x + 1) * u ≤ 256 ^ (b / 8) * u := Nat.mul_le_mul_right u hx
        rw [Nat.succ_mul] at le
        omega
      exact q _ _ all (d1.trans d2) h2

end
end Lw

set_option Elab.async false
set_option linter.all false
set_option maxRecDepth 100000
set_option maxHeartbeats 4000000
namespace Lw
open PySem PySem.Spec PyProof.Rows L2 He Evl StX
local macro_rules | `(tactic| walk_at "rd") => `(tactic| (repeat first
  | with_reducible refine rd_seq ?_
  | with_reducible refine rd_asg ?_
  | with_reducible refine rd_ret ?_
  | with_reducible refine rd_next ?_
  | with_reducible refine rd_drop ?_
  | with_reducible refine rd_if ?_
  | with_reducible refine rd_ifE ?_
  | ((with_reducible refine' rd_var ?hv ?_); (case hv => rfl))
  | with_reducible refine rd_c ?_
  | with_reducible refine rd_op ?_
  | with_reducible refine rd_chain ?_
  | with_reducible refine rd_I0 ?_
  | with_reducible refine rd_test ?_
  | with_reducible refine rd_B ?_
  | with_reducible refine rd_bl ?_
  | with_reducible refine rd_not ?_
  | with_reducible refine rd_and ?_
  | with_reducible refine rd_or ?_
  | with_reducible refine rd_andV ?_
  | with_reducible refine rd_orV ?_
  | with_reducible refine rd_notV ?_
  | with_reducible refine rd_cons ?_
  | with_reducible refine rd_nil ?_
  | with_reducible refine rd_CB ?_
  | with_reducible refine rd_callS ?_
  | with_reducible refine rd_raise0 ?_
  | with_reducible refine rd_raise1 ?_
  | with_reducible refine rd_raise2 ?_
  | ((with_reducible refine' rd_eq ?hs ?_); (case hs => rfl))
  | ((with_reducible refine' rd_ne ?hs ?_); (case hs => rfl))
  | ((with_reducible refine' rd_isT ?th ?hT ?_); (case th => assumption); (case hT => decide))
  | with_reducible refine rd_tup ?_
  | with_reducible refine rd_lst ?_
  | with_reducible refine rd_iEnum ?_
  | with_reducible refine rd_iEnumA ?_
  | ((with_reducible refine' rd_ixl ?hl ?hk ?_); (case hl => assumption); (case hk => rfl))
  | with_reducible refine rd_int1 ?_
  | with_reducible refine rd_sub ?_
  | with_reducible refine rd_gcons ?_
  | with_reducible refine rd_gnil ?_
  | with_reducible refine rd_iZip ?_
  | with_reducible refine rd_BM ?_
  | with_reducible refine rd_neg ?_
  | ((with_reducible refine' rd_last ?hl ?_); (case hl => assumption))
  | with_reducible refine rd_lc2 ?_
  | with_reducible refine rd_Rg1 ?_
  | with_reducible refine rd_tupRg ?_
  | with_reducible refine rd_sl ?_
  | with_reducible refine rd_noPart ?_
  | with_reducible refine rd_part ?_
  | with_reducible refine rd_for ?_
  | with_reducible refine rd_iRev ?_
  | with_reducible refine rd_gname ?_
  | with_reducible refine rd_NN ?_
  | with_reducible refine rd_NL ?_
  | with_reducible refine rd_LN ?_
  | ((with_reducible refine' rd_shl1 ?hs ?_); (case hs => omega))
  | ((with_reducible refine' rd_I ?hs ?_); (case hs => first | omega | decide | exact ⟨by decide, by decide, by decide⟩ | exact ⟨by omega, by omega⟩))
  | with_reducible refine rd_tr ?_
  | with_reducible refine rd_trI ?_
  | with_reducible refine rd_star ?_
  | with_reducible refine rd_fmtB ?_
  | with_reducible refine rd_M1 ?_
  | with_reducible refine rd_un ?_
  | with_reducible refine rd_lc ?_
  | with_reducible refine rd_iT ?_
  | with_reducible refine rd_iL ?_
  | with_reducible refine rd_iR1 ?_
  | with_reducible refine rd_iR2 ?_
  | dsimp only [List.set, start]))
section
variable {P : Program} {w : World} {K : PySem.W.Frag} {mg : Str → Option Value} {base : Heap}

theorem Hand.app {H : Hp} {h p : Addr} {ns : List Int} {z : Int} (x : Hand H h) (at_ : H p = some (.lst (ns.map V.int))) (ne : p ≠ h) (z0 : 0 ≤ z) (z1 : z < 1000) (few : ns.length < 60) : Hand (upd H p (.lst (ns.map V.int ++ [V.int z]))) h := by
  obtain ⟨c, cells, i, r, t, x1, x2, x3, x4, x5, x6, x7, x8, x9, x10⟩ := x
  have y1 : upd H p (.lst (ns.map V.int ++ [V.int z])) h = some (.lst [.ref c, .int (i : Int), .int r, .int t]) := by
    rw [upd_ne (Ne.symm ne)]
    exact x1
  by_cases e : c = p
  · subst e
    rw [x2] at at_
    have el : cells = ns := (List.map_inj_right fun _ _ h => V.int.inj h).mp (by injection at_ with q; injection q)
    subst el
    refine ⟨c, cells ++ [z], i, r, t, y1, by rw [upd_same, List.map_append]; rfl, x3, fun y hy => ?_, by rw [List.length_append]; omega, by rw [List.length_append]; simp; omega, x7, x8, x9, x10⟩
    rcases List.mem_append.mp hy with hy | hy
    · exact x4 y hy
    · rw [List.mem_singleton.mp hy]
      exact ⟨z0, Nat.le_trans (bits_le (a := 20) (by omega)) (by decide)⟩
  · exact ⟨c, cells, i, r, t, y1, by rw [upd_ne e]; exact x2, x3, x4, x5, x6, x7, x8, x9, x10⟩
def spHeapList (K : PySem.W.Frag) : Sp := fun vs H Q _ => ∃ (h : Addr) (m n : Nat), vs = [.ref h, .int (m : Int), .int (n : Int)] ∧ Hand H h ∧ m ≤ 5 ∧ n < 50 ∧
  ∀ (p : Addr) (ns : List Int) (H' : Hp), H p = none → H' p = some (.lst (ns.map V.int)) → ns.length = n → (∀ z ∈ ns, 0 ≤ z ∧ z < ((2 ^ m : Nat) : Int)) → Dh h H H' → Hand H' h → Q (.ref p) H'
theorem h__law_heap_list (E : Ctx K mg) : Has P w K mg base 4 "_law_heap_list" ["_law_hand_here", "_law_m", "_law_many"] (spHeapList K) := by
  obtain ⟨fd, F⟩ := f__law_heap_list E
  refine ⟨⟨fd, ?_, F.bindsN fun _ _ _ _ _ _ us hl => match us, hl with | [_, _, _], _ => rfl⟩, g__law_heap_list E, F.kp⟩
  refine F.ok sc__law_heap_list (fun vs H Q E' h => ?len) (fun cdv A outer s H vs Q E' hr h => ⟨_, (pss_cons (ps_set (i := 3) sc__law_heap_list.nd rfl (.inl rfl) (pe_lst pa_nil))
 (pss_cons (ps_for (passes_of rfl) rfl (pi_range1 rfl (b_range E) (pa_cons (pv 2) pa_nil)) (pg_name (i := 4) sc__law_heap_list.nd rfl (.inl rfl))
 (pss_one (ps_if (PW.pt (pw_and (pt_cmpR (ko_neD hr (K := K) rfl) (pv 3) (pe_lst pa_nil) (nomark _)) (pw_and1 (pt_cmpR op_eq (pe_H (h__law_draw E) (hr.mono (by decide)) (takes_of rfl rfl rfl rfl) (pa_cons (pv 0) (pa_cons pe_int pa_nil))) pe_int (nomark _)))))
 (pss_one (ps_expr (pe_bm PySem.F.plainAttrs_list PySem.F.slot_list_append PySem.F.type_list_append mt_append (pv 3) (pa_cons (pe_ix (kx_list (K := K) rfl) (pv 3) (pe_H (h__law_draw E) (hr.mono (by decide)) (takes_of rfl rfl rfl rfl) (pa_cons (pv 0) (pa_cons (pe_callB (kc_len (K := K) rfl) rfl (b_len E) (by decide +kernel) (pa_cons (pv 3) pa_nil)) pa_nil))) (fun _ _ => rfl)) pa_nil))))
 (pss_one (ps_expr (pe_bm PySem.F.plainAttrs_list PySem.F.slot_list_append PySem.F.type_list_append mt_append (pv 3) (pa_cons (pe_H (h__law_draw E) (hr.mono (by decide)) (takes_of rfl rfl rfl rfl) (pa_cons (pv 0) (pa_cons (pe_op on_shl pe_int (pv 1)) pa_nil))) pa_nil)))))))
 (pss_one (ps_ret (pv 3))))), ?rd⟩)
  case len =>
    obtain ⟨h0, m, n, rfl, _⟩ := h
    rfl
  case rd =>
    obtain ⟨h0, m, n, rfl, hh, hm, hn, q⟩ := h
    have p5 : 2 ^ m ≤ 32 := Nat.le_trans (Nat.pow_le_pow_right (by decide) hm) (by decide)
    have p0 : 0 < 2 ^ m := Nat.pow_pos (by decide)
    walk_at "rd"
    refine ⟨by show 0 ≤ sizeLine; omega, fun p hp => ?_⟩
    have ne := hh.ne hp
    walk_at "rd"
    refine ⟨_, rfl, by omega, by omega, ?_⟩
    rw [Int.toNat_natCast]
    refine for_range (lo := 0) (n := n) (fun i σ H' => ∃ (ns : List Int) (v : Option V), σ = [some (.ref h0), some (.int (m : Int)), some (.int (n : Int)), some (.ref p), v] ∧ H' p = some (.lst (ns.map V.int)) ∧ ns.length = i ∧ (∀ z ∈ ns, 0 ≤ z ∧ z < ((2 ^ m : Nat) : Int)) ∧ Dh h0 H H' ∧ Hand H' h0)
      ⟨[], none, rfl, upd_same, rfl, (fun z hz => nomatch hz), Dh.of (Ex.new hp), hh.ex (Ex.new hp)⟩ ?_ ?_
    · rintro i σ H1 hi ⟨ns, v, rfl, at1, len1, bd, d1, hand1⟩
      have put : ∀ (z : Int) (H2 : Hp), 0 ≤ z → z < ((2 ^ m : Nat) : Int) → Dh h0 H1 H2 → Hand H2 h0 → ∃ (ns' : List Int) (v' : Option V), ([some (.ref h0), some (.int (m : Int)), some (.int (n : Int)), some (.ref p), some (.int (i : Int))] : L2.St) = [some (.ref h0), some (.int (m : Int)), some (.int (n : Int)), some (.ref p), v'] ∧
          (upd H2 p (.lst (ns.map V.int ++ [V.int z]))) p = some (.lst (ns'.map V.int)) ∧ ns'.length = i + 1 ∧ (∀ z ∈ ns', 0 ≤ z ∧ z < ((2 ^ m : Nat) : Int)) ∧ Dh h0 H (upd H2 p (.lst (ns.map V.int ++ [V.int z]))) ∧ Hand (upd H2 p (.lst (ns.map V.int ++ [V.int z]))) h0 := fun z H2 z0 z1 d2 hand2 => by
        refine ⟨ns ++ [z], _, rfl, by rw [upd_same, List.map_append]; rfl, by rw [List.length_append, len1]; rfl, fun y hy => ?_, fun a o na ha => ?_, ?_⟩
        · rcases List.mem_append.mp hy with hy | hy
          · exact bd y hy
          · rw [List.mem_singleton.mp hy]
            exact ⟨z0, z1⟩
        · have ap : a ≠ p := fun e => by
            subst e
            rw [hp] at ha
            cases ha
          rw [upd_ne ap]
          exact d2 _ _ na (d1 _ _ na ha)
        · exact hand2.app (d2 _ _ ne at1) ne z0 (by omega) (by omega)
      have sz : (ns.map V.int).length < 100000 := by rw [List.length_map]; omega
      rw [Int.zero_add]
      walk_at "rd"
      refine ⟨by show 0 ≤ sizeLine; omega, fun e0 he0 => ?_⟩
      have x0 : Ex H1 (upd H1 e0 (.lst [])) := Ex.new he0
      refine rd_neL (a := ns) (b := []) (sq_of (x0 _ _ at1)) (sq_of upd_same) ?_
      walk_at "rd"
      refine ⟨fun z => ?_, fun z => ⟨(fun z => nomatch z), fun _ => ?_⟩⟩
      · have nz : ns ≠ [] := by simpa using z
        have lp : 0 < ns.length := List.length_pos_iff.mpr nz
        walk_at "rd"
        refine ⟨h0, 4, rfl, hand1.ex x0, ⟨by decide, by decide⟩, fun r4 H2 hr4 d4 hand4 => ?_⟩
        have d5 : Dh h0 H1 H2 := (Dh.of x0).trans d4
        have at2 : H2 p = some (.lst (ns.map V.int)) := d5 _ _ ne at1
        walk_at "rd"
        refine ⟨fun z2 => ?_, fun z2 => ?_⟩
        · walk_at "rd"
          refine ⟨ty_lst at2, ?_⟩
          walk_at "rd"
          refine ⟨p, _, rfl, .inl (sq_of at2), ?_⟩
          rw [List.length_map]
          walk_at "rd"
          refine ⟨h0, (ns.length : Int), rfl, hand4, ⟨by omega, by omega⟩, fun r H3 hr d3 hand3 => ?_⟩
          have rl : r < ns.length := by omega
          refine rd_ix (sq_of (d3 _ _ ne at2)) (v := .int ns[r]) (by rw [List.getElem?_map, List.getElem?_eq_getElem rl]; rfl) ?_
          walk_at "rd"
          refine rd_app (d3 _ _ ne at2) sz ?_
          walk_at "rd"
          obtain ⟨b0, b1⟩ := bd ns[r] (List.getElem_mem rl)
          exact put ns[r] H3 b0 b1 (d5.trans d3) hand3
        · walk_at "rd"
          refine ⟨ty_lst (at2), ?_⟩
          walk_at "rd"
          refine ⟨h0, ((2 ^ m : Nat) : Int), rfl, hand4, ⟨by omega, by omega⟩, fun r H3 hr d3 hand3 => ?_⟩
          walk_at "rd"
          refine rd_app (d3 _ _ ne (at2)) sz ?_
          walk_at "rd"
          exact put (r : Int) H3 (by omega) hr ((d5).trans d3) hand3
      · walk_at "rd"
        refine ⟨ty_lst (x0 _ _ at1), ?_⟩
        walk_at "rd"
        refine ⟨h0, ((2 ^ m : Nat) : Int), rfl, hand1.ex x0, ⟨by omega, by omega⟩, fun r H3 hr d3 hand3 => ?_⟩
        walk_at "rd"
        refine rd_app (d3 _ _ ne (x0 _ _ at1)) sz ?_
        walk_at "rd"
        exact put (r : Int) H3 (by omega) hr ((Dh.of x0).trans d3) hand3
    · rintro σ H1 ⟨ns, v, rfl, at1, len1, bd, d1, hand1⟩
      walk_at "rd"
      exact q p ns H1 hp at1 len1 bd d1 hand1
def spUnique (K : PySem.W.Frag) : Sp := fun vs H Q _ => ∃ (p : Addr) (ns : List Int), vs = [.ref p] ∧ H p = some (.lst (ns.map V.int)) ∧ ns.length < 60 ∧ RetT H Q (uniq ns)
def dedup (l : List Int) (z : Int) : List Int := if l = [] ∨ l.getLastD 0 ≠ z then l ++ [z] else l
theorem dedup_uniq {ns : List Int} : (isort ns).foldl dedup [] = uniq ns := by
  have key : ∀ (r l : List Int), (∀ a ∈ l, ∀ b ∈ r, a ≤ b) → l.Pairwise (· < ·) → r.Pairwise (· ≤ ·) → (r.foldl dedup l).Pairwise (· < ·) ∧ ∀ z, z ∈ r.foldl dedup l ↔ z ∈ l ∨ z ∈ r := by
    intro r
    induction r with
    | nil => exact fun l _ h _ => ⟨h, fun z => by simp⟩
    | cons x r ih =>
      intro l hl hp hr
      cases hr with
      | cons hr1 hr2 =>
        rw [List.foldl_cons]
        by_cases c : l = [] ∨ l.getLastD 0 ≠ x
        · have e : dedup l x = l ++ [x] := if_pos c
          rw [e]
          have lt : ∀ a ∈ l, a < x := fun a ha => by
            have le := hl a ha x List.mem_cons_self
            rcases c with rfl | c
            · exact nomatch ha
            · have ne : l ≠ [] := List.ne_nil_of_mem ha
              have el : l = l.dropLast ++ [l.getLastD 0] := by
                rw [List.getLastD_eq_getLast?, List.getLast?_eq_some_getLast ne]
                exact (List.dropLast_concat_getLast ne).symm
              have ll : l.getLastD 0 ∈ l := by rw [el]; simp
              have l2 := hl _ ll x List.mem_cons_self
              rw [el] at ha
              rcases List.mem_append.mp ha with h | h
              · rw [el, List.pairwise_append] at hp
                have := hp.2.2 a h _ (List.mem_singleton.mpr rfl)
                omega
              · rw [List.mem_singleton.mp h]
                omega
          obtain ⟨i1, i2⟩ := ih (l ++ [x]) (fun a ha b hb => by
            rcases List.mem_append.mp ha with h | h
            · exact hl a h b (List.mem_cons_of_mem _ hb)
            · rw [List.mem_singleton.mp h]
              exact hr1 b hb) (by
            rw [List.pairwise_append]
            exact ⟨hp, List.pairwise_singleton _ _, fun a ha b hb => by rw [List.mem_singleton.mp hb]; exact lt a ha⟩) hr2
          exact ⟨i1, fun z => by rw [i2, List.mem_append, List.mem_singleton, List.mem_cons, or_assoc]⟩
        · have e : dedup l x = l := if_neg c
          rw [e]
          have c2 : ¬ l = [] ∧ l.getLastD 0 = x := by
            refine ⟨fun z => c (.inl z), ?_⟩
            by_cases h : l.getLastD 0 = x
            · exact h
            · exact absurd (.inr h) c
          have xl : x ∈ l := by
            rw [← c2.2, List.getLastD_eq_getLast?, List.getLast?_eq_some_getLast c2.1]
            exact List.getLast_mem c2.1
          obtain ⟨i1, i2⟩ := ih l (fun a ha b hb => hl a ha b (List.mem_cons_of_mem _ hb)) hp hr2
          exact ⟨i1, fun z => by
            rw [i2, List.mem_cons]
            constructor
            · rintro (h | h) <;> simp [h]
            · rintro (h | rfl | h)
              · exact .inl h
              · exact .inl xl
              · exact .inr h⟩
  obtain ⟨k1, k2⟩ := key (isort ns) [] (fun _ h => nomatch h) .nil (isort_sorted ns)
  exact strict_eq k1 (uniq_sorted ns) fun z => by rw [k2, uniq_mem, (isort_perm ns).mem_iff]; simp
theorem h__law_unique (E : Ctx K mg) : Has P w K mg base 2 "_law_unique" ["_law_rows"] (spUnique K) := by
  obtain ⟨fd, F⟩ := f__law_unique E
  refine ⟨⟨fd, ?_, F.bindsN fun _ _ _ _ _ _ us hl => match us, hl with | [_], _ => rfl⟩, g__law_unique E, F.kp⟩
  refine F.ok sc__law_unique (fun vs H Q E' h => ?len) (fun cdv A outer s H vs Q E' hr h => ⟨_, (pss_cons (ps_set (i := 1) sc__law_unique.nd rfl (.inl rfl) (pe_lst pa_nil))
 (pss_cons (ps_for (passes_of rfl) rfl (ki_list (K := K) rfl (pe_callB (kc_sorted (K := K) rfl) rfl (b_sorted E) (by decide +kernel) (pa_cons (pv 0) pa_nil))) (pg_name (i := 2) sc__law_unique.nd rfl (.inl rfl))
 (pss_one (ps_if (PW.pt (pw_or (pt_cmpR (ko_eqD hr (K := K) rfl) (pv 1) (pe_lst pa_nil) (nomark _)) (pw_or1 (pt_cmpR op_ne (pe_ix (kx_list (K := K) rfl) (pv 1) (pe_un un_neg pe_int) (fun _ _ => rfl)) (pv 2) (nomark _)))))
 (pss_one (ps_expr (pe_bm PySem.F.plainAttrs_list PySem.F.slot_list_append PySem.F.type_list_append mt_append (pv 1) (pa_cons (pv 2) pa_nil))))
 pss_nil)))
 (pss_one (ps_ret (pe_callTy (kc_tup (K := K) rfl) rfl (b_tuple E) (by decide +kernel) (pa_cons (pv 1) pa_nil)))))), ?rd⟩)
  case len =>
    obtain ⟨p, ns, rfl, _⟩ := h
    rfl
  case rd =>
    obtain ⟨p, ns, rfl, at_, few, q⟩ := h
    walk_at "rd"
    refine ⟨by show 0 ≤ sizeLine; omega, fun f hf => ?_⟩
    walk_at "rd"
    refine rd_sorted (sq_of ((Ex.new hf) _ _ at_)) fun s hs => ?_
    have sf : f ≠ s := fun e => by
      subst e
      rw [upd_same] at hs
      cases hs
    have sq0 : SqL K (upd (upd H f (.lst [])) s (.lst ((isort ns).map V.int))) s ((isort ns).map V.int) := sq_of upd_same
    have len : ((isort ns).map V.int).length = (isort ns).length := by simp
    have il : (isort ns).length = ns.length := (isort_perm ns).length_eq
    refine ⟨s, rfl, ⟨_, sq0⟩, for_it walk_list (fun i σ H' => ∃ (l : List Int) (v2 : Option V), σ = [some (.ref p), some (.ref f), v2] ∧ l = ((isort ns).take i).foldl dedup [] ∧ Fill H f (l.map V.int) H' ∧ H' s = some (.lst ((isort ns).map V.int)) ∧ l.length ≤ i)
      ⟨[], none, rfl, rfl, ⟨hf, (Ex.new hf).trans (Ex.new hs), by rw [upd_ne sf]; exact upd_same⟩, upd_same, Nat.le_refl _⟩ (fun i σ H' _ ⟨_, _, _, _, _, e, _⟩ => sq_of e) ?_ ?_⟩
    · rintro i x σ H1 H2 hlt ⟨l, v2, rfl, el, F, hs1, ll⟩ ⟨rfl, hx⟩
      rw [List.getElem?_map] at hx
      cases ez : (isort ns)[i]? with
      | none => rw [ez] at hx; cases hx
      | some z =>
        rw [ez] at hx
        obtain rfl : V.int z = x := Option.some.inj hx
        have et : ((isort ns).take (i + 1)).foldl dedup [] = dedup l z := by
          rw [List.take_add_one, ez, List.foldl_append, ← el]
          rfl
        walk_at "rd"
        refine ⟨by show 0 ≤ sizeLine; omega, fun e0 he0 => ?_⟩
        have F2 := F.ex (Ex.new he0 (o := .lst []))
        have hs2 := (Ex.new he0 (o := .lst [])) _ _ hs1
        refine rd_eqL (a := l) (b := []) (sq_of F2.2.2) (sq_of upd_same) ?_
        walk_at "rd"
        refine ⟨fun c => ?_, fun c => ?_⟩
        · have c1 : l = [] ∨ l.getLastD 0 ≠ z := .inl (of_decide_eq_true c)
          refine ⟨fun _ => ?_, (fun z => nomatch z)⟩
          walk_at "rd"
          refine ⟨ty_lst F2.2.2, ?_⟩
          walk_at "rd"
          refine rd_app F2.2.2 (by rw [List.length_map]; omega) ?_
          walk_at "rd"
          refine ⟨l ++ [z], _, rfl, by rw [et]; exact (if_pos c1).symm, by rw [List.map_append]; exact F2.set _, by rw [upd_ne (Ne.symm sf)]; exact hs2, by rw [List.length_append]; simp; omega⟩
        · have ne : l ≠ [] := of_decide_eq_false c
          have ed : l = l.dropLast ++ [l.getLastD 0] := by
            rw [List.getLastD_eq_getLast?, List.getLast?_eq_some_getLast ne]
            exact (List.dropLast_concat_getLast ne).symm
          have at2 : (upd H2 e0 (.lst [])) f = some (.lst (l.dropLast.map V.int ++ [.int (l.getLastD 0)])) := by
            rw [F2.2.2]
            conv => lhs; rw [ed]
            rw [List.map_append]
            rfl
          walk_at "rd"
          refine ⟨fun c2 => ?_, fun c2 => ?_⟩
          · have c1 : l = [] ∨ l.getLastD 0 ≠ z := .inr fun e => by
              rw [e, decide_eq_true rfl] at c2
              cases c2
            walk_at "rd"
            refine ⟨ty_lst F2.2.2, ?_⟩
            walk_at "rd"
            refine rd_app F2.2.2 (by rw [List.length_map]; omega) ?_
            walk_at "rd"
            refine ⟨l ++ [z], _, rfl, by rw [et]; exact (if_pos c1).symm, by rw [List.map_append]; exact F2.set _, by rw [upd_ne (Ne.symm sf)]; exact hs2, by rw [List.length_append]; simp; omega⟩
          · have c1 : ¬ (l = [] ∨ l.getLastD 0 ≠ z) := by
              rintro (h | h)
              · exact ne h
              · have : decide (V.int (l.getLastD 0) = V.int z) = true := by simpa using c2
                exact h (V.int.inj (of_decide_eq_true this))
            walk_at "rd"
            exact ⟨l, _, rfl, by rw [et]; exact (if_neg c1).symm, F2, hs2, by omega⟩
    · rintro σ H1 ⟨l, v2, rfl, el, F, hs1, ll⟩
      rw [len, List.take_length, dedup_uniq] at el
      subst el
      walk_at "rd"
      refine ⟨f, _, rfl, .inl ⟨sq_of F.2.2, fun t ht => ?_⟩⟩
      exact q t _ (fresh_back F.2.1 ht) (F.2.1.trans (Ex.new ht)) upd_same
def spEither (K : PySem.W.Frag) : Sp := fun vs H Q _ => ∃ (h p : Addr) (ns : List Int), vs = [.ref h, .ref p] ∧ Hand H h ∧ p ≠ h ∧ H p = some (.lst (ns.map V.int)) ∧
  ∀ (t : Addr) (H' : Hp), H t = none → (H' t = some (.lst (ns.map V.int)) ∨ H' t = some (.tup (ns.map V.int))) → Dh h H H' → Hand H' h → Q (.ref t) H'
theorem h__law_either (E : Ctx K mg) : Has P w K mg base 4 "_law_either" ["_law_hand_here", "_law_rows"] (spEither K) := by
  obtain ⟨fd, F⟩ := f__law_either E
  refine ⟨⟨fd, ?_, F.bindsN fun _ _ _ _ _ _ us hl => match us, hl with | [_, _], _ => rfl⟩, g__law_either E, F.kp⟩
  refine F.ok sc__law_either (fun vs H Q E' h => ?len) (fun cdv A outer s H vs Q E' hr h => ⟨_, (pss_one (ps_ret (pe_ifExp (pt_cmpR op_eq (pe_H (h__law_draw E) (hr.mono (by decide)) (takes_of rfl rfl rfl rfl) (pa_cons (pv 0) (pa_cons pe_int pa_nil))) pe_int (nomark _)) (pe_callTy (kc_list (K := K) rfl) rfl (b_list E) (by decide +kernel) (pa_cons (pv 1) pa_nil)) (pe_callTy (kc_tup (K := K) rfl) rfl (b_tuple E) (by decide +kernel) (pa_cons (pv 1) pa_nil))))), ?rd⟩)
  case len =>
    obtain ⟨h0, p, ns, rfl, _⟩ := h
    rfl
  case rd =>
    obtain ⟨h0, p, ns, rfl, hh, ne, at_, q⟩ := h
    walk_at "rd"
    refine ⟨h0, 2, rfl, hh, ⟨by decide, by decide⟩, fun r H1 hr d1 hand1 => ?_⟩
    have at1 := d1 _ _ ne at_
    walk_at "rd"
    refine ⟨fun z => ?_, fun z => ?_⟩
    · walk_at "rd"
      refine ⟨p, _, rfl, .inl (sq_of at1), fun t ht => ?_⟩
      exact q t _ (d1.free hand1 ht) (.inl upd_same) (d1.trans (Dh.of (Ex.new ht))) (hand1.ex (Ex.new ht))
    · walk_at "rd"
      refine ⟨p, _, rfl, .inl ⟨sq_of at1, fun t ht => ?_⟩⟩
      exact q t _ (d1.free hand1 ht) (.inr upd_same) (d1.trans (Dh.of (Ex.new ht))) (hand1.ex (Ex.new ht))

end
end Lw

set_option Elab.async false
set_option linter.all false
set_option maxRecDepth 100000
set_option maxHeartbeats 4000000
namespace Lw
open PySem PySem.Spec PyProof.Rows L2 He Evl StX
local macro_rules | `(tactic| walk_at "rd") => `(tactic| (repeat first
  | with_reducible refine rd_seq ?_
  | with_reducible refine rd_asg ?_
  | with_reducible refine rd_ret ?_
  | with_reducible refine rd_next ?_
  | with_reducible refine rd_drop ?_
  | with_reducible refine rd_if ?_
  | with_reducible refine rd_ifE ?_
  | ((with_reducible refine' rd_var ?hv ?_); (case hv => rfl))
  | with_reducible refine rd_c ?_
  | with_reducible refine rd_op ?_
  | with_reducible refine rd_chain ?_
  | with_reducible refine rd_I0 ?_
  | with_reducible refine rd_test ?_
  | with_reducible refine rd_B ?_
  | with_reducible refine rd_bl ?_
  | with_reducible refine rd_not ?_
  | with_reducible refine rd_and ?_
  | with_reducible refine rd_or ?_
  | with_reducible refine rd_andV ?_
  | with_reducible refine rd_orV ?_
  | with_reducible refine rd_notV ?_
  | with_reducible refine rd_cons ?_
  | with_reducible refine rd_nil ?_
  | with_reducible refine rd_CB ?_
  | with_reducible refine rd_callS ?_
  | with_reducible refine rd_raise0 ?_
  | with_reducible refine rd_raise1 ?_
  | with_reducible refine rd_raise2 ?_
  | ((with_reducible refine' rd_eq ?hs ?_); (case hs => rfl))
  | ((with_reducible refine' rd_ne ?hs ?_); (case hs => rfl))
  | ((with_reducible refine' rd_isT ?th ?hT ?_); (case th => assumption); (case hT => decide))
  | with_reducible refine rd_tup ?_
  | with_reducible refine rd_lst ?_
  | with_reducible refine rd_iEnum ?_
  | with_reducible refine rd_iEnumA ?_
  | ((with_reducible refine' rd_ixl ?hl ?hk ?_); (case hl => assumption); (case hk => rfl))
  | with_reducible refine rd_int1 ?_
  | with_reducible refine rd_sub ?_
  | with_reducible refine rd_gcons ?_
  | with_reducible refine rd_gnil ?_
  | with_reducible refine rd_iZip ?_
  | with_reducible refine rd_BM ?_
  | with_reducible refine rd_neg ?_
  | ((with_reducible refine' rd_last ?hl ?_); (case hl => assumption))
  | with_reducible refine rd_lc2 ?_
  | with_reducible refine rd_Rg1 ?_
  | with_reducible refine rd_tupRg ?_
  | with_reducible refine rd_sl ?_
  | with_reducible refine rd_noPart ?_
  | with_reducible refine rd_part ?_
  | with_reducible refine rd_for ?_
  | with_reducible refine rd_iRev ?_
  | with_reducible refine rd_gname ?_
  | with_reducible refine rd_NN ?_
  | with_reducible refine rd_NL ?_
  | with_reducible refine rd_LN ?_
  | ((with_reducible refine' rd_shl1 ?hs ?_); (case hs => omega))
  | ((with_reducible refine' rd_I ?hs ?_); (case hs => first | omega | decide | exact ⟨by decide, by decide, by decide⟩ | exact ⟨by omega, by omega⟩))
  | with_reducible refine rd_tr ?_
  | with_reducible refine rd_trI ?_
  | with_reducible refine rd_star ?_
  | with_reducible refine rd_fmtB ?_
  | with_reducible refine rd_M1 ?_
  | with_reducible refine rd_un ?_
  | with_reducible refine rd_lc ?_
  | with_reducible refine rd_iT ?_
  | with_reducible refine rd_iL ?_
  | with_reducible refine rd_iR1 ?_
  | with_reducible refine rd_iR2 ?_
  | dsimp only [List.set, start]))
section
variable {P : Program} {w : World} {K : PySem.W.Frag} {mg : Str → Option Value} {base : Heap}

theorem markN_app (a b : List Nat) : markN (a ++ b) = markN a + markN b := by
  unfold markN
  rw [List.map_append, List.sum_append]
/-- the word of a heap, place by place -/
def heapW (m h : Nat) : Nat := markN ((List.range (2 ^ m)).filter fun p => p &&& h == h)
theorem heapW_step : ∀ m : Nat, m < 6 → ∀ h : Nat, h < 32 → h < 2 ^ m → stepN m (2 ^ h) = heapW m h := by decide +kernel
theorem markN_filter_lt (k : Nat) (f : Nat → Bool) : markN ((List.range k).filter f) < 2 ^ k :=
  markN_lt (List.nodup_range.filter _) fun p hp => List.mem_range.mp (List.mem_filter.mp hp).1
def spLHeapWord : Sp := fun vs H Q _ => ∃ m h : Nat, vs = [.int (m : Int), .int (h : Int)] ∧ m ≤ 5 ∧ Q (.int ((heapW m h : Nat) : Int)) H
theorem h__law_heap_word (E : Ctx K mg) : Has P w K mg base 2 "_law_heap_word" ["_law_m", "_law_heap"] (spLHeapWord) := by
  obtain ⟨fd, F⟩ := f__law_heap_word E
  refine ⟨⟨fd, ?_, F.bindsN fun _ _ _ _ _ _ us hl => match us, hl with | [_, _], _ => rfl⟩, g__law_heap_word E, F.kp⟩
  refine F.ok sc__law_heap_word (fun vs H Q E' h => ?len) (fun cdv A outer s H vs Q E' hr h => ⟨_, (pss_cons (ps_set (i := 2) sc__law_heap_word.nd rfl (.inl rfl) pe_int)
 (pss_cons (ps_for (passes_of rfl) rfl (pi_range1 rfl (b_range E) (pa_cons (pe_op on_shl pe_int (pv 0)) pa_nil)) (pg_name (i := 3) sc__law_heap_word.nd rfl (.inl rfl))
 (pss_one (ps_if (pt_cmpR op_eq (pe_op on_and (pv 3) (pv 1)) (pv 1) (nomark _))
 (pss_one (ps_set (i := 2) sc__law_heap_word.nd rfl (.inl rfl) (pe_op op_add (pv 2) (pe_op on_shl pe_int (pv 3)))))
 pss_nil)))
 (pss_one (ps_ret (pv 2))))), ?rd⟩)
  case len =>
    obtain ⟨m, h0, rfl, _⟩ := h
    rfl
  case rd =>
    obtain ⟨m, h0, rfl, hm, q⟩ := h
    have p5 : 2 ^ m ≤ 32 := Nat.le_trans (Nat.pow_le_pow_right (by decide) hm) (by decide)
    have p0 : 0 < 2 ^ m := Nat.pow_pos (by decide)
    walk_at "rd"
    refine ⟨_, rfl, by omega, by omega, ?_⟩
    rw [Int.toNat_natCast]
    refine for_range (lo := 0) (n := 2 ^ m) (fun i σ H' => ∃ v : Option V, σ = [some (.int (m : Int)), some (.int (h0 : Int)), some (.int ((markN ((List.range i).filter fun p => p &&& h0 == h0) : Nat) : Int)), v] ∧ H' = H) ⟨none, rfl, rfl⟩ ?_ ?_
    · rintro i σ H1 hi ⟨v, rfl, rfl⟩
      rw [Int.zero_add]
      walk_at "rd"
      have ed : decide (V.int ((i &&& h0 : Nat) : Int) = V.int (h0 : Int)) = (i &&& h0 == h0) := by
        by_cases e : i &&& h0 = h0
        · rw [e]
          simp
        · rw [decide_eq_false fun z => e (by injection z with z; omega), beq_eq_false_iff_ne.mpr e]
      rw [ed]
      refine ⟨fun z => ?_, fun z => ?_⟩
      · walk_at "rd"
        refine ⟨some (.int (i : Int)), ?_, rfl⟩
        have e : ((markN ((List.range i).filter fun p => p &&& h0 == h0) : Nat) : Int) + ((2 ^ i : Nat) : Int) = ((markN ((List.range (i + 1)).filter fun p => p &&& h0 == h0) : Nat) : Int) := by
          rw [List.range_succ, List.filter_append, List.filter_cons, if_pos z, markN_app, Int.natCast_add]
          rfl
        rw [e]
        rfl
      · walk_at "rd"
        refine ⟨some (.int (i : Int)), ?_, rfl⟩
        rw [List.range_succ, List.filter_append, List.filter_cons, if_neg (by rw [z]; decide), List.filter_nil, List.append_nil]
        rfl
    · rintro σ H1 ⟨v, rfl, rfl⟩
      walk_at "rd"
      exact q
def sumW (m : Nat) (ps : List Nat) : Nat := ps.foldl (fun w p => w ^^^ heapW m p) 0
def spLSum : Sp := fun vs H Q _ => ∃ (m : Nat) (a : Addr) (ps : List Nat), vs = [.int (m : Int), .ref a] ∧ m ≤ 5 ∧ H a = some (.tup ((intsL ps).map V.int)) ∧ Q (.int ((sumW m ps : Nat) : Int)) H
theorem h__law_sum (E : Ctx K mg) : Has P w K mg base 3 "_law_sum" ["_law_m", "_law_heaps"] (spLSum) := by
  obtain ⟨fd, F⟩ := f__law_sum E
  refine ⟨⟨fd, ?_, F.bindsN fun _ _ _ _ _ _ us hl => match us, hl with | [_, _], _ => rfl⟩, g__law_sum E, F.kp⟩
  refine F.ok sc__law_sum (fun vs H Q E' h => ?len) (fun cdv A outer s H vs Q E' hr h => ⟨_, (pss_cons (ps_set (i := 2) sc__law_sum.nd rfl (.inl rfl) pe_int)
 (pss_cons (ps_for (passes_of rfl) rfl (ki_tup (K := K) rfl (pv 1)) (pg_name (i := 3) sc__law_sum.nd rfl (.inl rfl))
 (pss_one (ps_set (i := 2) sc__law_sum.nd rfl (.inl rfl) (pe_op on_xor (pv 2) (pe_H (h__law_heap_word E) (hr.mono (by decide)) (takes_of rfl rfl rfl rfl) (pa_cons (pv 0) (pa_cons (pv 3) pa_nil)))))))
 (pss_one (ps_ret (pv 2))))), ?rd⟩)
  case len =>
    obtain ⟨m, a, ps, rfl, _⟩ := h
    rfl
  case rd =>
    obtain ⟨m, a, ps, rfl, hm, at_, q⟩ := h
    have sq : SqT K H a ((intsL ps).map V.int) := st_of at_
    have el : ((intsL ps).map V.int).length = ps.length := by simp [intsL]
    walk_at "rd"
    refine ⟨a, rfl, ⟨_, sq⟩, for_it walk_tup (fun i σ H' => ∃ v3 : Option V, σ = [some (.int (m : Int)), some (.ref a), some (.int (((ps.take i).foldl (fun w p => w ^^^ heapW m p) 0 : Nat) : Int)), v3] ∧ H' = H) ⟨none, rfl, rfl⟩ (fun i σ H' _ ⟨_, _, e⟩ => e ▸ sq) ?_ ?_⟩
    · rintro i x σ H1 H2 hlt ⟨v3, rfl, rfl⟩ ⟨rfl, hx⟩
      have hi2 : ∃ p, ps[i]? = some p ∧ x = .int (p : Int) := by
        unfold intsL at hx
        rw [List.map_map, List.getElem?_map] at hx
        cases e : ps[i]? with
        | none => rw [e] at hx; cases hx
        | some p => rw [e] at hx; exact ⟨p, rfl, (Option.some.inj hx).symm⟩
      obtain ⟨p, ep, rfl⟩ := hi2
      walk_at "rd"
      refine ⟨m, p, rfl, hm, ?_⟩
      walk_at "rd"
      refine ⟨some (.int (p : Int)), ?_, rfl⟩
      rw [List.take_add_one, ep, List.foldl_append]
      rfl
    · rintro σ H1 ⟨v3, rfl, rfl⟩
      rw [el, List.take_length]
      walk_at "rd"
      exact q
def orW (ps : List Nat) : Nat := ps.foldl (fun w p => w ||| 2 ^ p) 0
def spLMark : Sp := fun vs H Q _ => ∃ (a : Addr) (ps : List Nat), vs = [.ref a] ∧ H a = some (.lst ((intsL ps).map V.int)) ∧ (∀ p ∈ ps, p < 32) ∧ Q (.int ((orW ps : Nat) : Int)) H
theorem h__law_mark (E : Ctx K mg) : Has P w K mg base 2 "_law_mark" ["_law_places"] (spLMark) := by
  obtain ⟨fd, F⟩ := f__law_mark E
  refine ⟨⟨fd, ?_, F.bindsN fun _ _ _ _ _ _ us hl => match us, hl with | [_], _ => rfl⟩, g__law_mark E, F.kp⟩
  refine F.ok sc__law_mark (fun vs H Q E' h => ?len) (fun cdv A outer s H vs Q E' hr h => ⟨_, (pss_cons (ps_set (i := 1) sc__law_mark.nd rfl (.inl rfl) pe_int)
 (pss_cons (ps_for (passes_of rfl) rfl (ki_list (K := K) rfl (pv 0)) (pg_name (i := 2) sc__law_mark.nd rfl (.inl rfl))
 (pss_one (ps_set (i := 1) sc__law_mark.nd rfl (.inl rfl) (pe_op on_or (pv 1) (pe_op on_shl pe_int (pv 2))))))
 (pss_one (ps_ret (pv 1))))), ?rd⟩)
  case len =>
    obtain ⟨a, ps, rfl, _⟩ := h
    rfl
  case rd =>
    obtain ⟨a, ps, rfl, at_, lt, q⟩ := h
    have sq : SqL K H a ((intsL ps).map V.int) := sq_of at_
    have el : ((intsL ps).map V.int).length = ps.length := by simp [intsL]
    walk_at "rd"
    refine ⟨a, rfl, ⟨_, sq⟩, for_it walk_list (fun i σ H' => ∃ v3 : Option V, σ = [some (.ref a), some (.int (((ps.take i).foldl (fun w p => w ||| 2 ^ p) 0 : Nat) : Int)), v3] ∧ H' = H) ⟨none, rfl, rfl⟩ (fun i σ H' _ ⟨_, _, e⟩ => e ▸ sq) ?_ ?_⟩
    · rintro i x σ H1 H2 hlt ⟨v3, rfl, rfl⟩ ⟨rfl, hx⟩
      have hi2 : ∃ p, ps[i]? = some p ∧ x = .int (p : Int) := by
        unfold intsL at hx
        rw [List.map_map, List.getElem?_map] at hx
        cases e : ps[i]? with
        | none => rw [e] at hx; cases hx
        | some p => rw [e] at hx; exact ⟨p, rfl, (Option.some.inj hx).symm⟩
      obtain ⟨p, ep, rfl⟩ := hi2
      have pl := lt p (List.mem_of_getElem? ep)
      walk_at "rd"
      refine ⟨some (.int (p : Int)), ?_, rfl⟩
      rw [List.take_add_one, ep, List.foldl_append]
      rfl
    · rintro σ H1 ⟨v3, rfl, rfl⟩
      rw [el, List.take_length]
      walk_at "rd"
      exact q

end
end Lw

set_option Elab.async false
set_option linter.all false
set_option maxRecDepth 100000
set_option maxHeartbeats 4000000
namespace Lw
open PySem PySem.Spec PyProof.Rows L2 He Evl StX
local macro_rules | `(tactic| walk_at "rd") => `(tactic| (repeat first
  | with_reducible refine rd_seq ?_
  | with_reducible refine rd_asg ?_
  | with_reducible refine rd_ret ?_
  | with_reducible refine rd_next ?_
  | with_reducible refine rd_drop ?_
  | with_reducible refine rd_if ?_
  | with_reducible refine rd_ifE ?_
  | ((with_reducible refine' rd_var ?hv ?_); (case hv => rfl))
  | with_reducible refine rd_c ?_
  | with_reducible refine rd_op ?_
  | with_reducible refine rd_chain ?_
  | with_reducible refine rd_I0 ?_
  | with_reducible refine rd_test ?_
  | with_reducible refine rd_B ?_
  | with_reducible refine rd_bl ?_
  | with_reducible refine rd_not ?_
  | with_reducible refine rd_and ?_
  | with_reducible refine rd_or ?_
  | with_reducible refine rd_andV ?_
  | with_reducible refine rd_orV ?_
  | with_reducible refine rd_notV ?_
  | with_reducible refine rd_cons ?_
  | with_reducible refine rd_nil ?_
  | with_reducible refine rd_CB ?_
  | with_reducible refine rd_callS ?_
  | with_reducible refine rd_raise0 ?_
  | with_reducible refine rd_raise1 ?_
  | with_reducible refine rd_raise2 ?_
  | ((with_reducible refine' rd_eq ?hs ?_); (case hs => rfl))
  | ((with_reducible refine' rd_ne ?hs ?_); (case hs => rfl))
  | ((with_reducible refine' rd_isT ?th ?hT ?_); (case th => assumption); (case hT => decide))
  | with_reducible refine rd_tup ?_
  | with_reducible refine rd_lst ?_
  | with_reducible refine rd_iEnum ?_
  | with_reducible refine rd_iEnumA ?_
  | ((with_reducible refine' rd_ixl ?hl ?hk ?_); (case hl => assumption); (case hk => rfl))
  | with_reducible refine rd_int1 ?_
  | with_reducible refine rd_sub ?_
  | with_reducible refine rd_gcons ?_
  | with_reducible refine rd_gnil ?_
  | with_reducible refine rd_iZip ?_
  | with_reducible refine rd_BM ?_
  | with_reducible refine rd_neg ?_
  | ((with_reducible refine' rd_last ?hl ?_); (case hl => assumption))
  | with_reducible refine rd_lc2 ?_
  | with_reducible refine rd_Rg1 ?_
  | with_reducible refine rd_tupRg ?_
  | with_reducible refine rd_sl ?_
  | with_reducible refine rd_noPart ?_
  | with_reducible refine rd_part ?_
  | with_reducible refine rd_for ?_
  | with_reducible refine rd_iRev ?_
  | with_reducible refine rd_gname ?_
  | with_reducible refine rd_NN ?_
  | with_reducible refine rd_NL ?_
  | with_reducible refine rd_LN ?_
  | ((with_reducible refine' rd_shl1 ?hs ?_); (case hs => omega))
  | ((with_reducible refine' rd_I ?hs ?_); (case hs => first | omega | decide | exact ⟨by decide, by decide, by decide⟩ | exact ⟨by omega, by omega⟩))
  | with_reducible refine rd_tr ?_
  | with_reducible refine rd_trI ?_
  | with_reducible refine rd_star ?_
  | with_reducible refine rd_fmtB ?_
  | with_reducible refine rd_M1 ?_
  | with_reducible refine rd_un ?_
  | with_reducible refine rd_lc ?_
  | with_reducible refine rd_iT ?_
  | with_reducible refine rd_iL ?_
  | with_reducible refine rd_iR1 ?_
  | with_reducible refine rd_iR2 ?_
  | dsimp only [List.set, start]))
section
variable {P : Program} {w : World} {K : PySem.W.Frag} {mg : Str → Option Value} {base : Heap}

theorem and_xor (a b w : Nat) : (a ^^^ b) &&& w = (a &&& w) ^^^ (b &&& w) := by
  refine Nat.eq_of_testBit_eq fun i => ?_
  simp only [Nat.testBit_xor, Nat.testBit_and]
  cases a.testBit i <;> cases b.testBit i <;> cases w.testBit i <;> rfl
theorem mul_xor (a b k : Nat) : (a ^^^ b) * 2 ^ k = (a * 2 ^ k) ^^^ (b * 2 ^ k) := by
  rw [← Nat.shiftLeft_eq, ← Nat.shiftLeft_eq, ← Nat.shiftLeft_eq]
  refine Nat.eq_of_testBit_eq fun i => ?_
  simp only [Nat.testBit_xor, Nat.testBit_shiftLeft]
  cases decide (i ≥ k) <;> simp
theorem step1_xor (a b l : Nat) : step1 (a ^^^ b) l = step1 a l ^^^ step1 b l := by
  unfold step1
  rw [and_xor, mul_xor]
  refine Nat.eq_of_testBit_eq fun i => ?_
  simp only [Nat.testBit_xor]
  cases a.testBit i <;> cases b.testBit i <;> simp
theorem stepK_xor (a b : Nat) : ∀ k, (List.range k).foldl step1 (a ^^^ b) = (List.range k).foldl step1 a ^^^ (List.range k).foldl step1 b
  | 0 => rfl
  | k + 1 => by
    rw [List.range_succ, List.foldl_append, List.foldl_append, List.foldl_append, stepK_xor a b k]
    exact step1_xor _ _ _
theorem stepN_xor (m a b : Nat) : stepN m (a ^^^ b) = stepN m a ^^^ stepN m b := stepK_xor a b m
theorem stepN_zero (m : Nat) : stepN m 0 = 0 := by
  have h := stepN_xor m 0 0
  rw [Nat.xor_self, Nat.xor_self] at h
  exact h
def xorN (f : Nat → Nat) (ps : List Nat) : Nat := ps.foldl (fun w p => w ^^^ f p) 0
theorem fold_xor (f : Nat → Nat) : ∀ (ps : List Nat) (w : Nat), ps.foldl (fun w p => w ^^^ f p) w = w ^^^ xorN f ps
  | [], w => by simp [xorN]
  | p :: r, w => by
    unfold xorN
    rw [List.foldl_cons, List.foldl_cons, fold_xor f r, fold_xor f r (0 ^^^ f p), Nat.zero_xor, Nat.xor_assoc]
theorem xorN_cons (f : Nat → Nat) (p : Nat) (r : List Nat) : xorN f (p :: r) = f p ^^^ xorN f r := by
  unfold xorN
  rw [List.foldl_cons, fold_xor, Nat.zero_xor]
  rfl
theorem stepN_xorN (m : Nat) (f : Nat → Nat) : ∀ ps : List Nat, stepN m (xorN f ps) = xorN (fun p => stepN m (f p)) ps
  | [] => stepN_zero m
  | p :: r => by rw [xorN_cons, stepN_xor, stepN_xorN m f r, xorN_cons]
theorem bit_pow (p i : Nat) : (2 ^ p).testBit i = decide (p = i) := Nat.testBit_two_pow
theorem xorN_pow_bit (i : Nat) : ∀ ps : List Nat, ps.Nodup → (xorN (fun p => 2 ^ p) ps).testBit i = decide (i ∈ ps)
  | [], _ => by simp [xorN]
  | p :: r, nd => by
    rw [List.nodup_cons] at nd
    rw [xorN_cons, Nat.testBit_xor, bit_pow, xorN_pow_bit i r nd.2]
    by_cases e : p = i
    · subst e
      simp [nd.1]
    · by_cases e2 : i ∈ r
      · simp [e, e2]
      · simp [e, e2, Ne.symm e]
theorem xorN_lt {k : Nat} {f : Nat → Nat} : ∀ {ps : List Nat}, (∀ p ∈ ps, f p < 2 ^ k) → xorN f ps < 2 ^ k
  | [], _ => Nat.pow_pos (by decide)
  | p :: r, h => by
    rw [xorN_cons]
    exact Nat.xor_lt_two_pow (h p List.mem_cons_self) (xorN_lt fun q hq => h q (List.mem_cons_of_mem _ hq))
/-- a number is the sum of its places -/
theorem num_places {k n : Nat} (h : n < 2 ^ k) : n = xorN (fun p => 2 ^ p) ((List.range k).filter fun p => n / 2 ^ p % 2 == 1) := by
  refine Nat.eq_of_testBit_eq fun i => ?_
  rw [xorN_pow_bit i _ (List.nodup_range.filter _)]
  by_cases c : i < k
  · have e : n.testBit i = (n / 2 ^ i % 2 == 1) := by
      rw [Nat.testBit_eq_decide_div_mod_eq]
      rfl
    rw [e]
    cases z : (n / 2 ^ i % 2 == 1) with
    | true => exact (decide_eq_true (List.mem_filter.mpr ⟨List.mem_range.mpr c, z⟩)).symm
    | false => exact (decide_eq_false fun m => by rw [(List.mem_filter.mp m).2] at z; cases z).symm
  · have e : n.testBit i = false := Nat.testBit_lt_two_pow (Nat.lt_of_lt_of_le h (Nat.pow_le_pow_right (by decide) (by omega)))
    rw [e]
    exact (decide_eq_false fun m => c (List.mem_range.mp (List.mem_filter.mp m).1)).symm
theorem markN_bit (i : Nat) : ∀ (k : Nat) (ps : List Nat), ps.Nodup → (∀ p ∈ ps, p < k) → (markN ps).testBit i = decide (i ∈ ps)
  | 0, ps, nd, h => by
    cases ps with
    | nil => simp [markN]
    | cons p r => exact absurd (h p List.mem_cons_self) (Nat.not_lt_zero p)
  | k + 1, ps, nd, h => by
    by_cases c : k ∈ ps
    · have ne : ∀ p ∈ ps.erase k, p < k := fun p hp => by
        have h1 := h p (List.mem_of_mem_erase hp)
        have h2 : p ≠ k := fun e => by
          subst e
          exact (List.Nodup.not_mem_erase nd) hp
        omega
      have s : markN ps = 2 ^ k + markN (ps.erase k) := by
        unfold markN
        rw [((List.perm_cons_erase c).map fun p => 2 ^ p).sum_nat, List.map_cons, List.sum_cons]
      have lt := markN_lt (nd.erase k) ne
      have ih := markN_bit i k (ps.erase k) (nd.erase k) ne
      rw [s]
      rcases Nat.lt_trichotomy i k with lik | e | gik
      · rw [Nat.testBit_two_pow_add_gt lik, ih]
        have : (i ∈ ps.erase k) = (i ∈ ps) := propext (List.mem_erase_of_ne (by omega))
        simp only [this]
      · subst e
        rw [Nat.testBit_two_pow_add_eq, Nat.testBit_lt_two_pow lt]
        simp [c]
      · have big : 2 ^ k + markN (ps.erase k) < 2 ^ i := by
          have : 2 ^ (k + 1) ≤ 2 ^ i := Nat.pow_le_pow_right (by decide) gik
          rw [Nat.pow_succ] at this
          omega
        rw [Nat.testBit_lt_two_pow big]
        exact (decide_eq_false fun m => by have := h i m; omega).symm
    · have ne : ∀ p ∈ ps, p < k := fun p hp => by
        have h1 := h p hp
        have h2 : p ≠ k := fun e => c (e ▸ hp)
        omega
      exact markN_bit i k ps nd ne
theorem markN_xor {k : Nat} {ps : List Nat} (nd : ps.Nodup) (h : ∀ p ∈ ps, p < k) : markN ps = xorN (fun p => 2 ^ p) ps :=
  Nat.eq_of_testBit_eq fun i => by rw [markN_bit i k ps nd h, xorN_pow_bit i ps nd]
theorem xorN_congr {f g : Nat → Nat} : ∀ {ps : List Nat}, (∀ p ∈ ps, f p = g p) → xorN f ps = xorN g ps
  | [], _ => rfl
  | p :: r, h => by rw [xorN_cons, xorN_cons, h p List.mem_cons_self, xorN_congr fun q hq => h q (List.mem_cons_of_mem _ hq)]
/-- a word made of heaps is the sum of the heaps' words -/
theorem stepN_marks {m : Nat} {ps : List Nat} (hm : m ≤ 5) (nd : ps.Nodup) (h : ∀ p ∈ ps, p < 2 ^ m) : stepN m (markN ps) = sumW m ps := by
  have p5 : 2 ^ m ≤ 32 := Nat.le_trans (Nat.pow_le_pow_right (by decide) hm) (by decide)
  rw [markN_xor nd h, stepN_xorN]
  exact xorN_congr fun p hp => heapW_step m (by omega) p (by have := h p hp; omega) (h p hp)
theorem step_twice : ∀ m : Nat, m < 6 → ∀ p : Nat, p < 32 → p < 2 ^ m → stepN m (stepN m (2 ^ p)) = 2 ^ p := by decide +kernel
/-- heaps of a word and the word of the heaps: there and back -/
theorem stepN_back {m n : Nat} (hm : m ≤ 5) (h : n < 2 ^ (2 ^ m)) : stepN m (stepN m n) = n := by
  have p5 : 2 ^ m ≤ 32 := Nat.le_trans (Nat.pow_le_pow_right (by decide) hm) (by decide)
  have e := num_places h
  generalize eps : ((List.range (2 ^ m)).filter fun p => n / 2 ^ p % 2 == 1) = ps at e
  have lt : ∀ p ∈ ps, p < 2 ^ m := fun p hp => by
    rw [← eps] at hp
    exact List.mem_range.mp (List.mem_filter.mp hp).1
  rw [e, stepN_xorN, stepN_xorN]
  exact xorN_congr fun p hp => step_twice m (by omega) p (by have := lt p hp; omega) (lt p hp)

end
end Lw

set_option Elab.async false
set_option linter.all false
set_option maxRecDepth 100000
set_option maxHeartbeats 4000000
namespace Lw
open PySem PySem.Spec PyProof.Rows L2 He Evl StX
local macro_rules | `(tactic| walk_at "rd") => `(tactic| (repeat first
  | with_reducible refine rd_seq ?_
  | with_reducible refine rd_asg ?_
  | with_reducible refine rd_ret ?_
  | with_reducible refine rd_next ?_
  | with_reducible refine rd_drop ?_
  | with_reducible refine rd_if ?_
  | with_reducible refine rd_ifE ?_
  | ((with_reducible refine' rd_var ?hv ?_); (case hv => rfl))
  | with_reducible refine rd_c ?_
  | with_reducible refine rd_op ?_
  | with_reducible refine rd_chain ?_
  | with_reducible refine rd_I0 ?_
  | with_reducible refine rd_test ?_
  | with_reducible refine rd_B ?_
  | with_reducible refine rd_bl ?_
  | with_reducible refine rd_not ?_
  | with_reducible refine rd_and ?_
  | with_reducible refine rd_or ?_
  | with_reducible refine rd_andV ?_
  | with_reducible refine rd_orV ?_
  | with_reducible refine rd_notV ?_
  | with_reducible refine rd_cons ?_
  | with_reducible refine rd_nil ?_
  | with_reducible refine rd_CB ?_
  | with_reducible refine rd_callS ?_
  | with_reducible refine rd_raise0 ?_
  | with_reducible refine rd_raise1 ?_
  | with_reducible refine rd_raise2 ?_
  | ((with_reducible refine' rd_eq ?hs ?_); (case hs => rfl))
  | ((with_reducible refine' rd_ne ?hs ?_); (case hs => rfl))
  | ((with_reducible refine' rd_isT ?th ?hT ?_); (case th => assumption); (case hT => decide))
  | with_reducible refine rd_tup ?_
  | with_reducible refine rd_lst ?_
  | with_reducible refine rd_iEnum ?_
  | with_reducible refine rd_iEnumA ?_
  | ((with_reducible refine' rd_ixl ?hl ?hk ?_); (case hl => assumption); (case hk => rfl))
  | with_reducible refine rd_int1 ?_
  | with_reducible refine rd_sub ?_
  | with_reducible refine rd_gcons ?_
  | with_reducible refine rd_gnil ?_
  | with_reducible refine rd_iZip ?_
  | with_reducible refine rd_BM ?_
  | with_reducible refine rd_neg ?_
  | ((with_reducible refine' rd_last ?hl ?_); (case hl => assumption))
  | with_reducible refine rd_lc2 ?_
  | with_reducible refine rd_Rg1 ?_
  | with_reducible refine rd_tupRg ?_
  | with_reducible refine rd_sl ?_
  | with_reducible refine rd_noPart ?_
  | with_reducible refine rd_part ?_
  | with_reducible refine rd_for ?_
  | with_reducible refine rd_iRev ?_
  | with_reducible refine rd_gname ?_
  | with_reducible refine rd_NN ?_
  | with_reducible refine rd_NL ?_
  | with_reducible refine rd_LN ?_
  | ((with_reducible refine' rd_shl1 ?hs ?_); (case hs => omega))
  | ((with_reducible refine' rd_I ?hs ?_); (case hs => first | omega | decide | exact ⟨by decide, by decide, by decide⟩ | exact ⟨by omega, by omega⟩))
  | with_reducible refine rd_tr ?_
  | with_reducible refine rd_trI ?_
  | with_reducible refine rd_star ?_
  | with_reducible refine rd_fmtB ?_
  | with_reducible refine rd_M1 ?_
  | with_reducible refine rd_un ?_
  | with_reducible refine rd_lc ?_
  | with_reducible refine rd_iT ?_
  | with_reducible refine rd_iL ?_
  | with_reducible refine rd_iR1 ?_
  | with_reducible refine rd_iR2 ?_
  | dsimp only [List.set, start]))
section
variable {P : Program} {w : World} {K : PySem.W.Frag} {mg : Str → Option Value} {base : Heap}

def RetL (H : Hp) (Q : VK) (ns : List Int) : Prop := ∀ p H', H p = none → Ex H H' → H' p = some (.lst (ns.map V.int)) → Q (.ref p) H'
def partB (n h i : Nat) : Bool := (i &&& h == i) && (n / 2 ^ i % 2 == 1)
/-- odd or even: how many places of the word lie below the heap -/
def parN (n h : Nat) : Nat → Nat
  | 0 => 0
  | i + 1 => if partB n h i = true then 1 - parN n h i else parN n h i
theorem parN_le (n h : Nat) : ∀ i, parN n h i ≤ 1
  | 0 => Nat.zero_le _
  | i + 1 => by
    have := parN_le n h i
    unfold parN
    split <;> omega
theorem parN_succ (n h i : Nat) : parN n h (i + 1) = if partB n h i = true then 1 - parN n h i else parN n h i := rfl
theorem heapW_bit {m p h : Nat} (hh : h < 2 ^ m) : (heapW m p).testBit h = (h &&& p == p) := by
  unfold heapW
  rw [markN_bit h (2 ^ m) _ (List.nodup_range.filter _) fun q hq => List.mem_range.mp (List.mem_filter.mp hq).1]
  cases z : (h &&& p == p) with
  | true => exact decide_eq_true (List.mem_filter.mpr ⟨List.mem_range.mpr hh, z⟩)
  | false => exact decide_eq_false fun w => by rw [(List.mem_filter.mp w).2] at z; cases z
theorem xorN_app (f : Nat → Nat) (a b : List Nat) : xorN f (a ++ b) = xorN f a ^^^ xorN f b := by
  unfold xorN
  rw [List.foldl_append, fold_xor]
  rfl
theorem par_bit {m n h : Nat} (hh : h < 2 ^ m) : ∀ i, (xorN (heapW m) ((List.range i).filter fun p => n / 2 ^ p % 2 == 1)).testBit h = (parN n h i == 1)
  | 0 => by simp [xorN, parN]
  | i + 1 => by
    rw [List.range_succ, List.filter_append, xorN_app, Nat.testBit_xor, par_bit hh i]
    have le := parN_le n h i
    rw [parN_succ]
    unfold partB
    rw [List.filter_cons]
    cases z : (n / 2 ^ i % 2 == 1) with
    | false =>
      rw [if_neg (by decide), Bool.and_false, if_neg (by decide)]
      simp [xorN]
    | true =>
      rw [if_pos rfl, List.filter_nil, xorN_cons, Nat.testBit_xor, heapW_bit hh, Bool.and_true, Nat.and_comm h i]
      rcases (show parN n h i = 0 ∨ parN n h i = 1 by omega) with e | e <;> rw [e] <;> cases (i &&& h == i) <;> simp [xorN]
theorem heaps_eq {m n : Nat} (hm : m ≤ 5) (hn : n < 2 ^ (2 ^ m)) : placesN m (stepN m n) = (List.range (2 ^ m)).filter fun h => parN n h (2 ^ m) == 1 := by
  have p5 : 2 ^ m ≤ 32 := Nat.le_trans (Nat.pow_le_pow_right (by decide) hm) (by decide)
  unfold placesN
  refine List.filter_congr fun h hh => ?_
  have hl := List.mem_range.mp hh
  rw [← par_bit hl]
  have e : stepN m n = xorN (heapW m) ((List.range (2 ^ m)).filter fun p => n / 2 ^ p % 2 == 1) := by
    conv => lhs; rw [num_places hn, stepN_xorN]
    exact xorN_congr fun p hp => by
      have lt := List.mem_range.mp (List.mem_filter.mp hp).1
      exact heapW_step m (by omega) p (by omega) lt
  rw [← e, Nat.testBit_eq_decide_div_mod_eq]
  rfl
theorem bit_eq1 (n i : Nat) : decide (V.int ((n / 2 ^ i &&& 1 : Nat) : Int) = V.int 1) = (n / 2 ^ i % 2 == 1) := by
  rw [Nat.and_one_is_mod]
  rcases Nat.mod_two_eq_zero_or_one (n / 2 ^ i) with h | h <;> rw [h] <;> rfl
def spLHeapsOf : Sp := fun vs H Q _ => ∃ m n : Nat, vs = [.int (m : Int), .int (n : Int)] ∧ m ≤ 5 ∧ n < 2 ^ (2 ^ m) ∧ RetL H Q (intsL (placesN m (stepN m n)))
theorem h__law_heaps_of (E : Ctx K mg) : Has P w K mg base 2 "_law_heaps_of" ["_law_m", "_law_word"] (spLHeapsOf) := by
  obtain ⟨fd, F⟩ := f__law_heaps_of E
  refine ⟨⟨fd, ?_, F.bindsN fun _ _ _ _ _ _ us hl => match us, hl with | [_, _], _ => rfl⟩, g__law_heaps_of E, F.kp⟩
  refine F.ok sc__law_heaps_of (fun vs H Q E' h => ?len) (fun cdv A outer s H vs Q E' hr h => ⟨_, (pss_cons (ps_set (i := 2) sc__law_heaps_of.nd rfl (.inl rfl) (pe_lst pa_nil))
 (pss_cons (ps_for (passes_of rfl) rfl (pi_range1 rfl (b_range E) (pa_cons (pe_op on_shl pe_int (pv 0)) pa_nil)) (pg_name (i := 3) sc__law_heaps_of.nd rfl (.inl rfl))
 (pss_cons (ps_set (i := 4) sc__law_heaps_of.nd rfl (.inl rfl) pe_int)
 (pss_cons (ps_for (passes_of rfl) rfl (pi_range1 rfl (b_range E) (pa_cons (pe_op on_shl pe_int (pv 0)) pa_nil)) (pg_name (i := 5) sc__law_heaps_of.nd rfl (.inl rfl))
 (pss_one (ps_if (PW.pt (pw_and (pt_cmpR op_eq (pe_op on_and (pv 5) (pv 3)) (pv 5) (nomark _)) (pw_and1 (pt_cmpR op_eq (pe_op on_and (pe_op on_shr (pv 1) (pv 5)) pe_int) pe_int (nomark _)))))
 (pss_one (ps_set (i := 4) sc__law_heaps_of.nd rfl (.inl rfl) (pe_op op_sub pe_int (pv 4))))
 pss_nil)))
 (pss_one (ps_if (pt_cmpR op_eq (pv 4) pe_int (nomark _))
 (pss_one (ps_expr (pe_bm PySem.F.plainAttrs_list PySem.F.slot_list_append PySem.F.type_list_append mt_append (pv 2) (pa_cons (pv 3) pa_nil))))
 pss_nil)))))
 (pss_one (ps_ret (pv 2))))), ?rd⟩)
  case len =>
    obtain ⟨m, n, rfl, _⟩ := h
    rfl
  case rd =>
    obtain ⟨m, n, rfl, hm, hn, q⟩ := h
    have p5 : 2 ^ m ≤ 32 := Nat.le_trans (Nat.pow_le_pow_right (by decide) hm) (by decide)
    have p0 : 0 < 2 ^ m := Nat.pow_pos (by decide)
    rw [heaps_eq hm hn] at q
    walk_at "rd"
    refine ⟨by show 0 ≤ sizeLine; omega, fun f hf => ?_⟩
    walk_at "rd"
    refine ⟨_, rfl, by omega, by omega, ?_⟩
    rw [Int.toNat_natCast]
    refine for_range (lo := 0) (n := 2 ^ m) (fun i σ H' => ∃ v3 v4 v5 : Option V, σ = [some (.int (m : Int)), some (.int (n : Int)), some (.ref f), v3, v4, v5] ∧ Fill H f ((intsL ((List.range i).filter fun h => parN n h (2 ^ m) == 1)).map V.int) H') ⟨none, none, none, rfl, Fill.new hf⟩ ?_ ?_
    · rintro h0 σ H1 hi ⟨v3, v4, v5, rfl, F⟩
      rw [Int.zero_add]
      dsimp only
      refine rd_mid (fun σ' H' => σ' = [some (.int (m : Int)), some (.int (n : Int)), some (.ref f), some (.int (h0 : Int)), some (.int 0), v5] ∧ H' = H1) (fun N hN => ?_) ?_
      · walk_at "rd"
        exact hN _ _ ⟨rfl, rfl⟩
      rintro σ H' ⟨rfl, rfl⟩
      refine rd_mid (fun σ' H2 => ∃ v5 : Option V, σ' = [some (.int (m : Int)), some (.int (n : Int)), some (.ref f), some (.int (h0 : Int)), some (.int ((parN n h0 (2 ^ m) : Nat) : Int)), v5] ∧ H2 = H') (fun N hN => ?_) ?_
      · walk_at "rd"
        refine ⟨_, rfl, by omega, by omega, ?_⟩
        rw [Int.toNat_natCast]
        refine for_range (lo := 0) (n := 2 ^ m) (fun i σ H2 => ∃ v5 : Option V, σ = [some (.int (m : Int)), some (.int (n : Int)), some (.ref f), some (.int (h0 : Int)), some (.int ((parN n h0 i : Nat) : Int)), v5] ∧ H2 = H') ⟨v5, rfl, rfl⟩ ?_ ?_
        · rintro i σ H2 hi2 ⟨v5, rfl, rfl⟩
          rw [Int.zero_add]
          have le := parN_le n h0 i
          have ed : decide (V.int ((i &&& h0 : Nat) : Int) = V.int (i : Int)) = (i &&& h0 == i) := by
            by_cases e : i &&& h0 = i
            · rw [e]
              simp
            · rw [decide_eq_false fun z => e (by injection z with z; omega), beq_eq_false_iff_ne.mpr e]
          walk_at "rd"
          rw [ed]
          refine ⟨fun z => ?_, fun z => ⟨(fun z => nomatch z), fun _ => ?_⟩⟩
          · walk_at "rd"
            rw [bit_eq1]
            refine ⟨fun z2 => ?_, fun z2 => ?_⟩
            · walk_at "rd"
              refine ⟨some (.int (i : Int)), ?_, rfl⟩
              have e1 : (1 : Int) - ((parN n h0 i : Nat) : Int) = ((1 - parN n h0 i : Nat) : Int) := by omega
              rw [e1, parN_succ, if_pos (show partB n h0 i = true by unfold partB; rw [z, z2]; rfl)]
              rfl
            · walk_at "rd"
              refine ⟨some (.int (i : Int)), ?_, rfl⟩
              rw [parN_succ, if_neg (show ¬ partB n h0 i = true by unfold partB; rw [z, z2]; decide)]
              rfl
          · walk_at "rd"
            refine ⟨some (.int (i : Int)), ?_, rfl⟩
            rw [parN_succ, if_neg (show ¬ partB n h0 i = true by unfold partB; rw [z, Bool.false_and]; decide)]
            rfl
        · rintro σ H2 ⟨v5, rfl, rfl⟩
          exact hN _ _ ⟨_, rfl, rfl⟩
      · rintro σ H2 ⟨v5, rfl, rfl⟩
        walk_at "rd"
        have ed : decide (V.int ((parN n h0 (2 ^ m) : Nat) : Int) = V.int 1) = (parN n h0 (2 ^ m) == 1) := by
          have le := parN_le n h0 (2 ^ m)
          rcases (show parN n h0 (2 ^ m) = 0 ∨ parN n h0 (2 ^ m) = 1 by omega) with e | e <;> rw [e] <;> rfl
        rw [ed]
        have fl : (intsL ((List.range h0).filter fun h => parN n h (2 ^ m) == 1)).length ≤ h0 := by
          unfold intsL
          rw [List.length_map]
          exact Nat.le_trans (List.length_filter_le _ _) (by simp)
        refine ⟨fun z => ?_, fun z => ?_⟩
        · walk_at "rd"
          refine ⟨ty_lst F.2.2, ?_⟩
          walk_at "rd"
          refine rd_app F.2.2 (by rw [List.length_map]; omega) ?_
          walk_at "rd"
          refine ⟨_, _, _, rfl, ?_⟩
          have e : (intsL ((List.range (h0 + 1)).filter fun h => parN n h (2 ^ m) == 1)).map V.int = (intsL ((List.range h0).filter fun h => parN n h (2 ^ m) == 1)).map V.int ++ [V.int (h0 : Int)] := by
            rw [List.range_succ, List.filter_append, List.filter_cons, if_pos z, List.filter_nil]
            unfold intsL
            rw [List.map_append, List.map_append]
            rfl
          rw [e]
          exact F.set _
        · walk_at "rd"
          refine ⟨_, _, _, rfl, ?_⟩
          rw [List.range_succ, List.filter_append, List.filter_cons, if_neg (by rw [z]; decide), List.filter_nil, List.append_nil]
          exact F
    · rintro σ H1 ⟨v3, v4, v5, rfl, F⟩
      walk_at "rd"
      exact q f H1 hf F.2.1 F.2.2

end
end Lw

set_option Elab.async false
set_option linter.all false
set_option maxRecDepth 100000
set_option maxHeartbeats 4000000
namespace Lw
open PySem PySem.Spec PyProof.Rows L2 He Evl StX
local macro_rules | `(tactic| walk_at "rd") => `(tactic| (repeat first
  | with_reducible refine rd_seq ?_
  | with_reducible refine rd_asg ?_
  | with_reducible refine rd_ret ?_
  | with_reducible refine rd_next ?_
  | with_reducible refine rd_drop ?_
  | with_reducible refine rd_if ?_
  | with_reducible refine rd_ifE ?_
  | ((with_reducible refine' rd_var ?hv ?_); (case hv => rfl))
  | with_reducible refine rd_c ?_
  | with_reducible refine rd_op ?_
  | with_reducible refine rd_chain ?_
  | with_reducible refine rd_I0 ?_
  | with_reducible refine rd_test ?_
  | with_reducible refine rd_B ?_
  | with_reducible refine rd_bl ?_
  | with_reducible refine rd_not ?_
  | with_reducible refine rd_and ?_
  | with_reducible refine rd_or ?_
  | with_reducible refine rd_andV ?_
  | with_reducible refine rd_orV ?_
  | with_reducible refine rd_notV ?_
  | with_reducible refine rd_cons ?_
  | with_reducible refine rd_nil ?_
  | with_reducible refine rd_CB ?_
  | with_reducible refine rd_callS ?_
  | with_reducible refine rd_raise0 ?_
  | with_reducible refine rd_raise1 ?_
  | with_reducible refine rd_raise2 ?_
  | ((with_reducible refine' rd_eq ?hs ?_); (case hs => rfl))
  | ((with_reducible refine' rd_ne ?hs ?_); (case hs => rfl))
  | ((with_reducible refine' rd_isT ?th ?hT ?_); (case th => assumption); (case hT => decide))
  | with_reducible refine rd_tup ?_
  | with_reducible refine rd_lst ?_
  | with_reducible refine rd_iEnum ?_
  | with_reducible refine rd_iEnumA ?_
  | ((with_reducible refine' rd_ixl ?hl ?hk ?_); (case hl => assumption); (case hk => rfl))
  | with_reducible refine rd_int1 ?_
  | with_reducible refine rd_sub ?_
  | with_reducible refine rd_gcons ?_
  | with_reducible refine rd_gnil ?_
  | with_reducible refine rd_iZip ?_
  | with_reducible refine rd_BM ?_
  | with_reducible refine rd_neg ?_
  | ((with_reducible refine' rd_last ?hl ?_); (case hl => assumption))
  | with_reducible refine rd_lc2 ?_
  | with_reducible refine rd_Rg1 ?_
  | with_reducible refine rd_tupRg ?_
  | with_reducible refine rd_sl ?_
  | with_reducible refine rd_noPart ?_
  | with_reducible refine rd_part ?_
  | with_reducible refine rd_for ?_
  | with_reducible refine rd_iRev ?_
  | with_reducible refine rd_gname ?_
  | with_reducible refine rd_NN ?_
  | with_reducible refine rd_NL ?_
  | with_reducible refine rd_LN ?_
  | ((with_reducible refine' rd_shl1 ?hs ?_); (case hs => omega))
  | ((with_reducible refine' rd_I ?hs ?_); (case hs => first | omega | decide | exact ⟨by decide, by decide, by decide⟩ | exact ⟨by omega, by omega⟩))
  | with_reducible refine rd_tr ?_
  | with_reducible refine rd_trI ?_
  | with_reducible refine rd_star ?_
  | with_reducible refine rd_fmtB ?_
  | with_reducible refine rd_M1 ?_
  | with_reducible refine rd_un ?_
  | with_reducible refine rd_lc ?_
  | with_reducible refine rd_iT ?_
  | with_reducible refine rd_iL ?_
  | with_reducible refine rd_iR1 ?_
  | with_reducible refine rd_iR2 ?_
  | dsimp only [List.set, start]))
section
variable {P : Program} {w : World} {K : PySem.W.Frag} {mg : Str → Option Value} {base : Heap}

def spAnyWord (K : PySem.W.Frag) : Sp := fun vs H Q _ => ∃ (h : Addr) (m : Nat), vs = [.ref h, .int (m : Int)] ∧ Hand H h ∧ m ≤ 5 ∧ ∀ (n : Nat) (H' : Hp), n < 2 ^ (2 ^ m) → Dh h H H' → Hand H' h → Q (.int (n : Int)) H'
theorem h__law_any_word (E : Ctx K mg) : Has P w K mg base 5 "_law_any_word" ["_law_hand_here", "_law_m"] (spAnyWord K) := by
  obtain ⟨fd, F⟩ := f__law_any_word E
  refine ⟨⟨fd, ?_, F.bindsN fun _ _ _ _ _ _ us hl => match us, hl with | [_, _], _ => rfl⟩, g__law_any_word E, F.kp⟩
  refine F.ok sc__law_any_word (fun vs H Q E' h => ?len) (fun cdv A outer s H vs Q E' hr h => ⟨_, (pss_one (ps_ret (pe_H (h__law_wide E) (hr.mono (by decide)) (takes_of rfl rfl rfl rfl) (pa_cons (pv 0) (pa_cons (pe_op on_shl pe_int (pv 1)) pa_nil))))), ?rd⟩)
  case len =>
    obtain ⟨h0, m, rfl, _⟩ := h
    rfl
  case rd =>
    obtain ⟨h0, m, rfl, hh, hm, q⟩ := h
    have p5 : 2 ^ m ≤ 32 := Nat.le_trans (Nat.pow_le_pow_right (by decide) hm) (by decide)
    walk_at "rd"
    exact ⟨h0, 2 ^ m, rfl, hh, by omega, q⟩
theorem places_sorted (m n : Nat) : (intsL (placesN m n)).Pairwise (· < ·) := by
  unfold intsL placesN
  rw [List.pairwise_map]
  exact (List.pairwise_lt_range.filter _).imp fun h => by omega
theorem places_bd {m n : Nat} : ∀ z ∈ intsL (placesN m n), 0 ≤ z ∧ z ≤ ((2 ^ m - 1 : Nat) : Int) := fun z hz => by
  obtain ⟨p, hp, rfl⟩ := List.mem_map.mp hz
  have := List.mem_range.mp (List.mem_filter.mp hp).1
  omega
theorem natsU_places (m n : Nat) : natsU (intsL (placesN m n)) = placesN m n := by
  unfold natsU
  rw [← strict_eq (places_sorted m n) (uniq_sorted _) fun z => (uniq_mem z _).symm]
  unfold intsL
  rw [List.map_map]
  conv => rhs; rw [← List.map_id (placesN m n)]
  exact List.map_congr_left fun p _ => by simp
theorem markN_places {m n : Nat} (h : n < 2 ^ (2 ^ m)) : markN (placesN m n) = n := by
  unfold placesN
  rw [markN_xor (k := 2 ^ m) (List.nodup_range.filter _) fun p hp => List.mem_range.mp (List.mem_filter.mp hp).1]
  exact (num_places h).symm
theorem ones_places : ∀ (k n : Nat), n < 2 ^ k → onesN n = ((List.range k).filter fun p => n / 2 ^ p % 2 == 1).length
  | 0, n, h => by
    have e : n = 0 := by omega
    subst e
    decide
  | k + 1, n, h => by
    have lt : n / 2 < 2 ^ k := by
      rw [Nat.pow_succ] at h
      omega
    have ih := ones_places k (n / 2) lt
    have half : onesN n = onesN (n / 2) + n % 2 := by
      rcases Nat.eq_zero_or_pos n with e | e
      · subst e
        decide
      · exact ones_half n e
    rw [half, ih, List.range_succ_eq_map, List.filter_cons, List.filter_map, Nat.pow_zero, Nat.div_one]
    have ef : ((fun p => n / 2 ^ p % 2 == 1) ∘ Nat.succ) = fun p => n / 2 / 2 ^ p % 2 == 1 := by
      funext p
      show (n / 2 ^ (p + 1) % 2 == 1) = _
      rw [Nat.pow_succ, Nat.mul_comm, Nat.div_div_eq_div_mul]
    rw [ef]
    rcases Nat.mod_two_eq_zero_or_one n with e | e <;> rw [e] <;> simp

end
end Lw

set_option Elab.async false
set_option linter.all false
set_option maxRecDepth 100000
set_option maxHeartbeats 4000000
namespace Lw
open PySem PySem.Spec PyProof.Rows L2 He Evl StX
local macro_rules | `(tactic| walk_at "rd") => `(tactic| (repeat first
  | with_reducible refine rd_seq ?_
  | with_reducible refine rd_asg ?_
  | with_reducible refine rd_ret ?_
  | with_reducible refine rd_next ?_
  | with_reducible refine rd_drop ?_
  | with_reducible refine rd_if ?_
  | with_reducible refine rd_ifE ?_
  | ((with_reducible refine' rd_var ?hv ?_); (case hv => rfl))
  | with_reducible refine rd_c ?_
  | with_reducible refine rd_op ?_
  | with_reducible refine rd_chain ?_
  | with_reducible refine rd_I0 ?_
  | with_reducible refine rd_test ?_
  | with_reducible refine rd_B ?_
  | with_reducible refine rd_bl ?_
  | with_reducible refine rd_not ?_
  | with_reducible refine rd_and ?_
  | with_reducible refine rd_or ?_
  | with_reducible refine rd_andV ?_
  | with_reducible refine rd_orV ?_
  | with_reducible refine rd_notV ?_
  | with_reducible refine rd_cons ?_
  | with_reducible refine rd_nil ?_
  | with_reducible refine rd_CB ?_
  | with_reducible refine rd_callS ?_
  | with_reducible refine rd_raise0 ?_
  | with_reducible refine rd_raise1 ?_
  | with_reducible refine rd_raise2 ?_
  | ((with_reducible refine' rd_eq ?hs ?_); (case hs => rfl))
  | ((with_reducible refine' rd_ne ?hs ?_); (case hs => rfl))
  | ((with_reducible refine' rd_isT ?th ?hT ?_); (case th => assumption); (case hT => decide))
  | with_reducible refine rd_tup ?_
  | with_reducible refine rd_lst ?_
  | with_reducible refine rd_iEnum ?_
  | with_reducible refine rd_iEnumA ?_
  | ((with_reducible refine' rd_ixl ?hl ?hk ?_); (case hl => assumption); (case hk => rfl))
  | with_reducible refine rd_int1 ?_
  | with_reducible refine rd_sub ?_
  | with_reducible refine rd_gcons ?_
  | with_reducible refine rd_gnil ?_
  | with_reducible refine rd_iZip ?_
  | with_reducible refine rd_BM ?_
  | with_reducible refine rd_neg ?_
  | ((with_reducible refine' rd_last ?hl ?_); (case hl => assumption))
  | with_reducible refine rd_lc2 ?_
  | with_reducible refine rd_Rg1 ?_
  | with_reducible refine rd_tupRg ?_
  | with_reducible refine rd_sl ?_
  | with_reducible refine rd_noPart ?_
  | with_reducible refine rd_part ?_
  | with_reducible refine rd_for ?_
  | with_reducible refine rd_iRev ?_
  | with_reducible refine rd_gname ?_
  | with_reducible refine rd_NN ?_
  | with_reducible refine rd_NL ?_
  | with_reducible refine rd_LN ?_
  | ((with_reducible refine' rd_shl1 ?hs ?_); (case hs => omega))
  | ((with_reducible refine' rd_I ?hs ?_); (case hs => first | omega | decide | exact ⟨by decide, by decide, by decide⟩ | exact ⟨by omega, by omega⟩))
  | with_reducible refine rd_tr ?_
  | with_reducible refine rd_trI ?_
  | with_reducible refine rd_star ?_
  | with_reducible refine rd_fmtB ?_
  | with_reducible refine rd_M1 ?_
  | with_reducible refine rd_un ?_
  | with_reducible refine rd_lc ?_
  | with_reducible refine rd_iT ?_
  | with_reducible refine rd_iL ?_
  | with_reducible refine rd_iR1 ?_
  | with_reducible refine rd_iR2 ?_
  | dsimp only [List.set, start]))
section
variable {P : Program} {w : World} {K : PySem.W.Frag} {mg : Str → Option Value} {base : Heap}

theorem whole_in {lo hi z : Int} (h1 : lo ≤ z) (h2 : z ≤ hi) : wholeV lo hi (.int z) = true := by
  show (decide (lo ≤ z) && decide (z ≤ hi)) = true
  rw [decide_eq_true h1, decide_eq_true h2]
  rfl
theorem in_off {hi : Int} {ns : List Int} (h : ∀ z ∈ ns, 0 ≤ z ∧ z ≤ hi) : firstOff hi (ns.map V.int) = none := firstOff_none fun k _ y hy => by
  rw [List.getElem?_map] at hy
  cases e : ns[k]? with
  | none => rw [e] at hy; cases hy
  | some z =>
    rw [e] at hy
    obtain rfl : V.int z = y := Option.some.inj hy
    obtain ⟨a, b⟩ := h z (List.mem_of_getElem? e)
    exact whole_in a b
theorem given_ints (n : Nat) (f : Nat → Bool) : given n f (fun i => V.int (i : Int)) = (intsL ((List.range n).filter f)).map V.int := by
  unfold given intsL
  rw [List.map_map]
  rfl
theorem ints_odd {K : PySem.W.Frag} {H : Hp} {ns : List Int} : ∀ x ∈ ns.map V.int, Odd K H x := fun x hx => by
  obtain ⟨z, _, rfl⟩ := List.mem_map.mp hx
  exact odd_int z
theorem places_len (m n : Nat) (hm : m ≤ 5) : (intsL (placesN m n)).length ≤ 32 := by
  unfold intsL placesN
  rw [List.length_map]
  refine Nat.le_trans (List.length_filter_le _ _) ?_
  rw [List.length_range]
  exact Nat.le_trans (Nat.pow_le_pow_right (by decide) hm) (by decide)
def spWordRight : Sp := fun vs H Q _ => ∃ m n : Nat, vs = [.int (m : Int), .int (n : Int)] ∧ (1 ≤ m ∧ m ≤ 5) ∧ n < 2 ^ (2 ^ m) ∧ ∀ H', Ex H H' → Q (.bl true) H'
theorem h__law_word_right (E : Ctx K mg) : Has P w K mg base 9 "_law_word_right" ["_law_m", "_law_word"] (spWordRight) := by
  obtain ⟨fd, F⟩ := f__law_word_right E
  refine ⟨⟨fd, ?_, F.bindsN fun _ _ _ _ _ _ us hl => match us, hl with | [_, _], _ => rfl⟩, g__law_word_right E, F.kp⟩
  refine F.ok sc__law_word_right (fun vs H Q E' h => ?len) (fun cdv A outer s H vs Q E' hr h => ⟨_, (pss_cons (ps_set (i := 2) sc__law_word_right.nd rfl (.inl rfl) (pe_H (h__law_heaps_of E) (hr.mono (by decide)) (takes_of rfl rfl rfl rfl) (pa_cons (pv 0) (pa_cons (pv 1) pa_nil))))
 (pss_cons (ps_set (i := 3) sc__law_word_right.nd rfl (.inl rfl) (pe_H (h_heaps_of E) (hr.mono (by decide)) (takes_of rfl rfl rfl rfl) (pa_cons (pv 0) (pa_cons (pv 1) pa_nil))))
 (pss_cons (ps_if (PW.pt (pw_or (pt_not (pt_val (pe_H (h__law_is_row E) (hr.mono (by decide)) (takes_of rfl rfl rfl rfl) (pa_cons (pv 3) (pa_cons (pe_op op_sub (pe_op on_shl pe_int (pv 0)) pe_int) pa_nil))))) (pw_or (pt_cmpR (ko_neD hr (K := K) rfl) (pv 3) (pe_callTy (kc_tup (K := K) rfl) rfl (b_tuple E) (by decide +kernel) (pa_cons (pv 2) pa_nil)) (nomark _)) (pw_or1 (pt_cmpR op_ne (pe_H (h_word_of E) (hr.mono (by decide)) (takes_of rfl rfl rfl rfl) (pa_cons (pv 0) (pa_cons (pe_callTy (kc_list (K := K) rfl) rfl (b_list E) (by decide +kernel) (pa_cons (pv 3) pa_nil)) pa_nil))) (pv 1) (nomark _))))))
 (pss_one (ps_ret pe_bl))
 pss_nil)
 (pss_cons (ps_setLc (i := 4) (own := [("_law_place", 5)]) (g := gName 5) rfl sc__law_word_right.nd rfl rfl (sw_true rfl rfl rfl (by decide +kernel)) (pi_range1 rfl (b_range E) (pa_cons (pe_op on_shl pe_int (pv 0)) pa_nil)) (blkOk_by (own := [("_law_place", 5)]) (N := N__law_word_right) (sc := defScope s__law_word_right) (by decide +kernel)) (fun _ _ _ _ _ => (pg_name (i := 5) sc__law_word_right.nd rfl (.inl rfl))) (fun _ _ _ _ _ => (pts_one (pt_cmpR op_eq (pe_op on_and (pe_op on_shr (pv 1) (pv 5)) pe_int) pe_int (nomark _)))) (fun _ _ _ _ _ => (pv 5)))
 (pss_cons (ps_if (PW.pt (pw_or (pt_cmpR (ko_neD hr (K := K) rfl) (pe_H (h_places_of E) (hr.mono (by decide)) (takes_of rfl rfl rfl rfl) (pa_cons (pv 0) (pa_cons (pv 1) pa_nil))) (pe_callTy (kc_tup (K := K) rfl) rfl (b_tuple E) (by decide +kernel) (pa_cons (pv 4) pa_nil)) (nomark _)) (pw_or (pt_cmpR op_ne (pe_H (h_marked_word E) (hr.mono (by decide)) (takes_of rfl rfl rfl rfl) (pa_cons (pv 0) (pa_cons (pv 4) pa_nil))) (pv 1) (nomark _)) (pw_or1 (pt_cmpR op_ne (pe_H (h_check_word E) (hr.mono (by decide)) (takes_of rfl rfl rfl rfl) (pa_cons (pv 0) (pa_cons (pv 1) pa_nil))) (pv 1) (nomark _))))))
 (pss_one (ps_ret pe_bl))
 pss_nil)
 (pss_one (ps_ret (pe_cmpR op_eq (pe_H (h_weight_of E) (hr.mono (by decide)) (takes_of rfl rfl rfl rfl) (pa_cons (pv 0) (pa_cons (pv 1) pa_nil))) (pe_callB (kc_len (K := K) rfl) rfl (b_len E) (by decide +kernel) (pa_cons (pv 4) pa_nil)) (nomark _))))))))), ?rd⟩)
  case len =>
    obtain ⟨m, n, rfl, _⟩ := h
    rfl
  case rd =>
    obtain ⟨m, n, rfl, ⟨hm1, hm2⟩, hn, q⟩ := h
    have p5 : 2 ^ m ≤ 32 := Nat.le_trans (Nat.pow_le_pow_right (by decide) hm2) (by decide)
    have p0 : 0 < 2 ^ m := Nat.pow_pos (by decide)
    have ep : ((2 ^ m : Nat) : Int) - 1 = ((2 ^ m - 1 : Nat) : Int) := by omega
    have sl : stepN m n < 2 ^ (2 ^ m) := stepN_lt hm2 hn m (Nat.le_refl m)
    have wn := word_le hn
    have l1 := places_len m (stepN m n) hm2
    have l2 := places_len m n hm2
    walk_at "rd"
    refine ⟨m, n, rfl, hm2, hn, fun p1 H1 hp1 e1 h1 => ?_⟩
    walk_at "rd"
    refine ⟨.int (m : Int), .int (n : Int), rfl, ⟨_, th_int _⟩, ⟨_, th_int _⟩, (fun z => absurd z (by rw [whole_of (by omega) (by omega)]; decide)), fun m2 e h3 h4 => ?_⟩
    obtain rfl : m = m2 := by injection e with e; omega
    refine ⟨fun z => absurd z (by rw [whole_of (by omega) wn]; decide), fun n2 en hn2 p2 H2 hp2 e2 h2 => ?_⟩
    obtain rfl : n = n2 := by injection en with en; omega
    walk_at "rd"
    rw [ep]
    refine ⟨p2, intsL (placesN m (stepN m n)), _, rfl, h2, places_sorted _ _, places_bd, ⟨true, rfl, (fun z => nomatch z), fun _ => ?_⟩⟩
    walk_at "rd"
    refine ⟨p1, _, rfl, .inl ⟨sq_of (e2 _ _ h1), fun p3 hp3 => ?_⟩⟩
    have x3 : Ex H2 (upd H2 p3 (.tup ((intsL (placesN m (stepN m n))).map V.int))) := Ex.new hp3
    refine rd_neT (a := intsL (placesN m (stepN m n))) (b := intsL (placesN m (stepN m n))) (st_of (x3 _ _ h2)) (st_of upd_same) ?_
    generalize upd H2 p3 (.tup ((intsL (placesN m (stepN m n))).map V.int)) = H3 at x3 ⊢
    rw [decide_eq_true rfl]
    refine ⟨false, rfl, (fun z => nomatch z), fun _ => ?_⟩
    walk_at "rd"
    refine ⟨p2, _, rfl, .inr (st_of (x3 _ _ h2)), fun l hl => ?_⟩
    have x4 : Ex H3 (upd H3 l (.lst ((intsL (placesN m (stepN m n))).map V.int))) := Ex.new hl
    have f4 : (upd H3 l (.lst ((intsL (placesN m (stepN m n))).map V.int))) l = some (.lst ((intsL (placesN m (stepN m n))).map V.int)) := upd_same
    generalize upd H3 l (.lst ((intsL (placesN m (stepN m n))).map V.int)) = H4 at x4 f4 ⊢
    walk_at "rd"
    refine ⟨.int (m : Int), .ref l, some ((intsL (placesN m (stepN m n))).map V.int), rfl, ⟨l, rfl, .inl f4, by rw [List.length_map]; omega, ints_odd⟩, ⟨_, th_int _⟩, (fun z => absurd z (by rw [whole_of (by omega) (by omega)]; decide)), fun m2 e h5 h6 => ?_⟩
    obtain rfl : m = m2 := by injection e with e; omega
    refine ⟨fun b eb => absurd ((in_off places_bd).symm.trans eb) nofun, fun ns2 en bd => ?_⟩
    obtain rfl : intsL (placesN m (stepN m n)) = ns2 := (List.map_inj_right fun _ _ h => V.int.inj h).mp (Option.some.inj en)
    refine ⟨by omega, fun H5 e5 => ?_⟩
    rw [natsU_places]
    dsimp only
    rw [markN_places sl, stepN_back hm2 hn]
    have e15 : Ex H H5 := (((e1.trans e2).trans x3).trans x4).trans e5
    walk_at "rd"
    rw [decide_eq_true rfl]
    refine ⟨(fun z => nomatch z), fun _ => ?_⟩
    walk_at "rd"
    refine ⟨_, rfl, by omega, by omega, ?_⟩
    rw [Int.toNat_natCast]
    refine lc_rng0 (n := 2 ^ m) (fun i => n / 2 ^ i % 2 == 1) (fun i => .int (i : Int)) (by omega) (fun _ => rfl) (fun i H6 e6 hi H7 e7 R q => ?_) (fun i H6 e6 hi hf H7 e7 R q => ?_) fun p4 H6 hp4 e6 h6 => ?_
    · walk_at "rd"
      rw [bit_eq1]
      exact q _ (Ex.refl _)
    · walk_at "rd"
      exact q _ (Ex.refl _)
    · rw [given_ints] at h6
      have h6 : H6 p4 = some (.lst ((intsL (placesN m n)).map V.int)) := h6
      walk_at "rd"
      refine ⟨.int (m : Int), .int (n : Int), rfl, ⟨_, th_int _⟩, ⟨_, th_int _⟩, (fun z => absurd z (by rw [whole_of (by omega) (by omega)]; decide)), fun m2 e h7 h8 => ?_⟩
      obtain rfl : m = m2 := by injection e with e; omega
      refine ⟨fun z => absurd z (by rw [whole_of (by omega) wn]; decide), fun n2 en hn2 p5 H7 hp5 e7 h7 => ?_⟩
      obtain rfl : n = n2 := by injection en with en; omega
      walk_at "rd"
      refine ⟨p4, _, rfl, .inl ⟨sq_of (e7 _ _ h6), fun p6 hp6 => ?_⟩⟩
      have x8 : Ex H7 (upd H7 p6 (.tup ((intsL (placesN m n)).map V.int))) := Ex.new hp6
      refine rd_neT (a := intsL (placesN m n)) (b := intsL (placesN m n)) (st_of (x8 _ _ h7)) (st_of upd_same) ?_
      generalize upd H7 p6 (.tup ((intsL (placesN m n)).map V.int)) = H8 at x8 ⊢
      rw [decide_eq_true rfl]
      refine ⟨false, rfl, (fun z => nomatch z), fun _ => ?_⟩
      have h8 := x8 _ _ (e7 _ _ h6)
      walk_at "rd"
      refine ⟨.int (m : Int), .ref p4, some ((intsL (placesN m n)).map V.int), rfl, ⟨p4, rfl, .inl h8, by rw [List.length_map]; omega, ints_odd⟩, ⟨_, th_int _⟩, (fun z => absurd z (by rw [whole_of (by omega) (by omega)]; decide)), fun m2 e h9 h10 => ?_⟩
      obtain rfl : m = m2 := by injection e with e; omega
      refine ⟨fun b eb => absurd ((in_off places_bd).symm.trans eb) nofun, fun ns2 en bd => ?_⟩
      obtain rfl : intsL (placesN m n) = ns2 := (List.map_inj_right fun _ _ h => V.int.inj h).mp (Option.some.inj en)
      refine ⟨by omega, fun H9 e9 => ?_⟩
      rw [natsU_places]
      dsimp only
      rw [markN_places hn]
      walk_at "rd"
      rw [decide_eq_true rfl]
      refine ⟨(fun z => nomatch z), fun _ => ?_⟩
      walk_at "rd"
      refine ⟨.int (m : Int), .int (n : Int), rfl, ⟨_, th_int _⟩, ⟨_, th_int _⟩, (fun z => absurd z (by rw [whole_of (by omega) (by omega)]; decide)), fun m2 e h11 h12 => ?_⟩
      obtain rfl : m = m2 := by injection e with e; omega
      refine ⟨fun z => ?_, fun z => absurd z (by rw [whole_of (by omega) wn]; decide)⟩
      walk_at "rd"
      rw [decide_eq_true rfl]
      refine ⟨(fun z => nomatch z), fun _ => ?_⟩
      walk_at "rd"
      refine ⟨.int (m : Int), .int (n : Int), rfl, ⟨_, th_int _⟩, ⟨_, th_int _⟩, (fun z => absurd z (by rw [whole_of (by omega) (by omega)]; decide)), fun m2 e h11 h12 => ?_⟩
      obtain rfl : m = m2 := by injection e with e; omega
      refine ⟨fun z => absurd z (by rw [whole_of (by omega) wn]; decide), fun n2 en hn2 => ?_⟩
      obtain rfl : n = n2 := by injection en with en; omega
      walk_at "rd"
      refine ⟨p4, _, rfl, .inl (sq_of (e9 _ _ h8)), ?_⟩
      have el : ((intsL (placesN m n)).map V.int).length = onesN n := by
        rw [ones_places (2 ^ m) n hn]
        simp [intsL, placesN]
      rw [el]
      walk_at "rd"
      rw [decide_eq_true rfl]
      exact q _ ((((e15.trans e6).trans e7).trans x8).trans e9)

end
end Lw

set_option Elab.async false
set_option linter.all false
set_option maxRecDepth 100000
set_option maxHeartbeats 4000000
namespace Lw
open PySem PySem.Spec PyProof.Rows L2 He Evl StX
local macro_rules | `(tactic| walk_at "rd") => `(tactic| (repeat first
  | with_reducible refine rd_seq ?_
  | with_reducible refine rd_asg ?_
  | with_reducible refine rd_ret ?_
  | with_reducible refine rd_next ?_
  | with_reducible refine rd_drop ?_
  | with_reducible refine rd_if ?_
  | with_reducible refine rd_ifE ?_
  | ((with_reducible refine' rd_var ?hv ?_); (case hv => rfl))
  | with_reducible refine rd_c ?_
  | with_reducible refine rd_op ?_
  | with_reducible refine rd_chain ?_
  | with_reducible refine rd_I0 ?_
  | with_reducible refine rd_test ?_
  | with_reducible refine rd_B ?_
  | with_reducible refine rd_bl ?_
  | with_reducible refine rd_not ?_
  | with_reducible refine rd_and ?_
  | with_reducible refine rd_or ?_
  | with_reducible refine rd_andV ?_
  | with_reducible refine rd_orV ?_
  | with_reducible refine rd_notV ?_
  | with_reducible refine rd_cons ?_
  | with_reducible refine rd_nil ?_
  | with_reducible refine rd_CB ?_
  | with_reducible refine rd_callS ?_
  | with_reducible refine rd_raise0 ?_
  | with_reducible refine rd_raise1 ?_
  | with_reducible refine rd_raise2 ?_
  | ((with_reducible refine' rd_eq ?hs ?_); (case hs => rfl))
  | ((with_reducible refine' rd_ne ?hs ?_); (case hs => rfl))
  | ((with_reducible refine' rd_isT ?th ?hT ?_); (case th => assumption); (case hT => decide))
  | with_reducible refine rd_tup ?_
  | with_reducible refine rd_lst ?_
  | with_reducible refine rd_iEnum ?_
  | with_reducible refine rd_iEnumA ?_
  | ((with_reducible refine' rd_ixl ?hl ?hk ?_); (case hl => assumption); (case hk => rfl))
  | with_reducible refine rd_int1 ?_
  | with_reducible refine rd_sub ?_
  | with_reducible refine rd_gcons ?_
  | with_reducible refine rd_gnil ?_
  | with_reducible refine rd_iZip ?_
  | with_reducible refine rd_BM ?_
  | with_reducible refine rd_neg ?_
  | ((with_reducible refine' rd_last ?hl ?_); (case hl => assumption))
  | with_reducible refine rd_lc2 ?_
  | with_reducible refine rd_Rg1 ?_
  | with_reducible refine rd_tupRg ?_
  | with_reducible refine rd_sl ?_
  | with_reducible refine rd_noPart ?_
  | with_reducible refine rd_part ?_
  | with_reducible refine rd_for ?_
  | with_reducible refine rd_iRev ?_
  | with_reducible refine rd_gname ?_
  | with_reducible refine rd_NN ?_
  | with_reducible refine rd_NL ?_
  | with_reducible refine rd_LN ?_
  | ((with_reducible refine' rd_shl1 ?hs ?_); (case hs => omega))
  | ((with_reducible refine' rd_I ?hs ?_); (case hs => first | omega | decide | exact ⟨by decide, by decide, by decide⟩ | exact ⟨by omega, by omega⟩))
  | with_reducible refine rd_tr ?_
  | with_reducible refine rd_trI ?_
  | with_reducible refine rd_star ?_
  | with_reducible refine rd_fmtB ?_
  | with_reducible refine rd_M1 ?_
  | with_reducible refine rd_un ?_
  | with_reducible refine rd_lc ?_
  | with_reducible refine rd_iT ?_
  | with_reducible refine rd_iL ?_
  | with_reducible refine rd_iR1 ?_
  | with_reducible refine rd_iR2 ?_
  | dsimp only [List.set, start]))
section
variable {P : Program} {w : World} {K : PySem.W.Frag} {mg : Str → Option Value} {base : Heap}

theorem rd_xf {σ : L2.St} {H : Hp} {Q : VK} {a C : Addr} {cls : Value} {d : Option Addr} {f : Str} {te : TE} (h : te σ H fun x H1 => x = .ref a ∧ cls = .ref C ∧ ∃ (dd : Addr) (fs : List (Str × V)) (v : V), d = some dd ∧ H1 dd = some (.xd fs) ∧ fs.lookup f = some v ∧ Q v H1) : tXf a cls d C f te σ H Q := h
/-- what a bad thing is told by -/
def TwoT (H : Hp) (Q : VK) (s : Str) (z : Int) : Prop := ∀ p H', Ex H H' → H' p = some (.tup [.str s, .int z]) → Q (.ref p) H'
def dueS (t : Nat) : Str := if t ≤ 8 then "heap" else "places"
def dueI (t : Nat) : Int := if t = 8 then 1 else if t = 9 then 2 else 0
inductive Asked (K : PySem.W.Frag) (H : Hp) (Q : VK) (t : Nat) (l x w : V) : Prop
  | letters (ol : Odd K H l) (ox : Odd K H x) (ow : Odd K H w) (b : wholeV 1 5 l = false) (q : TwoT H Q "letters" 0) : Asked K H Q t l x w
  | word (m n : Nat) (el : l = .int (m : Int)) (ew : w = .int (n : Int)) (h1 : 1 ≤ m) (h2 : m ≤ 5) (hn : n < 2 ^ (2 ^ m)) (ht : t < 7) (ox : Odd K H x) (b : wholeV 0 ((fullW m : Nat) : Int) x = false) (q : TwoT H Q "word" 0) : Asked K H Q t l x w
  | heap (m n : Nat) (el : l = .int (m : Int)) (ew : w = .int (n : Int)) (h1 : 1 ≤ m) (h2 : m ≤ 5) (hn : n < 2 ^ (2 ^ m)) (ht : 7 ≤ t ∧ t < 11) (ox : Odd K H x) (b : wholeV 0 ((2 ^ m - 1 : Nat) : Int) x = false) (q : TwoT H Q (dueS t) (dueI t)) : Asked K H Q t l x w
def spAsked (K : PySem.W.Frag) : Sp := fun vs H Q _ => ∃ (t : Nat) (l x w : V), vs = [.int (t : Int), l, x, w] ∧ t < 12 ∧ Asked K H Q t l x w
theorem letBad {K : PySem.W.Frag} {x : V} {E : XK} {H : Hp} {A : Nat → Prop} (od : Odd K H x) (w : wholeV 1 5 x = false) (e : Er0 K "BadLetters" E H) : Let K x E H A := ⟨od H (Ex.refl H), fun _ => e, fun m em h1 h2 => by
  subst em
  rw [whole_of (by omega) (by omega)] at w
  cases w⟩
theorem letGood {K : PySem.W.Frag} {m : Nat} {E : XK} {H : Hp} {A : Nat → Prop} (h1 : 1 ≤ m) (h2 : m ≤ 5) (a : A m) : Let K (.int (m : Int)) E H A := ⟨⟨_, th_int _⟩, (fun z => absurd z (by rw [whole_of (by omega) (by omega)]; decide)), fun m2 e _ _ => by
  obtain rfl : m = m2 := by injection e with e; omega
  exact a⟩
theorem word_off {m n : Nat} {x : V} (b : wholeV 0 ((fullW m : Nat) : Int) x = false) (e : x = .int (n : Int)) (h : n < 2 ^ (2 ^ m)) : False := by
  subst e
  rw [whole_of (by omega) (word_le h)] at b
  cases b
theorem heap_off {m n : Nat} {x : V} (b : wholeV 0 ((2 ^ m - 1 : Nat) : Int) x = false) (e : x = .int (n : Int)) (h : n < 2 ^ m) : False := by
  subst e
  rw [whole_of (by omega) (by omega)] at b
  cases b
theorem row_off {hi : Int} {x : V} {xs : List V} {ns : List Int} (b : wholeV 0 hi x = false) (m : x ∈ xs) (e : some xs = some (ns.map V.int)) (bd : ∀ z ∈ ns, 0 ≤ z ∧ z ≤ hi) : False := by
  rw [Option.some.inj e] at m
  obtain ⟨z, hz, rfl⟩ := List.mem_map.mp m
  rw [whole_in (bd z hz).1 (bd z hz).2] at b
  cases b
theorem odd_8 {K : PySem.W.Frag} {H : Hp} {x : V} (o : Odd K H x) : ∀ y ∈ [V.int 0, x], Odd K H y := by
  intro y hy
  simp only [List.mem_cons, List.not_mem_nil, or_false] at hy
  rcases hy with rfl | rfl
  · exact odd_int 0
  · exact o
theorem odd_9 {K : PySem.W.Frag} {H : Hp} {x : V} (o : Odd K H x) : ∀ y ∈ [V.int 0, V.int 1, x], Odd K H y := by
  intro y hy
  simp only [List.mem_cons, List.not_mem_nil, or_false] at hy
  rcases hy with rfl | rfl | rfl
  · exact odd_int 0
  · exact odd_int 1
  · exact o
theorem off_8 {m : Nat} {x : V} (h1 : 1 ≤ m) (h2 : m ≤ 5) (b : wholeV 0 ((2 ^ m - 1 : Nat) : Int) x = false) : badOf ((2 ^ m - 1 : Nat) : Int) (some [.int 0, x]) = some 1 :=
  firstOff_at (i := 1) rfl (fun k hk y hy => by
    obtain rfl : k = 0 := by omega
    obtain rfl : V.int 0 = y := Option.some.inj hy
    exact whole_in (by omega) (by omega)) b
theorem off_9 {m : Nat} {x : V} (h1 : 1 ≤ m) (h2 : m ≤ 5) (b : wholeV 0 ((2 ^ m - 1 : Nat) : Int) x = false) : badOf ((2 ^ m - 1 : Nat) : Int) (some [.int 0, .int 1, x]) = some 2 :=
  firstOff_at (i := 2) rfl (fun k hk y hy => by
    have p1 : 2 ≤ 2 ^ m := Nat.le_trans (by decide) (Nat.pow_le_pow_right (by decide) h1)
    rcases (show k = 0 ∨ k = 1 by omega) with rfl | rfl
    · obtain rfl : V.int 0 = y := Option.some.inj hy
      exact whole_in (by omega) (by omega)
    · obtain rfl : V.int 1 = y := Option.some.inj hy
      exact whole_in (by omega) (by omega)) b
theorem h__law_asked (E : Ctx K mg) : Has P w K mg base 9 "_law_asked" ["_law_turn", "_law_m", "_law_thing", "_law_word"] (spAsked K) := by
  obtain ⟨fd, F⟩ := f__law_asked E
  refine ⟨⟨fd, ?_, F.bindsN fun _ _ _ _ _ _ us hl => match us, hl with | [_, _, _, _], _ => rfl⟩, g__law_asked E, F.kp⟩
  refine F.ok sc__law_asked (fun vs H Q E' h => ?len) (fun cdv A outer s H vs Q E' hr h => ⟨_, (pss_cons (ps_tryMix (K := K) rfl rfl rfl sc__law_asked.nd (takes_of rfl rfl rfl rfl) (fun W pn xe tk _ => (pss_cons (ps_if (pt_cmpR op_eq (pv 0) pe_int (nomark _))
 (pss_one (ps_expr (pe_H (h_check_word E) (hr.mono (by decide)) tk (pa_cons (pv 1) (pa_cons (pv 2) pa_nil)))))
 pss_nil)
 (pss_cons (ps_if (pt_cmpR op_eq (pv 0) pe_int (nomark _))
 (pss_one (ps_expr (pe_H (h_heaps_of E) (hr.mono (by decide)) tk (pa_cons (pv 1) (pa_cons (pv 2) pa_nil)))))
 pss_nil)
 (pss_cons (ps_if (pt_cmpR op_eq (pv 0) pe_int (nomark _))
 (pss_one (ps_expr (pe_H (h_places_of E) (hr.mono (by decide)) tk (pa_cons (pv 1) (pa_cons (pv 2) pa_nil)))))
 pss_nil)
 (pss_cons (ps_if (pt_cmpR op_eq (pv 0) pe_int (nomark _))
 (pss_one (ps_expr (pe_H (h_weight_of E) (hr.mono (by decide)) tk (pa_cons (pv 1) (pa_cons (pv 2) pa_nil)))))
 pss_nil)
 (pss_cons (ps_if (pt_cmpR op_eq (pv 0) pe_int (nomark _))
 (pss_one (ps_expr (pe_H (h_value_at E) (hr.mono (by decide)) tk (pa_cons (pv 1) (pa_cons (pv 2) (pa_cons (pe_un un_neg pe_int) pa_nil))))))
 pss_nil)
 (pss_cons (ps_if (pt_cmpR op_eq (pv 0) pe_int (nomark _))
 (pss_one (ps_expr (pe_H (h_meets_evenly E) (hr.mono (by decide)) tk (pa_cons (pv 1) (pa_cons (pv 2) (pa_cons (pv 3) pa_nil))))))
 pss_nil)
 (pss_cons (ps_if (pt_cmpR op_eq (pv 0) pe_int (nomark _))
 (pss_one (ps_expr (pe_H (h_meets_evenly E) (hr.mono (by decide)) tk (pa_cons (pv 1) (pa_cons (pv 3) (pa_cons (pv 2) pa_nil))))))
 pss_nil)
 (pss_cons (ps_if (pt_cmpR op_eq (pv 0) pe_int (nomark _))
 (pss_one (ps_expr (pe_H (h_heap_word E) (hr.mono (by decide)) tk (pa_cons (pv 1) (pa_cons (pv 2) pa_nil)))))
 pss_nil)
 (pss_cons (ps_if (pt_cmpR op_eq (pv 0) pe_int (nomark _))
 (pss_one (ps_expr (pe_H (h_word_of E) (hr.mono (by decide)) tk (pa_cons (pv 1) (pa_cons (pe_lst (pa_cons pe_int (pa_cons (pv 2) pa_nil))) pa_nil)))))
 pss_nil)
 (pss_cons (ps_if (pt_cmpR op_eq (pv 0) pe_int (nomark _))
 (pss_one (ps_expr (pe_H (h_marked_word E) (hr.mono (by decide)) tk (pa_cons (pv 1) (pa_cons (pe_lst (pa_cons pe_int (pa_cons pe_int (pa_cons (pv 2) pa_nil)))) pa_nil)))))
 pss_nil)
 (pss_cons (ps_if (pt_cmpR op_eq (pv 0) pe_int (nomark _))
 (pss_one (ps_expr (pe_H (h_value_at E) (hr.mono (by decide)) tk (pa_cons (pv 1) (pa_cons (pv 3) (pa_cons (pv 2) pa_nil))))))
 pss_nil)
 (pss_one (ps_if (pt_cmpR op_eq (pv 0) pe_int (nomark _))
 (pss_one (ps_expr (pe_H (h_full_word E) (hr.mono (by decide)) tk (pa_cons (pv 1) pa_nil))))
 pss_nil)))))))))))))) (Mix.no ⟨rfl, by decide, .inl (g_BadLetters E)⟩ (fun a oe cls d pn hz hf => (pss_one (ps_ret (pe_tup (pa_cons pe_str (pa_cons pe_int pa_nil))))))
 (Mix.as (i := 4) rfl rfl ⟨rfl, by decide, .inl (g_BadWord E)⟩ (fun a oe cls d pn hz hf => (pss_one (ps_ret (pe_tup (pa_cons pe_str (pa_cons (pe_xf (x_BadWord E).f ((x_BadWord E).n _ (by decide)) hz.zc hf (pv 4)) pa_nil))))))
 (Mix.as (i := 4) rfl rfl ⟨rfl, by decide, .inl (g_BadHeap E)⟩ (fun a oe cls d pn hz hf => (pss_one (ps_ret (pe_tup (pa_cons pe_str (pa_cons (pe_xf (x_BadHeap E).f ((x_BadHeap E).n _ (by decide)) hz.zc hf (pv 4)) pa_nil))))))
 (Mix.as (i := 4) rfl rfl ⟨rfl, by decide, .inl (g_BadPlaces E)⟩ (fun a oe cls d pn hz hf => (pss_one (ps_ret (pe_tup (pa_cons pe_str (pa_cons (pe_xf (x_BadPlaces E).f ((x_BadPlaces E).n _ (by decide)) hz.zc hf (pv 4)) pa_nil))))))
 Mix.nil)))))
 (pss_one (ps_ret (pe_tup (pa_cons pe_str (pa_cons pe_int pa_nil)))))), ?rd⟩)
  case len =>
    obtain ⟨t, l, x, w, rfl, _⟩ := h
    rfl
  case rd =>
    obtain ⟨t, l, x, w, rfl, ht, ask⟩ := h
    walk_at "rd"
    refine rd_tryMix ?_
    walk_at "rd"
    refine ⟨fun z => ?_, fun z0 => ?_⟩
    · obtain rfl : t = 0 := by have := hit_int z; omega
      walk_at "rd"
      cases ask with
      | letters ol ox ow b q =>
        refine ⟨l, x, rfl, ox H (Ex.refl H), letBad ol b ⟨true, m_BadLetters_BadLetters E, fun _ a ha => ?_, (fun z => nomatch z)⟩⟩
        walk_at "rd"
        exact ⟨by show 2 ≤ sizeLine; decide, fun p hp => q p _ (Ex.new hp) upd_same⟩
      | word m n el ew h1 h2 hn ht ox b q =>
        subst el ew
        refine ⟨_, x, rfl, ox H (Ex.refl H), letGood h1 h2 ⟨fun w => absurd w (by rw [b]; decide), fun _ d hd => ⟨false, m_BadWord_BadLetters E, (fun z => nomatch z), fun _ => ⟨true, m_BadWord_BadWord E, fun _ a ha => ?_, (fun z => nomatch z)⟩⟩⟩⟩
        walk_at "rd"
        refine rd_xf ?_
        walk_at "rd"
        refine ⟨rfl, rfl, d, _, _, rfl, upd_same, rfl, ?_⟩
        walk_at "rd"
        exact ⟨by show 2 ≤ sizeLine; decide, fun p hp => q p _ ((Ex.new hd).trans (Ex.new hp)) upd_same⟩
      | heap m n el ew h1 h2 hn ht ox b q =>
        omega
    walk_at "rd"
    refine ⟨fun z => ?_, fun z1 => ?_⟩
    · obtain rfl : t = 1 := by have := hit_int z; omega
      walk_at "rd"
      cases ask with
      | letters ol ox ow b q =>
        refine ⟨l, x, rfl, ox H (Ex.refl H), letBad ol b ⟨true, m_BadLetters_BadLetters E, fun _ a ha => ?_, (fun z => nomatch z)⟩⟩
        walk_at "rd"
        exact ⟨by show 2 ≤ sizeLine; decide, fun p hp => q p _ (Ex.new hp) upd_same⟩
      | word m n el ew h1 h2 hn ht ox b q =>
        subst el ew
        refine ⟨_, x, rfl, ox H (Ex.refl H), letGood h1 h2 ⟨fun _ d hd => ⟨false, m_BadWord_BadLetters E, (fun z => nomatch z), fun _ => ⟨true, m_BadWord_BadWord E, fun _ a ha => ?_, (fun z => nomatch z)⟩⟩, fun n2 en hn2 => (word_off b en hn2).elim⟩⟩
        walk_at "rd"
        refine rd_xf ?_
        walk_at "rd"
        refine ⟨rfl, rfl, d, _, _, rfl, upd_same, rfl, ?_⟩
        walk_at "rd"
        exact ⟨by show 2 ≤ sizeLine; decide, fun p hp => q p _ ((Ex.new hd).trans (Ex.new hp)) upd_same⟩
      | heap m n el ew h1 h2 hn ht ox b q =>
        omega
    walk_at "rd"
    refine ⟨fun z => ?_, fun z2 => ?_⟩
    · obtain rfl : t = 2 := by have := hit_int z; omega
      walk_at "rd"
      cases ask with
      | letters ol ox ow b q =>
        refine ⟨l, x, rfl, ox H (Ex.refl H), letBad ol b ⟨true, m_BadLetters_BadLetters E, fun _ a ha => ?_, (fun z => nomatch z)⟩⟩
        walk_at "rd"
        exact ⟨by show 2 ≤ sizeLine; decide, fun p hp => q p _ (Ex.new hp) upd_same⟩
      | word m n el ew h1 h2 hn ht ox b q =>
        subst el ew
        refine ⟨_, x, rfl, ox H (Ex.refl H), letGood h1 h2 ⟨fun _ d hd => ⟨false, m_BadWord_BadLetters E, (fun z => nomatch z), fun _ => ⟨true, m_BadWord_BadWord E, fun _ a ha => ?_, (fun z => nomatch z)⟩⟩, fun n2 en hn2 => (word_off b en hn2).elim⟩⟩
        walk_at "rd"
        refine rd_xf ?_
        walk_at "rd"
        refine ⟨rfl, rfl, d, _, _, rfl, upd_same, rfl, ?_⟩
        walk_at "rd"
        exact ⟨by show 2 ≤ sizeLine; decide, fun p hp => q p _ ((Ex.new hd).trans (Ex.new hp)) upd_same⟩
      | heap m n el ew h1 h2 hn ht ox b q =>
        omega
    walk_at "rd"
    refine ⟨fun z => ?_, fun z3 => ?_⟩
    · obtain rfl : t = 3 := by have := hit_int z; omega
      walk_at "rd"
      cases ask with
      | letters ol ox ow b q =>
        refine ⟨l, x, rfl, ox H (Ex.refl H), letBad ol b ⟨true, m_BadLetters_BadLetters E, fun _ a ha => ?_, (fun z => nomatch z)⟩⟩
        walk_at "rd"
        exact ⟨by show 2 ≤ sizeLine; decide, fun p hp => q p _ (Ex.new hp) upd_same⟩
      | word m n el ew h1 h2 hn ht ox b q =>
        subst el ew
        refine ⟨_, x, rfl, ox H (Ex.refl H), letGood h1 h2 ⟨fun _ d hd => ⟨false, m_BadWord_BadLetters E, (fun z => nomatch z), fun _ => ⟨true, m_BadWord_BadWord E, fun _ a ha => ?_, (fun z => nomatch z)⟩⟩, fun n2 en hn2 => (word_off b en hn2).elim⟩⟩
        walk_at "rd"
        refine rd_xf ?_
        walk_at "rd"
        refine ⟨rfl, rfl, d, _, _, rfl, upd_same, rfl, ?_⟩
        walk_at "rd"
        exact ⟨by show 2 ≤ sizeLine; decide, fun p hp => q p _ ((Ex.new hd).trans (Ex.new hp)) upd_same⟩
      | heap m n el ew h1 h2 hn ht ox b q =>
        omega
    walk_at "rd"
    refine ⟨fun z => ?_, fun z4 => ?_⟩
    · obtain rfl : t = 4 := by have := hit_int z; omega
      walk_at "rd"
      cases ask with
      | letters ol ox ow b q =>
        refine ⟨l, x, .int (-1), rfl, ox H (Ex.refl H), ⟨_, th_int _⟩, letBad ol b ⟨true, m_BadLetters_BadLetters E, fun _ a ha => ?_, (fun z => nomatch z)⟩⟩
        walk_at "rd"
        exact ⟨by show 2 ≤ sizeLine; decide, fun p hp => q p _ (Ex.new hp) upd_same⟩
      | word m n el ew h1 h2 hn ht ox b q =>
        subst el ew
        refine ⟨_, x, .int (-1), rfl, ox H (Ex.refl H), ⟨_, th_int _⟩, letGood h1 h2 ⟨fun _ d hd => ⟨false, m_BadWord_BadLetters E, (fun z => nomatch z), fun _ => ⟨true, m_BadWord_BadWord E, fun _ a ha => ?_, (fun z => nomatch z)⟩⟩, fun zx => absurd zx (by rw [b]; decide), fun n2 p2 en _ hn2 _ => (word_off b en hn2).elim⟩⟩
        walk_at "rd"
        refine rd_xf ?_
        walk_at "rd"
        refine ⟨rfl, rfl, d, _, _, rfl, upd_same, rfl, ?_⟩
        walk_at "rd"
        exact ⟨by show 2 ≤ sizeLine; decide, fun p hp => q p _ ((Ex.new hd).trans (Ex.new hp)) upd_same⟩
      | heap m n el ew h1 h2 hn ht ox b q =>
        omega
    walk_at "rd"
    refine ⟨fun z => ?_, fun z5 => ?_⟩
    · obtain rfl : t = 5 := by have := hit_int z; omega
      walk_at "rd"
      cases ask with
      | letters ol ox ow b q =>
        refine ⟨l, x, w, rfl, ox H (Ex.refl H), ow H (Ex.refl H), letBad ol b ⟨true, m_BadLetters_BadLetters E, fun _ a ha => ?_, (fun z => nomatch z)⟩⟩
        walk_at "rd"
        exact ⟨by show 2 ≤ sizeLine; decide, fun p hp => q p _ (Ex.new hp) upd_same⟩
      | word m n el ew h1 h2 hn ht ox b q =>
        subst el ew
        refine ⟨_, x, _, rfl, ox H (Ex.refl H), ⟨_, th_int _⟩, letGood h1 h2 ⟨fun _ d hd => ⟨false, m_BadWord_BadLetters E, (fun z => nomatch z), fun _ => ⟨true, m_BadWord_BadWord E, fun _ a ha => ?_, (fun z => nomatch z)⟩⟩, fun zx => absurd zx (by rw [b]; decide), fun n2 p2 en _ hn2 _ => (word_off b en hn2).elim⟩⟩
        walk_at "rd"
        refine rd_xf ?_
        walk_at "rd"
        refine ⟨rfl, rfl, d, _, _, rfl, upd_same, rfl, ?_⟩
        walk_at "rd"
        exact ⟨by show 2 ≤ sizeLine; decide, fun p hp => q p _ ((Ex.new hd).trans (Ex.new hp)) upd_same⟩
      | heap m n el ew h1 h2 hn ht ox b q =>
        omega
    walk_at "rd"
    refine ⟨fun z => ?_, fun z6 => ?_⟩
    · obtain rfl : t = 6 := by have := hit_int z; omega
      walk_at "rd"
      cases ask with
      | letters ol ox ow b q =>
        refine ⟨l, w, x, rfl, ow H (Ex.refl H), ox H (Ex.refl H), letBad ol b ⟨true, m_BadLetters_BadLetters E, fun _ a ha => ?_, (fun z => nomatch z)⟩⟩
        walk_at "rd"
        exact ⟨by show 2 ≤ sizeLine; decide, fun p hp => q p _ (Ex.new hp) upd_same⟩
      | word m n el ew h1 h2 hn ht ox b q =>
        subst el ew
        refine ⟨_, _, x, rfl, ⟨_, th_int _⟩, ox H (Ex.refl H), letGood h1 h2 ⟨fun zw => absurd zw (by rw [whole_of (by omega) (word_le hn)]; decide), fun _ _ d hd => ⟨false, m_BadWord_BadLetters E, (fun z => nomatch z), fun _ => ⟨true, m_BadWord_BadWord E, fun _ a ha => ?_, (fun z => nomatch z)⟩⟩, fun _ n2 _ en _ hn2 => (word_off b en hn2).elim⟩⟩
        walk_at "rd"
        refine rd_xf ?_
        walk_at "rd"
        refine ⟨rfl, rfl, d, _, _, rfl, upd_same, rfl, ?_⟩
        walk_at "rd"
        exact ⟨by show 2 ≤ sizeLine; decide, fun p hp => q p _ ((Ex.new hd).trans (Ex.new hp)) upd_same⟩
      | heap m n el ew h1 h2 hn ht ox b q =>
        omega
    walk_at "rd"
    refine ⟨fun z => ?_, fun z7 => ?_⟩
    · obtain rfl : t = 7 := by have := hit_int z; omega
      walk_at "rd"
      cases ask with
      | letters ol ox ow b q =>
        refine ⟨l, x, rfl, ox H (Ex.refl H), letBad ol b ⟨true, m_BadLetters_BadLetters E, fun _ a ha => ?_, (fun z => nomatch z)⟩⟩
        walk_at "rd"
        exact ⟨by show 2 ≤ sizeLine; decide, fun p hp => q p _ (Ex.new hp) upd_same⟩
      | word m n el ew h1 h2 hn ht ox b q =>
        omega
      | heap m n el ew h1 h2 hn ht ox b q =>
        subst el ew
        refine ⟨_, x, rfl, ox H (Ex.refl H), letGood h1 h2 ⟨fun w => absurd w (by rw [b]; decide), fun _ d hd => ⟨false, m_BadHeap_BadLetters E, (fun z => nomatch z), fun _ => ⟨false, m_BadHeap_BadWord E, (fun z => nomatch z), fun _ => ⟨true, m_BadHeap_BadHeap E, fun _ a ha => ?_, (fun z => nomatch z)⟩⟩⟩⟩⟩
        walk_at "rd"
        refine rd_xf ?_
        walk_at "rd"
        refine ⟨rfl, rfl, d, _, _, rfl, upd_same, rfl, ?_⟩
        walk_at "rd"
        exact ⟨by show 2 ≤ sizeLine; decide, fun p hp => q p _ ((Ex.new hd).trans (Ex.new hp)) upd_same⟩
    walk_at "rd"
    refine ⟨fun z => ?_, fun z8 => ?_⟩
    · obtain rfl : t = 8 := by have := hit_int z; omega
      walk_at "rd"
      refine ⟨by show 2 ≤ sizeLine; decide, fun lp hlp => ?_⟩
      walk_at "rd"
      cases ask with
      | letters ol ox ow b q =>
        refine ⟨l, .ref lp, some [.int 0, x], rfl, ⟨lp, rfl, .inl upd_same, by show 2 ≤ 1000; decide, fun y hy => odd_8 (ox.ex (Ex.new hlp)) y hy⟩, letBad (ol.ex (Ex.new hlp)) b ⟨true, m_BadLetters_BadLetters E, fun _ a ha => ?_, (fun z => nomatch z)⟩⟩
        walk_at "rd"
        exact ⟨by show 2 ≤ sizeLine; decide, fun p hp => q p _ ((Ex.new hlp).trans (Ex.new hp)) upd_same⟩
      | word m n el ew h1 h2 hn ht ox b q =>
        omega
      | heap m n el ew h1 h2 hn ht ox b q =>
        subst el ew
        refine ⟨_, .ref lp, some [.int 0, x], rfl, ⟨lp, rfl, .inl upd_same, by show 2 ≤ 1000; decide, fun y hy => odd_8 (ox.ex (Ex.new hlp)) y hy⟩, letGood h1 h2 ⟨fun bb eb H1 e1 d hd => ⟨false, m_BadHeap_BadLetters E, (fun z => nomatch z), fun _ => ⟨false, m_BadHeap_BadWord E, (fun z => nomatch z), fun _ => ⟨true, m_BadHeap_BadHeap E, fun _ a ha => ?_, (fun z => nomatch z)⟩⟩⟩, fun ns en bd => (row_off b (show x ∈ [.int 0, x] by simp) en bd).elim⟩⟩
        obtain rfl : 1 = bb := Option.some.inj ((off_8 h1 h2 b).symm.trans eb)
        walk_at "rd"
        refine rd_xf ?_
        walk_at "rd"
        refine ⟨rfl, rfl, d, _, _, rfl, upd_same, rfl, ?_⟩
        walk_at "rd"
        exact ⟨by show 2 ≤ sizeLine; decide, fun p hp => q p _ (((Ex.new hlp).trans e1).trans ((Ex.new hd).trans (Ex.new hp))) upd_same⟩
    walk_at "rd"
    refine ⟨fun z => ?_, fun z9 => ?_⟩
    · obtain rfl : t = 9 := by have := hit_int z; omega
      walk_at "rd"
      refine ⟨by show 3 ≤ sizeLine; decide, fun lp hlp => ?_⟩
      walk_at "rd"
      cases ask with
      | letters ol ox ow b q =>
        refine ⟨l, .ref lp, some [.int 0, .int 1, x], rfl, ⟨lp, rfl, .inl upd_same, by show 3 ≤ 1000; decide, fun y hy => odd_9 (ox.ex (Ex.new hlp)) y hy⟩, letBad (ol.ex (Ex.new hlp)) b ⟨true, m_BadLetters_BadLetters E, fun _ a ha => ?_, (fun z => nomatch z)⟩⟩
        walk_at "rd"
        exact ⟨by show 2 ≤ sizeLine; decide, fun p hp => q p _ ((Ex.new hlp).trans (Ex.new hp)) upd_same⟩
      | word m n el ew h1 h2 hn ht ox b q =>
        omega
      | heap m n el ew h1 h2 hn ht ox b q =>
        subst el ew
        refine ⟨_, .ref lp, some [.int 0, .int 1, x], rfl, ⟨lp, rfl, .inl upd_same, by show 3 ≤ 1000; decide, fun y hy => odd_9 (ox.ex (Ex.new hlp)) y hy⟩, letGood h1 h2 ⟨fun bb eb H1 e1 d hd => ⟨false, m_BadPlaces_BadLetters E, (fun z => nomatch z), fun _ => ⟨false, m_BadPlaces_BadWord E, (fun z => nomatch z), fun _ => ⟨false, m_BadPlaces_BadHeap E, (fun z => nomatch z), fun _ => ⟨true, m_BadPlaces_BadPlaces E, fun _ a ha => ?_, (fun z => nomatch z)⟩⟩⟩⟩, fun ns en bd => (row_off b (show x ∈ [.int 0, .int 1, x] by simp) en bd).elim⟩⟩
        obtain rfl : 2 = bb := Option.some.inj ((off_9 h1 h2 b).symm.trans eb)
        walk_at "rd"
        refine rd_xf ?_
        walk_at "rd"
        refine ⟨rfl, rfl, d, _, _, rfl, upd_same, rfl, ?_⟩
        walk_at "rd"
        exact ⟨by show 2 ≤ sizeLine; decide, fun p hp => q p _ (((Ex.new hlp).trans e1).trans ((Ex.new hd).trans (Ex.new hp))) upd_same⟩
    walk_at "rd"
    refine ⟨fun z => ?_, fun z10 => ?_⟩
    · obtain rfl : t = 10 := by have := hit_int z; omega
      walk_at "rd"
      cases ask with
      | letters ol ox ow b q =>
        refine ⟨l, w, x, rfl, ow H (Ex.refl H), ox H (Ex.refl H), letBad ol b ⟨true, m_BadLetters_BadLetters E, fun _ a ha => ?_, (fun z => nomatch z)⟩⟩
        walk_at "rd"
        exact ⟨by show 2 ≤ sizeLine; decide, fun p hp => q p _ (Ex.new hp) upd_same⟩
      | word m n el ew h1 h2 hn ht ox b q =>
        omega
      | heap m n el ew h1 h2 hn ht ox b q =>
        subst el ew
        refine ⟨_, _, x, rfl, ⟨_, th_int _⟩, ox H (Ex.refl H), letGood h1 h2 ⟨fun zw => absurd zw (by rw [whole_of (by omega) (word_le hn)]; decide), fun _ _ d hd => ⟨false, m_BadPlaces_BadLetters E, (fun z => nomatch z), fun _ => ⟨false, m_BadPlaces_BadWord E, (fun z => nomatch z), fun _ => ⟨false, m_BadPlaces_BadHeap E, (fun z => nomatch z), fun _ => ⟨true, m_BadPlaces_BadPlaces E, fun _ a ha => ?_, (fun z => nomatch z)⟩⟩⟩⟩, fun _ n2 _ en _ hn2 => (heap_off b en hn2).elim⟩⟩
        walk_at "rd"
        refine rd_xf ?_
        walk_at "rd"
        refine ⟨rfl, rfl, d, _, _, rfl, upd_same, rfl, ?_⟩
        walk_at "rd"
        exact ⟨by show 2 ≤ sizeLine; decide, fun p hp => q p _ ((Ex.new hd).trans (Ex.new hp)) upd_same⟩
    walk_at "rd"
    refine ⟨fun z => ?_, fun z11 => ?_⟩
    · obtain rfl : t = 11 := by have := hit_int z; omega
      walk_at "rd"
      cases ask with
      | letters ol ox ow b q =>
        refine ⟨l, rfl, letBad ol b ⟨true, m_BadLetters_BadLetters E, fun _ a ha => ?_, (fun z => nomatch z)⟩⟩
        walk_at "rd"
        exact ⟨by show 2 ≤ sizeLine; decide, fun p hp => q p _ (Ex.new hp) upd_same⟩
      | word m n el ew h1 h2 hn ht ox b q =>
        omega
      | heap m n el ew h1 h2 hn ht ox b q =>
        omega
    exfalso
    have := mis_int z0
    have := mis_int z1
    have := mis_int z2
    have := mis_int z3
    have := mis_int z4
    have := mis_int z5
    have := mis_int z6
    have := mis_int z7
    have := mis_int z8
    have := mis_int z9
    have := mis_int z10
    have := mis_int z11
    omega

end
end Lw

set_option Elab.async false
set_option linter.all false
set_option maxRecDepth 100000
set_option maxHeartbeats 4000000
namespace Lw
open PySem PySem.Spec PyProof.Rows L2 He Evl StX
local macro_rules | `(tactic| walk_at "rd") => `(tactic| (repeat first
  | with_reducible refine rd_seq ?_
  | with_reducible refine rd_asg ?_
  | with_reducible refine rd_ret ?_
  | with_reducible refine rd_next ?_
  | with_reducible refine rd_drop ?_
  | with_reducible refine rd_if ?_
  | with_reducible refine rd_ifE ?_
  | ((with_reducible refine' rd_var ?hv ?_); (case hv => rfl))
  | with_reducible refine rd_c ?_
  | with_reducible refine rd_op ?_
  | with_reducible refine rd_chain ?_
  | with_reducible refine rd_I0 ?_
  | with_reducible refine rd_test ?_
  | with_reducible refine rd_B ?_
  | with_reducible refine rd_bl ?_
  | with_reducible refine rd_not ?_
  | with_reducible refine rd_and ?_
  | with_reducible refine rd_or ?_
  | with_reducible refine rd_andV ?_
  | with_reducible refine rd_orV ?_
  | with_reducible refine rd_notV ?_
  | with_reducible refine rd_cons ?_
  | with_reducible refine rd_nil ?_
  | with_reducible refine rd_CB ?_
  | with_reducible refine rd_callS ?_
  | with_reducible refine rd_raise0 ?_
  | with_reducible refine rd_raise1 ?_
  | with_reducible refine rd_raise2 ?_
  | ((with_reducible refine' rd_eq ?hs ?_); (case hs => rfl))
  | ((with_reducible refine' rd_ne ?hs ?_); (case hs => rfl))
  | ((with_reducible refine' rd_isT ?th ?hT ?_); (case th => assumption); (case hT => decide))
  | with_reducible refine rd_tup ?_
  | with_reducible refine rd_lst ?_
  | with_reducible refine rd_iEnum ?_
  | with_reducible refine rd_iEnumA ?_
  | ((with_reducible refine' rd_ixl ?hl ?hk ?_); (case hl => assumption); (case hk => rfl))
  | with_reducible refine rd_int1 ?_
  | with_reducible refine rd_sub ?_
  | with_reducible refine rd_gcons ?_
  | with_reducible refine rd_gnil ?_
  | with_reducible refine rd_iZip ?_
  | with_reducible refine rd_BM ?_
  | with_reducible refine rd_neg ?_
  | ((with_reducible refine' rd_last ?hl ?_); (case hl => assumption))
  | with_reducible refine rd_lc2 ?_
  | with_reducible refine rd_Rg1 ?_
  | with_reducible refine rd_tupRg ?_
  | with_reducible refine rd_sl ?_
  | with_reducible refine rd_noPart ?_
  | with_reducible refine rd_part ?_
  | with_reducible refine rd_for ?_
  | with_reducible refine rd_iRev ?_
  | with_reducible refine rd_gname ?_
  | with_reducible refine rd_NN ?_
  | with_reducible refine rd_NL ?_
  | with_reducible refine rd_LN ?_
  | ((with_reducible refine' rd_shl1 ?hs ?_); (case hs => omega))
  | ((with_reducible refine' rd_I ?hs ?_); (case hs => first | omega | decide | exact ⟨by decide, by decide, by decide⟩ | exact ⟨by omega, by omega⟩))
  | with_reducible refine rd_tr ?_
  | with_reducible refine rd_trI ?_
  | with_reducible refine rd_star ?_
  | with_reducible refine rd_fmtB ?_
  | with_reducible refine rd_M1 ?_
  | with_reducible refine rd_un ?_
  | with_reducible refine rd_lc ?_
  | with_reducible refine rd_iT ?_
  | with_reducible refine rd_iL ?_
  | with_reducible refine rd_iR1 ?_
  | with_reducible refine rd_iR2 ?_
  | dsimp only [List.set, start]))
section
variable {P : Program} {w : World} {K : PySem.W.Frag} {mg : Str → Option Value} {base : Heap}

theorem dp_str2 {K : PySem.W.Frag} {H : Hp} {p : Addr} {s : Str} {z : Int} (h : H p = some (.tup [.str s, .int z])) : Dp K H (.ref p) (.tuple [.str s, .int z]) := .tup (st_of h) (.cons (.str s) (.cons (.int z) .nil))
theorem shaped2 {s : Str} {z : Int} (hs : PyData.canLay0 (.str s) = true) : SeqAt.shaped (.tuple [.str s, .int z]) = true := by
  unfold SeqAt.shaped
  simp only [PyData.canLay0, PyData.canLayAll0, PyData.depth, PyData.depthAll] at hs ⊢
  rw [hs]
  rfl
theorem rd_ne2 {K : PySem.W.Frag} {H : Hp} {Q : VK} {p q : Addr} {s : Str} {z : Int} (h1 : H p = some (.tup [.str s, .int z])) (h2 : H q = some (.tup [.str s, .int z])) (hs : PyData.canLay0 (.str s) = true) (k : Q (.bl false) H) : rNeD K (.ref p) (.ref q) H Q :=
  ⟨_, _, dp_str2 h1, dp_str2 h2, shaped2 hs, shaped2 hs, by
    have e : PyData.eqv (.tuple [.str s, .int z]) (.tuple [.str s, .int z]) = true := by simp [PyData.eqv, PyData.eqvAll]
    rw [e]
    exact k⟩
theorem rd_eq2 {K : PySem.W.Frag} {H : Hp} {Q : VK} {p q : Addr} {s : Str} {z : Int} (h1 : H p = some (.tup [.str s, .int z])) (h2 : H q = some (.tup [.str s, .int z])) (hs : PyData.canLay0 (.str s) = true) (k : Q (.bl true) H) : rEqD K (.ref p) (.ref q) H Q :=
  ⟨_, _, dp_str2 h1, dp_str2 h2, shaped2 hs, shaped2 hs, by
    have e : PyData.eqv (.tuple [.str s, .int z]) (.tuple [.str s, .int z]) = true := by simp [PyData.eqv, PyData.eqvAll]
    rw [e]
    exact k⟩
theorem due_ok (t : Nat) : PyData.canLay0 (.str (dueS t)) = true := by
  unfold dueS
  split <;> decide +kernel
def spLRefused (K : PySem.W.Frag) : Sp := fun vs H Q _ => ∃ (h : Addr) (m n : Nat), vs = [.ref h, .int (m : Int), .int (n : Int)] ∧ Hand H h ∧ (1 ≤ m ∧ m ≤ 5) ∧ n < 2 ^ (2 ^ m) ∧ ∀ H', Q (.bl true) H'
theorem h__law_refused (E : Ctx K mg) : Has P w K mg base 10 "_law_refused" ["_law_hand_here", "_law_m", "_law_word"] (spLRefused K) := by
  obtain ⟨fd, F⟩ := f__law_refused E
  refine ⟨⟨fd, ?_, F.bindsN fun _ _ _ _ _ _ us hl => match us, hl with | [_, _, _], _ => rfl⟩, g__law_refused E, F.kp⟩
  refine F.ok sc__law_refused (fun vs H Q E' h => ?len) (fun cdv A outer s H vs Q E' hr h => ⟨_, (pss_cons (ps_set (i := 3) sc__law_refused.nd rfl (.inl rfl) (pe_op op_sub (pe_op on_shl pe_int (pe_op on_shl pe_int (pv 1))) pe_int))
 (pss_cons (ps_for (passes_of rfl) rfl (pi_range1 rfl (b_range E) (pa_cons pe_int pa_nil)) (pg_name (i := 4) sc__law_refused.nd rfl (.inl rfl))
 (pss_one (ps_if (pt_cmpR (ko_neD hr (K := K) rfl) (pe_H (h__law_asked E) (hr.mono (by decide)) (takes_of rfl rfl rfl rfl) (pa_cons (pv 4) (pa_cons (pv 1) (pa_cons (pe_H (h__law_odd E) (hr.mono (by decide)) (takes_of rfl rfl rfl rfl) (pa_cons (pv 0) (pa_cons pe_int (pa_cons (pv 3) pa_nil)))) (pa_cons (pv 2) pa_nil))))) (pe_tup (pa_cons pe_str (pa_cons pe_int pa_nil))) (nomark _))
 (pss_one (ps_ret pe_bl))
 pss_nil)))
 (pss_cons (ps_set (i := 5) sc__law_refused.nd rfl (.inl rfl) (pe_lst (pa_cons (pe_tup (pa_cons pe_str (pa_cons pe_int pa_nil))) (pa_cons (pe_tup (pa_cons pe_str (pa_cons pe_int pa_nil))) (pa_cons (pe_tup (pa_cons pe_str (pa_cons pe_int pa_nil))) (pa_cons (pe_tup (pa_cons pe_str (pa_cons pe_int pa_nil))) pa_nil))))))
 (pss_cons (ps_for (passes_of rfl) rfl (pi_range2 rfl (b_range E) (pa_cons pe_int (pa_cons pe_int pa_nil))) (pg_name (i := 4) sc__law_refused.nd rfl (.inl rfl))
 (pss_one (ps_if (pt_cmpR (ko_neD hr (K := K) rfl) (pe_H (h__law_asked E) (hr.mono (by decide)) (takes_of rfl rfl rfl rfl) (pa_cons (pv 4) (pa_cons (pv 1) (pa_cons (pe_H (h__law_odd E) (hr.mono (by decide)) (takes_of rfl rfl rfl rfl) (pa_cons (pv 0) (pa_cons pe_int (pa_cons (pe_op op_sub (pe_op on_shl pe_int (pv 1)) pe_int) pa_nil)))) (pa_cons (pv 2) pa_nil))))) (pe_ix (kx_list (K := K) rfl) (pv 5) (pe_op op_sub (pv 4) pe_int) (fun _ _ => rfl)) (nomark _))
 (pss_one (ps_ret pe_bl))
 pss_nil)))
 (pss_cons (ps_set (i := 6) sc__law_refused.nd rfl (.inr rfl) (pe_H (h__law_odd E) (hr.mono (by decide)) (takes_of rfl rfl rfl rfl) (pa_cons (pv 0) (pa_cons pe_int (pa_cons pe_int pa_nil)))))
 (pss_one (ps_ret (pe_callB (kc_all rfl (K := K) rfl) rfl (b_all E) (by decide +kernel) (pa_cons (pe_lc (own := [("_law_turn", 4)]) (g := gName 4) (tt := tYes) rfl sc__law_refused.nd (pi_range1 rfl (b_range E) (pa_cons pe_int pa_nil)) (blkOk_by (own := [("_law_turn", 4)]) (N := N__law_refused) (sc := defScope s__law_refused) (by decide +kernel)) (fun _ _ _ _ _ => (pg_name (i := 4) sc__law_refused.nd rfl (.inl rfl))) (fun _ _ _ _ _ => pts_nil) (fun _ _ _ _ _ => (pe_cmpR (ko_eqD hr (K := K) rfl) (pe_H (h__law_asked E) (hr.mono (by decide)) takes0 (pa_cons (pv 4) (pa_cons (pv 6) (pa_cons (pe_un un_neg pe_int) (pa_cons (pe_un un_neg pe_int) pa_nil))))) (pe_tup (pa_cons pe_str (pa_cons pe_int pa_nil))) (nomark _)))) pa_nil))))))))), ?rd⟩)
  case len =>
    obtain ⟨h0, m, n, rfl, _⟩ := h
    rfl
  case rd =>
    obtain ⟨h0, m, n, rfl, hh, ⟨hm1, hm2⟩, hn, q⟩ := h
    have p5 : 2 ^ m ≤ 32 := Nat.le_trans (Nat.pow_le_pow_right (by decide) hm2) (by decide)
    have p0 : 0 < 2 ^ m := Nat.pow_pos (by decide)
    have pp : 0 < 2 ^ (2 ^ m) := Nat.pow_pos (by decide)
    have ep : ((2 ^ m : Nat) : Int) - 1 = ((2 ^ m - 1 : Nat) : Int) := by omega
    have ef : ((2 ^ (2 ^ m) : Nat) : Int) - 1 = ((fullW m : Nat) : Int) := by
      unfold fullW
      omega
    walk_at "rd"
    rw [ef]
    refine ⟨7, rfl, by decide, by decide, for_range (lo := 0) (n := 7) (fun i σ H' => ∃ v4 v5 v6 : Option V, σ = [some (.ref h0), some (.int (m : Int)), some (.int (n : Int)), some (.int ((fullW m : Nat) : Int)), v4, v5, v6] ∧ Hand H' h0) ⟨none, none, none, rfl, hh⟩ ?_ ?_⟩
    · rintro t σ H1 ht ⟨v4, v5, v6, rfl, hand1⟩
      rw [Int.zero_add]
      walk_at "rd"
      refine ⟨h0, 0, _, rfl, hand1, fun bv H2 wb ob d2 hand2 => ?_⟩
      walk_at "rd"
      refine ⟨t, .int (m : Int), bv, .int (n : Int), rfl, by omega, .word m n rfl rfl hm1 hm2 hn ht ob wb fun p H3 e3 h3 => ?_⟩
      walk_at "rd"
      refine ⟨by show 2 ≤ sizeLine; decide, fun p2 hp2 => ?_⟩
      refine rd_ne2 ((Ex.new hp2) _ _ h3) upd_same (by decide +kernel) ?_
      refine ⟨false, rfl, (fun z => nomatch z), fun _ => ?_⟩
      walk_at "rd"
      exact ⟨_, _, _, rfl, hand2.ex (e3.trans (Ex.new hp2))⟩
    · rintro σ H1 ⟨v4, v5, v6, rfl, hand1⟩
      walk_at "rd"
      refine ⟨by show 2 ≤ sizeLine; decide, fun a0 g0 => ?_⟩
      have x0 : Ex H1 (upd H1 a0 (.tup [.str "heap", .int 0])) := Ex.new g0
      have f0 : (upd H1 a0 (.tup [.str "heap", .int 0])) a0 = some (.tup [.str "heap", .int 0]) := upd_same
      generalize upd H1 a0 (.tup [.str "heap", .int 0]) = G0 at x0 f0 ⊢
      walk_at "rd"
      refine ⟨by show 2 ≤ sizeLine; decide, fun a1 g1 => ?_⟩
      have x1 : Ex G0 (upd G0 a1 (.tup [.str "heap", .int 1])) := Ex.new g1
      have f1 : (upd G0 a1 (.tup [.str "heap", .int 1])) a1 = some (.tup [.str "heap", .int 1]) := upd_same
      generalize upd G0 a1 (.tup [.str "heap", .int 1]) = G1 at x1 f1 ⊢
      walk_at "rd"
      refine ⟨by show 2 ≤ sizeLine; decide, fun a2 g2 => ?_⟩
      have x2 : Ex G1 (upd G1 a2 (.tup [.str "places", .int 2])) := Ex.new g2
      have f2 : (upd G1 a2 (.tup [.str "places", .int 2])) a2 = some (.tup [.str "places", .int 2]) := upd_same
      generalize upd G1 a2 (.tup [.str "places", .int 2]) = G2 at x2 f2 ⊢
      walk_at "rd"
      refine ⟨by show 2 ≤ sizeLine; decide, fun a3 g3 => ?_⟩
      have x3 : Ex G2 (upd G2 a3 (.tup [.str "places", .int 0])) := Ex.new g3
      have f3 : (upd G2 a3 (.tup [.str "places", .int 0])) a3 = some (.tup [.str "places", .int 0]) := upd_same
      generalize upd G2 a3 (.tup [.str "places", .int 0]) = G3 at x3 f3 ⊢
      walk_at "rd"
      refine ⟨by show 4 ≤ sizeLine; decide, fun dl g4 => ?_⟩
      have x4 : Ex G3 (upd G3 dl (.lst [.ref a0, .ref a1, .ref a2, .ref a3])) := Ex.new g4
      have f4 : (upd G3 dl (.lst [.ref a0, .ref a1, .ref a2, .ref a3])) dl = some (.lst [.ref a0, .ref a1, .ref a2, .ref a3]) := upd_same
      generalize upd G3 dl (.lst [.ref a0, .ref a1, .ref a2, .ref a3]) = G4 at x4 f4 ⊢
      have hand5 : Hand G4 h0 := hand1.ex ((((x0.trans x1).trans x2).trans x3).trans x4)
      have ndl : dl ≠ h0 := (hand1.ex (((x0.trans x1).trans x2).trans x3)).ne g4
      have n0 : a0 ≠ h0 := hand1.ne g0
      have n1 : a1 ≠ h0 := (hand1.ex x0).ne g1
      have n2 : a2 ≠ h0 := (hand1.ex (x0.trans x1)).ne g2
      have n3 : a3 ≠ h0 := (hand1.ex ((x0.trans x1).trans x2)).ne g3
      have dues : ∀ i, i < 4 → ∃ d, d ≠ h0 ∧ ([V.ref a0, V.ref a1, V.ref a2, V.ref a3])[i]? = some (.ref d) ∧ G4 d = some (.tup [.str (dueS (7 + i)), .int (dueI (7 + i))]) := fun i hi => by
        rcases (show i = 0 ∨ i = 1 ∨ i = 2 ∨ i = 3 by omega) with rfl | rfl | rfl | rfl
        · exact ⟨a0, n0, rfl, x4 _ _ (x3 _ _ (x2 _ _ (x1 _ _ f0)))⟩
        · exact ⟨a1, n1, rfl, x4 _ _ (x3 _ _ (x2 _ _ f1))⟩
        · exact ⟨a2, n2, rfl, x4 _ _ (x3 _ _ f2)⟩
        · exact ⟨a3, n3, rfl, x4 _ _ f3⟩
      walk_at "rd"
      refine ⟨7, 11, rfl, ⟨by decide, by decide, by decide, by decide⟩, ?_⟩
      refine for_range (lo := 7) (n := 4) (fun i σ H' => ∃ v4 v6 : Option V, σ = [some (.ref h0), some (.int (m : Int)), some (.int (n : Int)), some (.int ((fullW m : Nat) : Int)), v4, some (.ref dl), v6] ∧ Dh h0 G4 H' ∧ Hand H' h0) ⟨_, _, rfl, Dh.refl _ _, hand5⟩ ?_ ?_
      · rintro i σ H2 hi ⟨v4, v6, rfl, d2, hand2⟩
        have ei : (7 : Int) + (i : Int) = ((7 + i : Nat) : Int) := by omega
        have e7 : ((7 + i : Nat) : Int) - 7 = (i : Int) := by omega
        obtain ⟨d, nd, di, fd⟩ := dues i hi
        rw [ei]
        walk_at "rd"
        rw [ep]
        refine ⟨h0, 0, _, rfl, hand2, fun bv H3 wb ob d3 hand3 => ?_⟩
        walk_at "rd"
        refine ⟨7 + i, .int (m : Int), bv, .int (n : Int), rfl, by omega, .heap m n rfl rfl hm1 hm2 hn ⟨by omega, by omega⟩ ob wb fun p H4 e4 h4 => ?_⟩
        walk_at "rd"
        rw [e7]
        refine rd_ix (sq_of (e4 _ _ (d3 _ _ ndl (d2 _ _ ndl f4)))) di ?_
        refine rd_ne2 h4 (e4 _ _ (d3 _ _ nd (d2 _ _ nd fd))) (due_ok _) ?_
        refine ⟨false, rfl, (fun z => nomatch z), fun _ => ?_⟩
        walk_at "rd"
        exact ⟨_, _, rfl, (d2.trans d3).trans (Dh.of e4), hand3.ex e4⟩
      · rintro σ H2 ⟨v4, v6, rfl, d2, hand2⟩
        walk_at "rd"
        refine ⟨h0, 1, 5, rfl, hand2, fun bv H3 wb ob d3 hand3 => ?_⟩
        walk_at "rd"
        refine ⟨12, rfl, by decide, by decide, lc_rng0 (n := 12) (fun _ => true) (fun i => .bl true) (by decide) (fun _ => rfl) (fun i H4 e4 hi H5 e5 R q => q _ (Ex.refl _)) (fun i H4 e4 hi hf H5 e5 R q => ?_) fun p H4 hp e4 h4 => ?_⟩
        · walk_at "rd"
          refine ⟨i, bv, .int (-1), .int (-1), rfl, hi, .letters (ob.ex (e4.trans e5)) (odd_int _) (odd_int _) wb fun p H6 e6 h6 => ?_⟩
          walk_at "rd"
          refine ⟨by show 2 ≤ sizeLine; decide, fun p2 hp2 => ?_⟩
          exact rd_eq2 ((Ex.new hp2) _ _ h6) upd_same (by decide +kernel) (q _ (e6.trans (Ex.new hp2)))
        · walk_at "rd"
          have eg : given 12 (fun _ => true) (fun _ => V.bl true) = (List.replicate 12 true).map V.bl := rfl
          refine ⟨p, List.replicate 12 true, rfl, sq_of (by rw [← eg]; exact h4), ?_⟩
          exact q _

end
end Lw

set_option Elab.async false
set_option linter.all false
set_option maxRecDepth 100000
set_option maxHeartbeats 4000000
namespace Lw
open PySem PySem.Spec PyProof.Rows L2 He Evl StX
local macro_rules | `(tactic| walk_at "rd") => `(tactic| (repeat first
  | with_reducible refine rd_seq ?_
  | with_reducible refine rd_asg ?_
  | with_reducible refine rd_ret ?_
  | with_reducible refine rd_next ?_
  | with_reducible refine rd_drop ?_
  | with_reducible refine rd_if ?_
  | with_reducible refine rd_ifE ?_
  | ((with_reducible refine' rd_var ?hv ?_); (case hv => rfl))
  | with_reducible refine rd_c ?_
  | with_reducible refine rd_op ?_
  | with_reducible refine rd_chain ?_
  | with_reducible refine rd_I0 ?_
  | with_reducible refine rd_test ?_
  | with_reducible refine rd_B ?_
  | with_reducible refine rd_bl ?_
  | with_reducible refine rd_not ?_
  | with_reducible refine rd_and ?_
  | with_reducible refine rd_or ?_
  | with_reducible refine rd_andV ?_
  | with_reducible refine rd_orV ?_
  | with_reducible refine rd_notV ?_
  | with_reducible refine rd_cons ?_
  | with_reducible refine rd_nil ?_
  | with_reducible refine rd_CB ?_
  | with_reducible refine rd_callS ?_
  | with_reducible refine rd_raise0 ?_
  | with_reducible refine rd_raise1 ?_
  | with_reducible refine rd_raise2 ?_
  | ((with_reducible refine' rd_eq ?hs ?_); (case hs => rfl))
  | ((with_reducible refine' rd_ne ?hs ?_); (case hs => rfl))
  | ((with_reducible refine' rd_isT ?th ?hT ?_); (case th => assumption); (case hT => decide))
  | with_reducible refine rd_tup ?_
  | with_reducible refine rd_lst ?_
  | with_reducible refine rd_iEnum ?_
  | with_reducible refine rd_iEnumA ?_
  | ((with_reducible refine' rd_ixl ?hl ?hk ?_); (case hl => assumption); (case hk => rfl))
  | with_reducible refine rd_int1 ?_
  | with_reducible refine rd_sub ?_
  | with_reducible refine rd_gcons ?_
  | with_reducible refine rd_gnil ?_
  | with_reducible refine rd_iZip ?_
  | with_reducible refine rd_BM ?_
  | with_reducible refine rd_neg ?_
  | ((with_reducible refine' rd_last ?hl ?_); (case hl => assumption))
  | with_reducible refine rd_lc2 ?_
  | with_reducible refine rd_Rg1 ?_
  | with_reducible refine rd_tupRg ?_
  | with_reducible refine rd_sl ?_
  | with_reducible refine rd_noPart ?_
  | with_reducible refine rd_part ?_
  | with_reducible refine rd_for ?_
  | with_reducible refine rd_iRev ?_
  | with_reducible refine rd_gname ?_
  | with_reducible refine rd_NN ?_
  | with_reducible refine rd_NL ?_
  | with_reducible refine rd_LN ?_
  | ((with_reducible refine' rd_shl1 ?hs ?_); (case hs => omega))
  | ((with_reducible refine' rd_I ?hs ?_); (case hs => first | omega | decide | exact ⟨by decide, by decide, by decide⟩ | exact ⟨by omega, by omega⟩))
  | with_reducible refine rd_tr ?_
  | with_reducible refine rd_trI ?_
  | with_reducible refine rd_star ?_
  | with_reducible refine rd_fmtB ?_
  | with_reducible refine rd_M1 ?_
  | with_reducible refine rd_un ?_
  | with_reducible refine rd_lc ?_
  | with_reducible refine rd_iT ?_
  | with_reducible refine rd_iL ?_
  | with_reducible refine rd_iR1 ?_
  | with_reducible refine rd_iR2 ?_
  | dsimp only [List.set, start]))
section
variable {P : Program} {w : World} {K : PySem.W.Frag} {mg : Str → Option Value} {base : Heap}

theorem in_ints (l : List Int) (a : Int) : inV (.int a) (l.map V.int) = l.any (fun y => y == a) := by
  unfold inV
  rw [List.any_map]
  rfl
theorem flat_ints (l : List Int) : (l.map V.int).all flatV = true := by
  rw [List.all_map]
  exact List.all_eq_true.mpr fun _ _ => rfl
theorem mem_natsU {ns : List Int} (h : ∀ z ∈ ns, 0 ≤ z) (p : Nat) : p ∈ natsU ns ↔ (p : Int) ∈ ns := by
  unfold natsU
  rw [List.mem_map]
  constructor
  · rintro ⟨z, hz, rfl⟩
    have hz2 := (uniq_mem z ns).mp hz
    rw [Int.toNat_of_nonneg (h z hz2)]
    exact hz2
  · intro hp
    exact ⟨(p : Int), (uniq_mem _ ns).mpr hp, by simp⟩
theorem bit_mod (n i : Nat) : (n / 2 ^ i % 2 == 1) = n.testBit i := by
  rw [Nat.testBit_eq_decide_div_mod_eq]
  rfl
theorem placesN_bit {m n p : Nat} : p ∈ placesN m n ↔ p < 2 ^ m ∧ n.testBit p = true := by
  unfold placesN
  rw [List.mem_filter, List.mem_range, bit_mod]
/-- the places of what marks a row are the row's own -/
theorem places_marks {m : Nat} {ns : List Int} (hm : m ≤ 5) (h : ∀ z ∈ ns, 0 ≤ z ∧ z ≤ ((2 ^ m - 1 : Nat) : Int)) : intsL (placesN m (markN (natsU ns))) = uniq ns := by
  have nn : ∀ z ∈ ns, 0 ≤ z := fun z hz => (h z hz).1
  refine strict_eq (places_sorted _ _) (uniq_sorted _) fun z => ?_
  rw [uniq_mem]
  unfold intsL
  rw [List.mem_map]
  constructor
  · rintro ⟨p, hp, rfl⟩
    rw [placesN_bit, markN_bit p (2 ^ m) _ (natsU_nodup nn) (natsU_lt hm h)] at hp
    exact (mem_natsU nn p).mp (of_decide_eq_true hp.2)
  · intro hz
    have hb := h z hz
    have ez : ((z.toNat : Nat) : Int) = z := Int.toNat_of_nonneg hb.1
    have mz : z.toNat ∈ natsU ns := (mem_natsU nn _).mpr (by rw [ez]; exact hz)
    refine ⟨z.toNat, ?_, ez⟩
    rw [placesN_bit, markN_bit _ (2 ^ m) _ (natsU_nodup nn) (natsU_lt hm h)]
    exact ⟨natsU_lt hm h _ mz, decide_eq_true mz⟩
theorem orW_bit (i : Nat) : ∀ (ps : List Nat) (w : Nat), (ps.foldl (fun w p => w ||| 2 ^ p) w).testBit i = (w.testBit i || decide (i ∈ ps))
  | [], w => by simp
  | p :: r, w => by
    rw [List.foldl_cons, orW_bit i r, Nat.testBit_or, bit_pow]
    by_cases e : p = i
    · subst e
      simp
    · have e2 : ¬ i = p := fun h => e h.symm
      simp [e, e2]
theorem or_marks {m : Nat} {ns : List Int} {ps : List Nat} (hm : m ≤ 5) (en : ns = intsL ps) (h : ∀ z ∈ ns, 0 ≤ z ∧ z ≤ ((2 ^ m - 1 : Nat) : Int)) : markN (natsU ns) = orW ps := by
  have nn : ∀ z ∈ ns, 0 ≤ z := fun z hz => (h z hz).1
  refine Nat.eq_of_testBit_eq fun i => ?_
  rw [markN_bit i (2 ^ m) _ (natsU_nodup nn) (natsU_lt hm h)]
  unfold orW
  rw [orW_bit]
  have e : (i ∈ natsU ns) = (i ∈ ps) := propext (by
    rw [mem_natsU nn, en]
    unfold intsL
    rw [List.mem_map]
    constructor
    · rintro ⟨p, hp, e⟩
      have : p = i := by omega
      subst this
      exact hp
    · exact fun hp => ⟨i, hp, rfl⟩)
  simp [e]
theorem natsU_one (n : Nat) : natsU [(n : Int)] = [n] := by
  show [((n : Int)).toNat] = [n]
  simp
theorem markN_one (n : Nat) : markN [n] = 2 ^ n := by
  unfold markN
  simp
theorem any_places {m n i : Nat} (h : i < 2 ^ m) : (intsL (placesN m n)).any (fun y => y == (i : Int)) = n.testBit i := by
  cases z : n.testBit i with
  | true =>
    rw [List.any_eq_true]
    refine ⟨(i : Int), ?_, by simp⟩
    unfold intsL
    exact List.mem_map.mpr ⟨i, placesN_bit.mpr ⟨h, z⟩, rfl⟩
  | false =>
    rw [List.any_eq_false]
    intro y hy e
    unfold intsL at hy
    obtain ⟨p, hp, rfl⟩ := List.mem_map.mp hy
    have ep : p = i := by
      have := of_decide_eq_true e
      omega
    subst ep
    rw [(placesN_bit.mp hp).2] at z
    cases z
/-- the heaps of a sum of two words -/
theorem places_xor {m a b : Nat} : placesN m (stepN m (a ^^^ b)) = (List.range (2 ^ m)).filter fun i => (stepN m a).testBit i != (stepN m b).testBit i := by
  unfold placesN
  refine List.filter_congr fun i _ => ?_
  rw [bit_mod, stepN_xor, Nat.testBit_xor]
theorem bl_ne (a b : Bool) : (!decide (V.bl a = V.bl b)) = (a != b) := by cases a <;> cases b <;> rfl
theorem even_eq (n : Nat) : (decide (V.int ((n : Int).fmod 2) = V.int 0)) = (n % 2 == 0) := by
  have e : (n : Int).fmod 2 = ((n % 2 : Nat) : Int) := by
    rw [Int.fmod_eq_emod_of_nonneg _ (by decide)]
    omega
  rw [e]
  rcases Nat.mod_two_eq_zero_or_one n with h | h <;> rw [h] <;> rfl
theorem in_offG {m : Nat} {ns : List Int} (h : ∀ z ∈ ns, 0 ≤ z ∧ z < ((2 ^ m : Nat) : Int)) : ∀ z ∈ ns, 0 ≤ z ∧ z ≤ ((2 ^ m - 1 : Nat) : Int) := fun z hz => by
  have := h z hz
  have p0 : 0 < 2 ^ m := Nat.pow_pos (by decide)
  omega
theorem nats_eq {ns : List Int} (h : ∀ z ∈ ns, 0 ≤ z) : ∃ ps : List Nat, ns = intsL ps := by
  refine ⟨ns.map Int.toNat, ?_⟩
  unfold intsL
  rw [List.map_map]
  conv => lhs; rw [← List.map_id ns]
  exact List.map_congr_left fun z hz => by
    have := h z hz
    show z = ((z.toNat : Nat) : Int)
    omega

end
end Lw

set_option Elab.async false
set_option linter.all false
set_option maxRecDepth 100000
set_option maxHeartbeats 4000000
namespace Lw
open PySem PySem.Spec PyProof.Rows L2 He Evl StX
local macro_rules | `(tactic| walk_at "rd") => `(tactic| (repeat first
  | with_reducible refine rd_seq ?_
  | with_reducible refine rd_asg ?_
  | with_reducible refine rd_ret ?_
  | with_reducible refine rd_next ?_
  | with_reducible refine rd_drop ?_
  | with_reducible refine rd_if ?_
  | with_reducible refine rd_ifE ?_
  | ((with_reducible refine' rd_var ?hv ?_); (case hv => rfl))
  | with_reducible refine rd_c ?_
  | with_reducible refine rd_op ?_
  | with_reducible refine rd_chain ?_
  | with_reducible refine rd_I0 ?_
  | with_reducible refine rd_test ?_
  | with_reducible refine rd_B ?_
  | with_reducible refine rd_bl ?_
  | with_reducible refine rd_not ?_
  | with_reducible refine rd_and ?_
  | with_reducible refine rd_or ?_
  | with_reducible refine rd_andV ?_
  | with_reducible refine rd_orV ?_
  | with_reducible refine rd_notV ?_
  | with_reducible refine rd_cons ?_
  | with_reducible refine rd_nil ?_
  | with_reducible refine rd_CB ?_
  | with_reducible refine rd_callS ?_
  | with_reducible refine rd_raise0 ?_
  | with_reducible refine rd_raise1 ?_
  | with_reducible refine rd_raise2 ?_
  | ((with_reducible refine' rd_eq ?hs ?_); (case hs => rfl))
  | ((with_reducible refine' rd_ne ?hs ?_); (case hs => rfl))
  | ((with_reducible refine' rd_isT ?th ?hT ?_); (case th => assumption); (case hT => decide))
  | with_reducible refine rd_tup ?_
  | with_reducible refine rd_lst ?_
  | with_reducible refine rd_iEnum ?_
  | with_reducible refine rd_iEnumA ?_
  | ((with_reducible refine' rd_ixl ?hl ?hk ?_); (case hl => assumption); (case hk => rfl))
  | with_reducible refine rd_int1 ?_
  | with_reducible refine rd_sub ?_
  | with_reducible refine rd_gcons ?_
  | with_reducible refine rd_gnil ?_
  | with_reducible refine rd_iZip ?_
  | with_reducible refine rd_BM ?_
  | with_reducible refine rd_neg ?_
  | ((with_reducible refine' rd_last ?hl ?_); (case hl => assumption))
  | with_reducible refine rd_lc2 ?_
  | with_reducible refine rd_Rg1 ?_
  | with_reducible refine rd_tupRg ?_
  | with_reducible refine rd_sl ?_
  | with_reducible refine rd_noPart ?_
  | with_reducible refine rd_part ?_
  | with_reducible refine rd_for ?_
  | with_reducible refine rd_iRev ?_
  | with_reducible refine rd_gname ?_
  | with_reducible refine rd_NN ?_
  | with_reducible refine rd_NL ?_
  | with_reducible refine rd_LN ?_
  | ((with_reducible refine' rd_shl1 ?hs ?_); (case hs => omega))
  | ((with_reducible refine' rd_I ?hs ?_); (case hs => first | omega | decide | exact ⟨by decide, by decide, by decide⟩ | exact ⟨by omega, by omega⟩))
  | with_reducible refine rd_tr ?_
  | with_reducible refine rd_trI ?_
  | with_reducible refine rd_star ?_
  | with_reducible refine rd_fmtB ?_
  | with_reducible refine rd_M1 ?_
  | with_reducible refine rd_un ?_
  | with_reducible refine rd_lc ?_
  | with_reducible refine rd_iT ?_
  | with_reducible refine rd_iL ?_
  | with_reducible refine rd_iR1 ?_
  | with_reducible refine rd_iR2 ?_
  | dsimp only [List.set, start]))
section
variable {P : Program} {w : World} {K : PySem.W.Frag} {mg : Str → Option Value} {base : Heap}

def spLaw (K : PySem.W.Frag) : Sp := fun vs H Q _ => ∃ (a : Addr) (ns : List Int), vs = [.ref a] ∧ SqL K H a (ns.map V.int) ∧ ns.length ≤ 63 ∧ (∀ z ∈ ns, bits z ≤ 1048576) ∧ ∀ H', Q (.bl true) H'
theorem full_lt (m : Nat) : fullW m < 2 ^ (2 ^ m) := by
  have pp : 0 < 2 ^ (2 ^ m) := Nat.pow_pos (by decide)
  unfold fullW
  omega
theorem rd_asgT {te : TE} {K : PySem.W.Frag} {n : Nat} {t : TGs} {D : Ends} {σ : L2.St} {H : Hp} (h : te σ H fun x H1 => gTup K n t x σ H1 D.nx) : tAsg te (gTup K n t) D σ H := h
theorem rd_gtup {K : PySem.W.Frag} {n : Nat} {t : TGs} {p : Addr} {xs : List V} {σ : L2.St} {H : Hp} {Q : L2.St → Hp → Prop} (h : H p = some (.tup xs)) (hn : xs.length = n) (q : t xs σ H Q) : gTup K n t (.ref p) σ H Q := ⟨p, xs, rfl, st_of h, hn, q⟩
theorem h_law (E : Ctx K mg) {fd : FuncData} (F : FunD K "law" "law" (defArgs s_law) (defBody s_law) (defScope s_law) [] [] (ga K "law") fd) : FnOk P w K mg base (L2N.CX P w) 11 (ga K "law") fd ["_law_script"] (spLaw K) := by
  refine F.ok sc_law (fun vs H Q E' h => ?len) (fun cdv A outer s H vs Q E' hr h => ⟨_, (pss_cons (ps_set (i := 1) sc_law.nd rfl (.inl rfl) (pe_H (h__law_hand E) (hr.mono (by decide)) (takes_of rfl rfl rfl rfl) (pa_cons (pv 0) pa_nil)))
 (pss_cons (ps_set (i := 2) sc_law.nd rfl (.inr rfl) (pe_H (h__law_letters E) (hr.mono (by decide)) (takes_of rfl rfl rfl rfl) (pa_cons (pv 1) pa_nil)))
 (pss_cons (ps_asg (pe_tup (pa_cons (pe_H (h__law_any_word E) (hr.mono (by decide)) (takes_of rfl rfl rfl rfl) (pa_cons (pv 1) (pa_cons (pv 2) pa_nil))) (pa_cons (pe_H (h__law_any_word E) (hr.mono (by decide)) (takes_of rfl rfl rfl rfl) (pa_cons (pv 1) (pa_cons (pv 2) pa_nil))) pa_nil))) (pg_tup rfl (pgs_cons (pg_name (i := 3) sc_law.nd rfl (.inr rfl)) (pgs_cons (pg_name (i := 4) sc_law.nd rfl (.inl rfl)) pgs_nil))))
 (pss_cons (ps_if (PW.pt (pw_or (pt_not (pt_val (pe_H (h__law_word_right E) (hr.mono (by decide)) (takes_of rfl rfl rfl rfl) (pa_cons (pv 2) (pa_cons (pv 3) pa_nil))))) (pw_or (pt_not (pt_val (pe_H (h__law_word_right E) (hr.mono (by decide)) (takes_of rfl rfl rfl rfl) (pa_cons (pv 2) (pa_cons pe_int pa_nil))))) (pw_or1 (pt_not (pt_val (pe_H (h__law_word_right E) (hr.mono (by decide)) (takes_of rfl rfl rfl rfl) (pa_cons (pv 2) (pa_cons (pe_op op_sub (pe_op on_shl pe_int (pe_op on_shl pe_int (pv 2))) pe_int) pa_nil)))))))))
 (pss_one (ps_ret pe_bl))
 pss_nil)
 (pss_cons (ps_if (pt_cmpR op_ne (pe_H (h_full_word E) (hr.mono (by decide)) (takes_of rfl rfl rfl rfl) (pa_cons (pv 2) pa_nil)) (pe_op op_sub (pe_op on_shl pe_int (pe_op on_shl pe_int (pv 2))) pe_int) (nomark _))
 (pss_one (ps_ret pe_bl))
 pss_nil)
 (pss_cons (ps_set (i := 5) sc_law.nd rfl (.inl rfl) (pe_H (h__law_heap_list E) (hr.mono (by decide)) (takes_of rfl rfl rfl rfl) (pa_cons (pv 1) (pa_cons (pv 2) (pa_cons (pe_H (h__law_draw E) (hr.mono (by decide)) (takes_of rfl rfl rfl rfl) (pa_cons (pv 1) (pa_cons pe_int pa_nil))) pa_nil)))))
 (pss_cons (ps_set (i := 6) sc_law.nd rfl (.inl rfl) (pe_H (h__law_either E) (hr.mono (by decide)) (takes_of rfl rfl rfl rfl) (pa_cons (pv 1) (pa_cons (pv 5) pa_nil))))
 (pss_cons (ps_set (i := 7) sc_law.nd rfl (.inl rfl) (pe_H (h_word_of E) (hr.mono (by decide)) (takes_of rfl rfl rfl rfl) (pa_cons (pv 2) (pa_cons (pv 6) pa_nil))))
 (pss_cons (ps_if (PW.pt (pw_or (pt_cmpR op_ne (pv 7) (pe_H (h__law_sum E) (hr.mono (by decide)) (takes_of rfl rfl rfl rfl) (pa_cons (pv 2) (pa_cons (pe_H (h__law_unique E) (hr.mono (by decide)) (takes_of rfl rfl rfl rfl) (pa_cons (pv 5) pa_nil)) pa_nil))) (nomark _)) (pw_or (pt_cmpR (ko_neD hr (K := K) rfl) (pe_H (h_heaps_of E) (hr.mono (by decide)) (takes_of rfl rfl rfl rfl) (pa_cons (pv 2) (pa_cons (pv 7) pa_nil))) (pe_H (h__law_unique E) (hr.mono (by decide)) (takes_of rfl rfl rfl rfl) (pa_cons (pv 5) pa_nil)) (nomark _)) (pw_or1 (pt_cmpR (ko_neD hr (K := K) rfl) (pe_callTy (kc_list (K := K) rfl) rfl (b_list E) (by decide +kernel) (pa_cons (pv 6) pa_nil)) (pv 5) (nomark _))))))
 (pss_one (ps_ret pe_bl))
 pss_nil)
 (pss_cons (ps_if (pt_val (pe_callB (kc_isT (K := K) rfl) rfl (b_isinstance E) (by decide +kernel) (pa_cons (pv 7) (pa_cons (pe_bltn rfl (b_bool E) (by decide +kernel) (v := .ty "bool") rfl) pa_nil))))
 (pss_one (ps_ret pe_bl))
 pss_nil)
 (pss_cons (ps_set (i := 8) sc_law.nd rfl (.inl rfl) (pe_H (h__law_heap_list E) (hr.mono (by decide)) (takes_of rfl rfl rfl rfl) (pa_cons (pv 1) (pa_cons (pv 2) (pa_cons (pe_H (h__law_draw E) (hr.mono (by decide)) (takes_of rfl rfl rfl rfl) (pa_cons (pv 1) (pa_cons pe_int pa_nil))) pa_nil)))))
 (pss_cons (ps_if (pt_cmpR op_ne (pe_H (h_marked_word E) (hr.mono (by decide)) (takes_of rfl rfl rfl rfl) (pa_cons (pv 2) (pa_cons (pe_H (h__law_either E) (hr.mono (by decide)) (takes_of rfl rfl rfl rfl) (pa_cons (pv 1) (pa_cons (pv 8) pa_nil))) pa_nil))) (pe_H (h__law_mark E) (hr.mono (by decide)) (takes_of rfl rfl rfl rfl) (pa_cons (pv 8) pa_nil)) (nomark _))
 (pss_one (ps_ret pe_bl))
 pss_nil)
 (pss_cons (ps_set (i := 9) sc_law.nd rfl (.inl rfl) (pe_H (h__law_draw E) (hr.mono (by decide)) (takes_of rfl rfl rfl rfl) (pa_cons (pv 1) (pa_cons (pe_op on_shl pe_int (pv 2)) pa_nil))))
 (pss_cons (ps_if (PW.pt (pw_or (pt_cmpR op_ne (pe_H (h_heap_word E) (hr.mono (by decide)) (takes_of rfl rfl rfl rfl) (pa_cons (pv 2) (pa_cons (pv 9) pa_nil))) (pe_H (h__law_heap_word E) (hr.mono (by decide)) (takes_of rfl rfl rfl rfl) (pa_cons (pv 2) (pa_cons (pv 9) pa_nil))) (nomark _)) (pw_or1 (pt_cmpR op_ne (pe_H (h_word_of E) (hr.mono (by decide)) (takes_of rfl rfl rfl rfl) (pa_cons (pv 2) (pa_cons (pe_lst (pa_cons (pv 9) pa_nil)) pa_nil))) (pe_H (h__law_heap_word E) (hr.mono (by decide)) (takes_of rfl rfl rfl rfl) (pa_cons (pv 2) (pa_cons (pv 9) pa_nil))) (nomark _)))))
 (pss_one (ps_ret pe_bl))
 pss_nil)
 (pss_cons (ps_asg (pe_tup (pa_cons (pe_callTy (kc_list (K := K) rfl) rfl (b_list E) (by decide +kernel) (pa_cons (pe_H (h_heaps_of E) (hr.mono (by decide)) (takes_of rfl rfl rfl rfl) (pa_cons (pv 2) (pa_cons (pv 3) pa_nil))) pa_nil)) (pa_cons (pe_callTy (kc_list (K := K) rfl) rfl (b_list E) (by decide +kernel) (pa_cons (pe_H (h_heaps_of E) (hr.mono (by decide)) (takes_of rfl rfl rfl rfl) (pa_cons (pv 2) (pa_cons (pv 4) pa_nil))) pa_nil)) pa_nil))) (pg_tup rfl (pgs_cons (pg_name (i := 10) sc_law.nd rfl (.inr rfl)) (pgs_cons (pg_name (i := 11) sc_law.nd rfl (.inr rfl)) pgs_nil))))
 (pss_cons (ps_if (pt_cmpR (ko_neD hr (K := K) rfl) (pe_H (h_heaps_of E) (hr.mono (by decide)) (takes_of rfl rfl rfl rfl) (pa_cons (pv 2) (pa_cons (pe_op on_xor (pv 3) (pv 4)) pa_nil))) (pe_callTy (kc_tup (K := K) rfl) rfl (b_tuple E) (by decide +kernel) (pa_cons (pe_lc (own := [("_law_told", 15)]) (g := gName 15) rfl sc_law.nd (pi_range1 rfl (b_range E) (pa_cons (pe_op on_shl pe_int (pv 2)) pa_nil)) (blkOk_by (own := [("_law_told", 15)]) (N := N_law) (sc := defScope s_law) (by decide +kernel)) (fun _ _ _ _ _ => (pg_name (i := 15) sc_law.nd rfl (.inl rfl))) (fun _ _ _ _ _ => (pts_one (pt_cmpR op_ne (pe_cmpR (ko_in (K := K) rfl) (pv 15) (pv 10) (by with_unfolding_all rfl)) (pe_cmpR (ko_in (K := K) rfl) (pv 15) (pv 11) (by with_unfolding_all rfl)) (nomark _)))) (fun _ _ _ _ _ => (pv 15))) pa_nil)) (nomark _))
 (pss_one (ps_ret pe_bl))
 pss_nil)
 (pss_cons (ps_set (i := 12) sc_law.nd rfl (.inl rfl) (pe_H (h_meets_evenly E) (hr.mono (by decide)) (takes_of rfl rfl rfl rfl) (pa_cons (pv 2) (pa_cons (pv 3) (pa_cons (pv 4) pa_nil)))))
 (pss_cons (ps_if (PW.pt (pw_or (pt_not (pt_val (pe_callB (kc_isT (K := K) rfl) rfl (b_isinstance E) (by decide +kernel) (pa_cons (pv 12) (pa_cons (pe_bltn rfl (b_bool E) (by decide +kernel) (v := .ty "bool") rfl) pa_nil))))) (pw_or1 (pt_cmpR op_ne (pv 12) (pe_cmpR op_eq (pe_op op_modN (pe_callTy call_int1 rfl (b_int E) (by decide +kernel) (pa_cons (pe_H (h__law_ones E) (hr.mono (by decide)) (takes_of rfl rfl rfl rfl) (pa_cons (pe_op on_and (pv 3) (pv 4)) pa_nil)) pa_nil)) pe_int) pe_int (nomark _)) (nomark _)))))
 (pss_one (ps_ret pe_bl))
 pss_nil)
 (pss_cons (ps_setLc (i := 13) (own := [("_law_place", 16)]) (g := gName 16) (tt := tYes) rfl sc_law.nd rfl rfl (sw_true rfl rfl rfl (by decide +kernel)) (pi_range1 rfl (b_range E) (pa_cons (pe_op on_shl pe_int (pv 2)) pa_nil)) (blkOk_by (own := [("_law_place", 16)]) (N := N_law) (sc := defScope s_law) (by decide +kernel)) (fun _ _ _ _ _ => (pg_name (i := 16) sc_law.nd rfl (.inl rfl))) (fun _ _ _ _ _ => pts_nil) (fun _ _ _ _ _ => (pe_H (h_value_at E) (hr.mono (by decide)) takes0 (pa_cons (pv 2) (pa_cons (pv 3) (pa_cons (pv 16) pa_nil))))))
 (pss_cons (ps_if (PW.pt (pw_or (pt_cmpR (ko_neD hr (K := K) rfl) (pv 13) (pe_lc (own := [("_law_place", 16)]) (g := gName 16) (tt := tYes) rfl sc_law.nd (pi_range1 rfl (b_range E) (pa_cons (pe_op on_shl pe_int (pv 2)) pa_nil)) (blkOk_by (own := [("_law_place", 16)]) (N := N_law) (sc := defScope s_law) (by decide +kernel)) (fun _ _ _ _ _ => (pg_name (i := 16) sc_law.nd rfl (.inl rfl))) (fun _ _ _ _ _ => pts_nil) (fun _ _ _ _ _ => (pe_op on_and (pe_op on_shr (pv 3) (pv 16)) pe_int))) (nomark _)) (pw_or1 (pt_val (pe_callB (kc_any rfl (K := K) rfl) rfl (b_any E) (by decide +kernel) (pa_cons (pe_lc (own := [("_law_value", 17)]) (g := gName 17) (tt := tYes) rfl sc_law.nd (ki_list (K := K) rfl (pv 13)) (blkOk_by (own := [("_law_value", 17)]) (N := N_law) (sc := defScope s_law) (by decide +kernel)) (fun _ _ _ _ _ => (pg_name (i := 17) sc_law.nd rfl (.inl rfl))) (fun _ _ _ _ _ => pts_nil) (fun _ _ _ _ _ => (pe_callB (kc_isT (K := K) rfl) rfl (b_isinstance E) (by decide +kernel) (pa_cons (pv 17) (pa_cons (pe_bltn rfl (b_bool E) (by decide +kernel) (v := .ty "bool") rfl) pa_nil))))) pa_nil))))))
 (pss_one (ps_ret pe_bl))
 pss_nil)
 (pss_cons (ps_if (pt_cmpR op_eq (pe_H (h__law_draw E) (hr.mono (by decide)) (takes_of rfl rfl rfl rfl) (pa_cons (pv 1) (pa_cons pe_int pa_nil))) pe_int (nomark _))
 (pss_cons (ps_set (i := 14) sc_law.nd rfl (.inr rfl) (pe_op op_add pe_int (pe_H (h__law_draw E) (hr.mono (by decide)) (takes_of rfl rfl rfl rfl) (pa_cons (pv 1) (pa_cons pe_int pa_nil)))))
 (pss_one (ps_if (pt_not (pt_val (pe_callB (kc_all rfl (K := K) rfl) rfl (b_all E) (by decide +kernel) (pa_cons (pe_lc (own := [("_law_told", 15)]) (g := gName 15) (tt := tYes) rfl sc_law.nd (pi_range1 rfl (b_range E) (pa_cons (pe_op on_shl pe_int (pe_op on_shl pe_int (pv 14))) pa_nil)) (blkOk_by (own := [("_law_told", 15)]) (N := N_law) (sc := defScope s_law) (by decide +kernel)) (fun _ _ _ _ _ => (pg_name (i := 15) sc_law.nd rfl (.inl rfl))) (fun _ _ _ _ _ => pts_nil) (fun _ _ _ _ _ => (pe_H (h__law_word_right E) (hr.mono (by decide)) takes0 (pa_cons (pv 14) (pa_cons (pv 15) pa_nil))))) pa_nil))))
 (pss_one (ps_ret pe_bl))
 pss_nil)))
 pss_nil)
 (pss_one (ps_ret (pe_H (h__law_refused E) (hr.mono (by decide)) (takes_of rfl rfl rfl rfl) (pa_cons (pv 1) (pa_cons (pv 2) (pa_cons (pv 3) pa_nil))))))))))))))))))))))))))), ?rd⟩)
  case len =>
    obtain ⟨a, ns, rfl, _⟩ := h
    rfl
  case rd =>
    obtain ⟨a, ns, rfl, hs, hlen, hbits, q⟩ := h
    rw [show L2.start N_law [V.ref a] = [some (.ref a), none, none, none, none, none, none, none, none, none, none, none, none, none, none, none, none, none] from rfl]
    walk_at "rd"
    try dsimp only [List.set_cons_succ, List.set_cons_zero]
    refine ⟨a, ns, rfl, hs, hlen, hbits, fun hh H1 hf e1 hand1 => ?_⟩
    walk_at "rd"
    try dsimp only [List.set_cons_succ, List.set_cons_zero]
    refine ⟨hh, rfl, hand1, fun m H2 hm1 hm2 d2 hand2 => ?_⟩
    have p5 : 2 ^ m ≤ 32 := Nat.le_trans (Nat.pow_le_pow_right (by decide) hm2) (by decide)
    have p1 : 2 ≤ 2 ^ m := Nat.le_trans (by decide) (Nat.pow_le_pow_right (by decide) hm1)
    have pp : 0 < 2 ^ (2 ^ m) := Nat.pow_pos (by decide)
    have ep : ((2 ^ m : Nat) : Int) - 1 = ((2 ^ m - 1 : Nat) : Int) := by omega
    have ef : ((2 ^ (2 ^ m) : Nat) : Int) - 1 = ((fullW m : Nat) : Int) := by
      unfold fullW
      omega
    walk_at "rd"
    try dsimp only [List.set_cons_succ, List.set_cons_zero]
    refine rd_asgT ?_
    walk_at "rd"
    try dsimp only [List.set_cons_succ, List.set_cons_zero]
    refine ⟨hh, m, rfl, hand2, hm2, fun n H3 hn d3 hand3 => ?_⟩
    walk_at "rd"
    try dsimp only [List.set_cons_succ, List.set_cons_zero]
    refine ⟨hh, m, rfl, hand3, hm2, fun n2 H4 hn2 d4 hand4 => ?_⟩
    walk_at "rd"
    try dsimp only [List.set_cons_succ, List.set_cons_zero]
    refine ⟨by show 2 ≤ sizeLine; decide, fun t2 ht2 => ?_⟩
    refine rd_gtup upd_same rfl ?_
    have x5 : Ex H4 (upd H4 t2 (.tup [.int (n : Int), .int (n2 : Int)])) := Ex.new ht2
    have hand5 := hand4.ex x5
    generalize upd H4 t2 (.tup [.int (n : Int), .int (n2 : Int)]) = H5 at x5 hand5 ⊢
    walk_at "rd"
    try dsimp only [List.set_cons_succ, List.set_cons_zero]
    refine ⟨m, n, rfl, ⟨hm1, hm2⟩, hn, fun H6 e6 => ⟨true, rfl, (fun z => nomatch z), fun _ => ?_⟩⟩
    walk_at "rd"
    try dsimp only [List.set_cons_succ, List.set_cons_zero]
    refine ⟨m, 0, rfl, ⟨hm1, hm2⟩, pp, fun H7 e7 => ⟨true, rfl, (fun z => nomatch z), fun _ => ?_⟩⟩
    walk_at "rd"
    try dsimp only [List.set_cons_succ, List.set_cons_zero]
    rw [ef]
    refine ⟨m, fullW m, rfl, ⟨hm1, hm2⟩, full_lt m, fun H8 e8 => ⟨true, rfl, (fun z => nomatch z), fun _ => ?_⟩⟩
    walk_at "rd"
    try dsimp only [List.set_cons_succ, List.set_cons_zero]
    refine ⟨_, rfl, letGood hm1 hm2 ?_⟩
    walk_at "rd"
    try dsimp only [List.set_cons_succ, List.set_cons_zero]
    rw [ef, decide_eq_true rfl]
    refine ⟨(fun z => nomatch z), fun _ => ?_⟩
    have hand8 := ((hand5.ex e6).ex e7).ex e8
    walk_at "rd"
    try dsimp only [List.set_cons_succ, List.set_cons_zero]
    refine ⟨hh, 12, rfl, hand8, ⟨by decide, by decide⟩, fun k H9 hk d9 hand9 => ?_⟩
    walk_at "rd"
    try dsimp only [List.set_cons_succ, List.set_cons_zero]
    refine ⟨hh, m, k, rfl, hand9, hm2, by omega, fun p ns H10 hp at10 len10 bd d10 hand10 => ?_⟩
    have np := hand9.ne hp
    have bd2 := in_offG bd
    have nn : ∀ z ∈ ns, 0 ≤ z := fun z hz => (bd z hz).1
    have lm : (ns.map V.int).length = ns.length := by simp
    walk_at "rd"
    try dsimp only [List.set_cons_succ, List.set_cons_zero]
    refine ⟨hh, p, ns, rfl, hand10, np, at10, fun t H11 ht at11 d11 hand11 => ?_⟩
    have nt := hand10.ne ht
    have ap11 := d11 _ _ np at10
    walk_at "rd"
    try dsimp only [List.set_cons_succ, List.set_cons_zero]
    refine ⟨.int (m : Int), .ref t, some (ns.map V.int), rfl, ⟨t, rfl, at11, by omega, ints_odd⟩, letGood hm1 hm2 ⟨fun b eb => absurd ((in_off bd2).symm.trans eb) nofun, fun ns2 en _ => ?_⟩⟩
    obtain rfl : ns = ns2 := (List.map_inj_right fun _ _ h => V.int.inj h).mp (Option.some.inj en)
    refine ⟨by omega, fun H12 e12 => ?_⟩
    dsimp only
    have ps_lt := natsU_lt hm2 bd2
    have ps_nd := natsU_nodup nn
    have em : stepN m (markN (natsU ns)) = sumW m (natsU ns) := stepN_marks hm2 ps_nd ps_lt
    have kl : markN (natsU ns) < 2 ^ (2 ^ m) := markN_lt ps_nd ps_lt
    have wl : stepN m (markN (natsU ns)) < 2 ^ (2 ^ m) := stepN_lt hm2 kl m (Nat.le_refl m)
    have back : intsL (placesN m (stepN m (stepN m (markN (natsU ns))))) = uniq ns := by
      rw [stepN_back hm2 kl]
      exact places_marks hm2 bd2
    generalize stepN m (markN (natsU ns)) = mw at em wl back ⊢
    walk_at "rd"
    try dsimp only [List.set_cons_succ, List.set_cons_zero]
    refine ⟨p, ns, rfl, e12 _ _ ap11, by omega, fun u H13 hu e13 h13 => ?_⟩
    walk_at "rd"
    try dsimp only [List.set_cons_succ, List.set_cons_zero]
    refine ⟨m, u, natsU ns, rfl, hm2, by rw [← natsU_int nn]; exact h13, ?_⟩
    rw [← em]
    walk_at "rd"
    try dsimp only [List.set_cons_succ, List.set_cons_zero]
    rw [decide_eq_true rfl]
    refine ⟨(fun z => nomatch z), fun _ => ?_⟩
    walk_at "rd"
    try dsimp only [List.set_cons_succ, List.set_cons_zero]
    refine ⟨.int (m : Int), .int (mw : Int), rfl, ⟨_, th_int _⟩, letGood hm1 hm2 ⟨fun z => absurd z (by rw [whole_of (by omega) (word_le wl)]; decide), fun n3 en3 _ p14 H14 hp14 e14 h14 => ?_⟩⟩
    obtain rfl : mw = n3 := by injection en3 with en3; omega
    rw [back] at h14
    walk_at "rd"
    try dsimp only [List.set_cons_succ, List.set_cons_zero]
    refine ⟨p, ns, rfl, e14 _ _ (e13 _ _ (e12 _ _ ap11)), by omega, fun u2 H15 hu2 e15 h15 => ?_⟩
    refine rd_neT (a := uniq ns) (b := uniq ns) (st_of (e15 _ _ h14)) (st_of h15) ?_
    rw [decide_eq_true rfl]
    refine ⟨false, rfl, (fun z => nomatch z), fun _ => ?_⟩
    have eA : Ex H11 H15 := ((e12.trans e13).trans e14).trans e15
    walk_at "rd"
    try dsimp only [List.set_cons_succ, List.set_cons_zero]
    refine ⟨t, _, rfl, (at11.imp (eA _ _) (eA _ _)).imp sq_of st_of, fun l hl => ?_⟩
    have x16 : Ex H15 (upd H15 l (.lst (ns.map V.int))) := Ex.new hl
    walk_at "rd"
    try dsimp only [List.set_cons_succ, List.set_cons_zero]
    refine rd_neL (a := ns) (b := ns) (sq_of upd_same) (sq_of (x16 _ _ (eA _ _ ap11))) ?_
    rw [decide_eq_true rfl]
    generalize upd H15 l (.lst (ns.map V.int)) = H16 at x16 ⊢
    refine ⟨false, rfl, (fun z => nomatch z), fun _ => ?_⟩
    have hand16 := hand11.ex (eA.trans x16)
    have th : Th K H16 (.int (mw : Int)) "int" := th_int _
    walk_at "rd"
    try dsimp only [List.set_cons_succ, List.set_cons_zero]
    refine ⟨(fun z => nomatch z), fun _ => ?_⟩
    walk_at "rd"
    try dsimp only [List.set_cons_succ, List.set_cons_zero]
    refine ⟨hh, 9, rfl, hand16, ⟨by decide, by decide⟩, fun k2 H17 hk2 d17 hand17 => ?_⟩
    walk_at "rd"
    try dsimp only [List.set_cons_succ, List.set_cons_zero]
    refine ⟨hh, m, k2, rfl, hand17, hm2, by omega, fun sp ss H18 hsp at18 len18 bs d18 hand18 => ?_⟩
    have nsp := hand17.ne hsp
    have bs2 := in_offG bs
    have nns : ∀ z ∈ ss, 0 ≤ z := fun z hz => (bs z hz).1
    obtain ⟨ps, eps⟩ := nats_eq nns
    have lms : (ss.map V.int).length = ss.length := by simp
    walk_at "rd"
    try dsimp only [List.set_cons_succ, List.set_cons_zero]
    refine ⟨hh, sp, ss, rfl, hand18, nsp, at18, fun t3 H19 ht3 at19 d19 hand19 => ?_⟩
    walk_at "rd"
    try dsimp only [List.set_cons_succ, List.set_cons_zero]
    refine ⟨.int (m : Int), .ref t3, some (ss.map V.int), rfl, ⟨t3, rfl, at19, by omega, ints_odd⟩, letGood hm1 hm2 ⟨fun b eb => absurd ((in_off bs2).symm.trans eb) nofun, fun ns2 en _ => ?_⟩⟩
    obtain rfl : ss = ns2 := (List.map_inj_right fun _ _ h => V.int.inj h).mp (Option.some.inj en)
    refine ⟨by omega, fun H20 e20 => ?_⟩
    dsimp only
    walk_at "rd"
    try dsimp only [List.set_cons_succ, List.set_cons_zero]
    refine ⟨sp, ps, rfl, by rw [← eps]; exact e20 _ _ (d19 _ _ nsp at18), fun p hp => ?_, ?_⟩
    · have := bs (p : Int) (by rw [eps]; exact List.mem_map.mpr ⟨p, hp, rfl⟩)
      omega
    rw [or_marks hm2 eps bs2]
    walk_at "rd"
    try dsimp only [List.set_cons_succ, List.set_cons_zero]
    rw [decide_eq_true rfl]
    refine ⟨(fun z => nomatch z), fun _ => ?_⟩
    have hand20 := hand19.ex e20
    walk_at "rd"
    try dsimp only [List.set_cons_succ, List.set_cons_zero]
    refine ⟨hh, ((2 ^ m : Nat) : Int), rfl, hand20, ⟨by omega, by omega⟩, fun x H21 hx d21 hand21 => ?_⟩
    have hx : x < 2 ^ m := by omega
    have hxw : stepN m (2 ^ x) = heapW m x := heapW_step m (by omega) x (by omega) hx
    walk_at "rd"
    try dsimp only [List.set_cons_succ, List.set_cons_zero]
    refine ⟨.int (m : Int), .int (x : Int), rfl, ⟨_, th_int _⟩, letGood hm1 hm2 ⟨fun _ n3 en3 _ => ?_, fun z => absurd z (by rw [whole_of (by omega) (by omega)]; decide)⟩⟩
    obtain rfl : x = n3 := by injection en3 with en3; omega
    rw [hxw]
    walk_at "rd"
    try dsimp only [List.set_cons_succ, List.set_cons_zero]
    refine ⟨m, x, rfl, hm2, ?_⟩
    walk_at "rd"
    try dsimp only [List.set_cons_succ, List.set_cons_zero]
    rw [decide_eq_true rfl]
    refine ⟨(fun z => nomatch z), fun _ => ?_⟩
    walk_at "rd"
    try dsimp only [List.set_cons_succ, List.set_cons_zero]
    refine ⟨by show 1 ≤ sizeLine; decide, fun l1 hl1 => ?_⟩
    walk_at "rd"
    try dsimp only [List.set_cons_succ, List.set_cons_zero]
    have x22 : Ex H21 (upd H21 l1 (.lst [.int (x : Int)])) := Ex.new hl1
    have f22 : (upd H21 l1 (.lst [.int (x : Int)])) l1 = some (.lst ([(x : Int)].map V.int)) := upd_same
    generalize upd H21 l1 (.lst [.int (x : Int)]) = H22 at x22 f22 ⊢
    have bx : ∀ z ∈ [(x : Int)], 0 ≤ z ∧ z ≤ ((2 ^ m - 1 : Nat) : Int) := fun z hz => by
      rw [List.mem_singleton.mp hz]
      omega
    refine ⟨.int (m : Int), .ref l1, some ([(x : Int)].map V.int), rfl, ⟨l1, rfl, .inl f22, by show 1 ≤ 1000; decide, ints_odd⟩, letGood hm1 hm2 ⟨fun b eb => absurd ((in_off bx).symm.trans eb) nofun, fun ns2 en _ => ?_⟩⟩
    obtain rfl : [(x : Int)] = ns2 := (List.map_inj_right fun _ _ h => V.int.inj h).mp (Option.some.inj en)
    refine ⟨by show 1 < 60; decide, fun H23 e23 => ?_⟩
    rw [natsU_one]
    dsimp only
    rw [markN_one, hxw]
    walk_at "rd"
    try dsimp only [List.set_cons_succ, List.set_cons_zero]
    refine ⟨m, x, rfl, hm2, ?_⟩
    walk_at "rd"
    try dsimp only [List.set_cons_succ, List.set_cons_zero]
    rw [decide_eq_true rfl]
    refine ⟨(fun z => nomatch z), fun _ => ?_⟩
    have hand23 := (hand21.ex x22).ex e23
    walk_at "rd"
    try dsimp only [List.set_cons_succ, List.set_cons_zero]
    refine rd_asgT ?_
    walk_at "rd"
    try dsimp only [List.set_cons_succ, List.set_cons_zero]
    have sn := stepN_lt hm2 hn m (Nat.le_refl m)
    have sn2 := stepN_lt hm2 hn2 m (Nat.le_refl m)
    have xl : n ^^^ n2 < 2 ^ (2 ^ m) := Nat.xor_lt_two_pow hn hn2
    refine ⟨.int (m : Int), .int (n : Int), rfl, ⟨_, th_int _⟩, letGood hm1 hm2 ⟨fun z => absurd z (by rw [whole_of (by omega) (word_le hn)]; decide), fun n3 en3 _ a1 H24 ha1 e24 h24 => ?_⟩⟩
    obtain rfl : n = n3 := by injection en3 with en3; omega
    walk_at "rd"
    try dsimp only [List.set_cons_succ, List.set_cons_zero]
    refine ⟨a1, _, rfl, .inr (st_of h24), fun la hla => ?_⟩
    have x25 : Ex H24 (upd H24 la (.lst ((intsL (placesN m (stepN m n))).map V.int))) := Ex.new hla
    have f25 : (upd H24 la (.lst ((intsL (placesN m (stepN m n))).map V.int))) la = some (.lst ((intsL (placesN m (stepN m n))).map V.int)) := upd_same
    generalize upd H24 la (.lst ((intsL (placesN m (stepN m n))).map V.int)) = H25 at x25 f25 ⊢
    walk_at "rd"
    try dsimp only [List.set_cons_succ, List.set_cons_zero]
    refine ⟨.int (m : Int), .int (n2 : Int), rfl, ⟨_, th_int _⟩, letGood hm1 hm2 ⟨fun z => absurd z (by rw [whole_of (by omega) (word_le hn2)]; decide), fun n3 en3 _ a2 H26 ha2 e26 h26 => ?_⟩⟩
    obtain rfl : n2 = n3 := by injection en3 with en3; omega
    walk_at "rd"
    try dsimp only [List.set_cons_succ, List.set_cons_zero]
    refine ⟨a2, _, rfl, .inr (st_of h26), fun lb hlb => ?_⟩
    have x27 : Ex H26 (upd H26 lb (.lst ((intsL (placesN m (stepN m n2))).map V.int))) := Ex.new hlb
    have f27 : (upd H26 lb (.lst ((intsL (placesN m (stepN m n2))).map V.int))) lb = some (.lst ((intsL (placesN m (stepN m n2))).map V.int)) := upd_same
    generalize upd H26 lb (.lst ((intsL (placesN m (stepN m n2))).map V.int)) = H27 at x27 f27 ⊢
    walk_at "rd"
    try dsimp only [List.set_cons_succ, List.set_cons_zero]
    refine ⟨by show 2 ≤ sizeLine; decide, fun a3 ha3 => ?_⟩
    refine rd_gtup upd_same rfl ?_
    have x28 : Ex H27 (upd H27 a3 (.tup [.ref la, .ref lb])) := Ex.new ha3
    generalize upd H27 a3 (.tup [.ref la, .ref lb]) = H28 at x28 ⊢
    have eB : Ex H23 H28 := (((((e24.trans x25).trans e26).trans x27).trans x28))
    have la28 := x28 _ _ (x27 _ _ (e26 _ _ f25))
    have lb28 := x28 _ _ f27
    walk_at "rd"
    try dsimp only [List.set_cons_succ, List.set_cons_zero]
    refine ⟨.int (m : Int), .int ((n ^^^ n2 : Nat) : Int), rfl, ⟨_, th_int _⟩, letGood hm1 hm2 ⟨fun z => absurd z (by rw [whole_of (by omega) (word_le xl)]; decide), fun n3 en3 _ a4 H29 ha4 e29 h29 => ?_⟩⟩
    obtain rfl : n ^^^ n2 = n3 := by injection en3 with en3; omega
    walk_at "rd"
    try dsimp only [List.set_cons_succ, List.set_cons_zero]
    refine ⟨_, rfl, by omega, by omega, ?_⟩
    rw [Int.toNat_natCast]
    refine lc_rng0 (n := 2 ^ m) (fun i => (stepN m n).testBit i != (stepN m n2).testBit i) (fun i => .int (i : Int)) (by omega) (fun _ => rfl) (fun i H30 e30 hi H31 e31 R q => ?_) (fun i H30 e30 hi hf H31 e31 R q => ?_) fun a5 H30 ha5 e30 h30 => ?_
    · have e := (e29.trans e30).trans e31
      walk_at "rd"
      try dsimp only [List.set_cons_succ, List.set_cons_zero]
      refine ⟨la, _, rfl, .inl (sq_of (e _ _ la28)), rfl, flat_ints _, ?_⟩
      rw [if_neg Bool.false_ne_true, in_ints, any_places hi]
      walk_at "rd"
      try dsimp only [List.set_cons_succ, List.set_cons_zero]
      refine ⟨lb, _, rfl, .inl (sq_of (e _ _ lb28)), rfl, flat_ints _, ?_⟩
      rw [if_neg Bool.false_ne_true, in_ints, any_places hi]
      walk_at "rd"
      try dsimp only [List.set_cons_succ, List.set_cons_zero]
      rw [bl_ne]
      exact q _ (Ex.refl _)
    · walk_at "rd"
      try dsimp only [List.set_cons_succ, List.set_cons_zero]
      exact q _ (Ex.refl _)
    rw [given_ints, ← places_xor] at h30
    walk_at "rd"
    try dsimp only [List.set_cons_succ, List.set_cons_zero]
    refine ⟨a5, _, rfl, .inl ⟨sq_of h30, fun a6 ha6 => ?_⟩⟩
    have x31 : Ex H30 (upd H30 a6 (.tup ((intsL (placesN m (stepN m (n ^^^ n2)))).map V.int))) := Ex.new ha6
    refine rd_neT (a := intsL (placesN m (stepN m (n ^^^ n2)))) (b := intsL (placesN m (stepN m (n ^^^ n2)))) (st_of (x31 _ _ (e30 _ _ h29))) (st_of upd_same) ?_
    generalize upd H30 a6 (.tup ((intsL (placesN m (stepN m (n ^^^ n2)))).map V.int)) = H31 at x31 ⊢
    rw [decide_eq_true rfl]
    refine ⟨false, rfl, (fun z => nomatch z), fun _ => ?_⟩
    have hand31 := hand23.ex (((eB.trans e29).trans e30).trans x31)
    walk_at "rd"
    try dsimp only [List.set_cons_succ, List.set_cons_zero]
    refine ⟨.int (m : Int), .int (n : Int), .int (n2 : Int), rfl, ⟨_, th_int _⟩, ⟨_, th_int _⟩, letGood hm1 hm2 ⟨fun z => absurd z (by rw [whole_of (by omega) (word_le hn)]; decide), fun _ z => absurd z (by rw [whole_of (by omega) (word_le hn2)]; decide), fun n3 k3 en3 ek3 _ _ => ?_⟩⟩
    obtain rfl : n = n3 := by injection en3 with en3; omega
    obtain rfl : n2 = k3 := by injection ek3 with ek3; omega
    have thb : Th K H31 (.bl (onesN (n &&& n2) % 2 == 0)) "bool" := th_bl _
    walk_at "rd"
    try dsimp only [List.set_cons_succ, List.set_cons_zero]
    refine ⟨(fun z => nomatch z), fun _ => ?_⟩
    have al : n &&& n2 ≤ n := Nat.and_le_left
    have n200 := word_200 hm2 hn
    walk_at "rd"
    try dsimp only [List.set_cons_succ, List.set_cons_zero]
    refine ⟨n &&& n2, rfl, by omega, ?_⟩
    walk_at "rd"
    try dsimp only [List.set_cons_succ, List.set_cons_zero]
    rw [even_eq, decide_eq_true rfl]
    refine ⟨(fun z => nomatch z), fun _ => ?_⟩
    have ev : ∀ k : Nat, given k (fun _ => true) (fun i => V.int ((n / 2 ^ i % 2 : Nat) : Int)) = ((List.range k).map fun i => ((n / 2 ^ i % 2 : Nat) : Int)).map V.int := fun k => by
      rw [given_map, map_int]
    walk_at "rd"
    try dsimp only [List.set_cons_succ, List.set_cons_zero]
    refine ⟨_, rfl, by omega, by omega, ?_⟩
    rw [Int.toNat_natCast]
    refine lc_rng0 (n := 2 ^ m) (fun _ => true) (fun i => .int ((n / 2 ^ i % 2 : Nat) : Int)) (by omega) (fun _ => rfl) (fun i H32 e32 hi H33 e33 R q => q _ (Ex.refl _)) (fun i H32 e32 hi hf H33 e33 R q => ?_) fun vl H32 hvl e32 h32 => ?_
    · walk_at "rd"
      try dsimp only [List.set_cons_succ, List.set_cons_zero]
      refine ⟨.int (m : Int), .int (n : Int), .int (i : Int), rfl, ⟨_, th_int _⟩, ⟨_, th_int _⟩, letGood hm1 hm2 ⟨fun z => absurd z (by rw [whole_of (by omega) (word_le hn)]; decide), fun _ z => absurd z (by rw [whole_of (by omega) (by omega)]; decide), fun n3 p3 en3 ep3 _ _ => ?_⟩⟩
      obtain rfl : n = n3 := by injection en3 with en3; omega
      obtain rfl : i = p3 := by injection ep3 with ep3; omega
      exact q _ (Ex.refl _)
    rw [ev] at h32
    have hand32 := hand31.ex e32
    walk_at "rd"
    try dsimp only [List.set_cons_succ, List.set_cons_zero]
    refine ⟨_, rfl, by omega, by omega, ?_⟩
    rw [Int.toNat_natCast]
    refine lc_rng0 (n := 2 ^ m) (fun _ => true) (fun i => .int ((n / 2 ^ i % 2 : Nat) : Int)) (by omega) (fun _ => rfl) (fun i H33 e33 hi H34 e34 R q => q _ (Ex.refl _)) (fun i H33 e33 hi hf H34 e34 R q => ?_) fun vl2 H33 hvl2 e33 h33 => ?_
    · walk_at "rd"
      try dsimp only [List.set_cons_succ, List.set_cons_zero]
      have q2 := q _ (Ex.refl _)
      rw [← Nat.and_one_is_mod] at q2
      exact q2
    rw [ev] at h33
    refine rd_neL (sq_of (e33 _ _ h32)) (sq_of h33) ?_
    rw [decide_eq_true rfl]
    refine ⟨false, rfl, (fun z => nomatch z), fun _ => ?_⟩
    have h32b := e33 _ _ h32
    have lv : (((List.range (2 ^ m)).map fun i => ((n / 2 ^ i % 2 : Nat) : Int)).map V.int).length = 2 ^ m := by simp
    walk_at "rd"
    try dsimp only [List.set_cons_succ, List.set_cons_zero]
    refine ⟨vl, rfl, ⟨_, sq_of h32b⟩, lc_lstT (fun _ => true) (fun i => .bl false) (sq_of h32b) (by rw [lv]; omega) (fun _ => rfl) (fun i x H34 e34 hx H35 e35 R q => q _ (Ex.refl _)) (fun i x H34 e34 hx hf H35 e35 R q => ?_) fun bl H34 hbl e34 h34 => ?_⟩
    · rw [List.getElem?_map] at hx
      cases ez : ((List.range (2 ^ m)).map fun i => ((n / 2 ^ i % 2 : Nat) : Int))[i]? with
      | none => rw [ez] at hx; cases hx
      | some z =>
        rw [ez] at hx
        obtain rfl : V.int z = x := Option.some.inj hx
        have thz : Th K H35 (.int z) "int" := th_int _
        walk_at "rd"
        try dsimp only [List.set_cons_succ, List.set_cons_zero]
        exact q _ (Ex.refl _)
    rw [lv] at h34
    walk_at "rd"
    try dsimp only [List.set_cons_succ, List.set_cons_zero]
    have eg : given (2 ^ m) (fun _ => true) (fun _ => V.bl false) = (List.replicate (2 ^ m) false).map V.bl := by
      rw [given_map]
      exact List.ext_getElem (by simp) fun i h1 h2 => by simp
    rw [eg] at h34
    refine ⟨bl, List.replicate (2 ^ m) false, rfl, sq_of h34, ?_⟩
    have ea : (List.replicate (2 ^ m) false).any id = false := by
      rw [List.any_eq_false]
      intro x hx
      rw [List.eq_of_mem_replicate hx]
      decide
    rw [ea]
    refine ⟨false, rfl, (fun z => nomatch z), fun _ => ?_⟩
    have hand34 := (hand32.ex e33).ex e34
    refine rd_next ?_
    dsimp only
    refine rd_mid (fun σ H' => (∃ v14 v15 : Option V, σ = [some (.ref a), some (.ref hh), some (.int (m : Int)), some (.int (n : Int)), some (.int (n2 : Int)), some (.ref p), some (.ref t), some (.int (mw : Int)), some (.ref sp), some (.int (x : Int)), some (.ref la), some (.ref lb), some (.bl (onesN (n &&& n2) % 2 == 0)), some (.ref vl), v14, v15, none, none]) ∧ Hand H' hh) (fun N hN => ?_) ?_
    · walk_at "rd"
      try dsimp only [List.set_cons_succ, List.set_cons_zero]
      refine ⟨hh, 4, rfl, hand34, ⟨by decide, by decide⟩, fun r H35 hr d35 hand35 => ?_⟩
      walk_at "rd"
      try dsimp only [List.set_cons_succ, List.set_cons_zero]
      refine ⟨fun z => ?_, fun z => ?_⟩
      · walk_at "rd"
        try dsimp only [List.set_cons_succ, List.set_cons_zero]
        refine ⟨hh, 3, rfl, hand35, ⟨by decide, by decide⟩, fun r2 H36 hr2 d36 hand36 => ?_⟩
        have es : (1 : Int) + (r2 : Int) = ((1 + r2 : Nat) : Int) := by omega
        have q4 : 2 ^ (1 + r2) ≤ 8 := Nat.le_trans (Nat.pow_le_pow_right (by decide) (show 1 + r2 ≤ 3 by omega)) (by decide)
        have q5 : 2 ^ (2 ^ (1 + r2)) ≤ 256 := Nat.le_trans (Nat.pow_le_pow_right (by decide) q4) (by decide)
        walk_at "rd"
        try dsimp only [List.set_cons_succ, List.set_cons_zero]
        rw [es]
        walk_at "rd"
        try dsimp only [List.set_cons_succ, List.set_cons_zero]
        refine ⟨_, rfl, Int.le_trans (by decide) (Int.natCast_nonneg _), Int.lt_of_le_of_lt (Int.ofNat_le.mpr q5) (by decide), ?_⟩
        rw [Int.toNat_natCast]
        refine lc_rng0 (n := 2 ^ (2 ^ (1 + r2))) (fun _ => true) (fun i => .bl true) (Nat.le_trans q5 (by decide)) (fun _ => rfl) (fun i H37 e37 hi H38 e38 R q => q _ (Ex.refl _)) (fun i H37 e37 hi hf H38 e38 R q => ?_) fun bl2 H37 hbl2 e37 h37 => ?_
        · walk_at "rd"
          try dsimp only [List.set_cons_succ, List.set_cons_zero]
          exact ⟨1 + r2, i, rfl, ⟨by omega, by omega⟩, hi, fun H39 e39 => q _ e39⟩
        · have eg2 : given (2 ^ (2 ^ (1 + r2))) (fun _ => true) (fun _ => V.bl true) = (List.replicate (2 ^ (2 ^ (1 + r2))) true).map V.bl := by
            rw [given_map]
            exact List.ext_getElem (by simp) fun i h1 h2 => by simp
          rw [eg2] at h37
          walk_at "rd"
          try dsimp only [List.set_cons_succ, List.set_cons_zero]
          refine ⟨bl2, List.replicate (2 ^ (2 ^ (1 + r2))) true, rfl, sq_of h37, ?_⟩
          have ea2 : (List.replicate (2 ^ (2 ^ (1 + r2))) true).all id = true := by
            rw [List.all_eq_true]
            intro x hx
            rw [List.eq_of_mem_replicate hx]
            rfl
          rw [ea2]
          refine ⟨true, rfl, (fun z => nomatch z), fun _ => ?_⟩
          walk_at "rd"
          try dsimp only [List.set_cons_succ, List.set_cons_zero]
          exact hN _ _ ⟨⟨_, _, rfl⟩, hand36.ex e37⟩
      · walk_at "rd"
        try dsimp only [List.set_cons_succ, List.set_cons_zero]
        exact hN _ _ ⟨⟨_, _, rfl⟩, hand35⟩
    rintro σ H35 ⟨⟨v14, v15, rfl⟩, hand35⟩
    walk_at "rd"
    try dsimp only [List.set_cons_succ, List.set_cons_zero]
    exact ⟨hh, m, n, rfl, hand35, ⟨hm1, hm2⟩, hn, fun H' => q H'⟩

end
end Lw

set_option Elab.async false
set_option linter.all false
set_option maxRecDepth 100000
set_option maxHeartbeats 0
namespace Lw
open PySem PySem.Spec PyProof.Rows L2 He
section
variable {P : Program} {w : World} {K : PySem.W.Frag} {mg : Str → Option Value}
theorem end_of {h : Heap} {f : Addr} (X : K.In h) (G : h.Ns mainGlobals mg) (hf : mg ("law" : Str) = some (.ref f)) (c : SaysE fa fn ex K) :
    ∃ fd : FuncData, (∀ (s : Shared) (v : Value), BindsTo s fd ⟨[v], []⟩ [("_law_script", v)]) ∧ ∀ base : Heap, K.In base → base.Ns mainGlobals mg → FnOk P w K mg base (L2N.CX P w) 11 f fd ["_law_script"] (spLaw K) := by
  have E : Ctx K mg := ⟨⟨h, X, G⟩, c⟩
  obtain ⟨fd, F⟩ := f_law E
  have e := hf.symm.trans (g_law E)
  cases e
  have b := FunD.bindsA (ps := ["_law_script"]) F fun _ _ _ _ _ _ us hl => match us, hl with | [_], _ => rfl
  refine ⟨fd, fun s v => b s [v] rfl, fun base _ _ => ?_⟩
  exact h_law E F
end
end Lw
open PySem PySem.W PySem.Calls PyProof.Rows
theorem PySem.Challenge.cw_lowerwords_k01_whole_words_are_sums_of_h_holds : PySem.Challenge.rw_lowerwords_k01_whole_words_are_sums_of_h.Holds := by
  w_on; o_law
  refine HandSHeadRun.head_any (r := Lw.R) (q := view Lw.R.prog [53]) (H := Lw.hk) (ob := Lw.ob) (M := 4000) (loose := Lw.loose) (d := HandSHeadRun.topDef Lw.R.prog 53) (kwd := []) Lw.ob_eq
    (by kernel_rfl) (fun s => by kernel_rfl) Lw.run (by kernel_rfl) (by kernel_rfl) (by kernel_rfl) (by rfl) (by first | assumption | decide +kernel) (by decide +kernel) ⟨rfl, rfl, rfl, rfl, rfl, by decide +kernel⟩ ?hw ?hc
  case hw => w_witness2
  case hc =>
    refine Lw.walk_ofEB (l := PySem.Challenge.rw_lowerwords_k01_whole_words_are_sums_of_h) (n := 63) (k := 11) (x := "_law_script") (CX := fun w => L2N.CX (PySem.Challenge.rw_lowerwords_k01_whole_words_are_sums_of_h).prog w) rfl (by decide) (by kernel_rfl) ⟨rfl, by decide, by decide⟩ ?F ?C
    case C =>
      rintro w H s e s' ⟨_, _, _, _, _, _, _, _, _, _, _, _, no⟩
      exact no
    case F =>
      intro w mg fa h Y G m0
      obtain ⟨K, KX, c⟩ := Y
      have m1 : mg ("law" : PySem.Str) = some (.ref fa) := by
        have e : (HandSHeadRun.topDef Lw.R.prog 53).name = ("law" : PySem.Str) := by kernel_rfl
        rw [← e]
        exact m0
      obtain ⟨fd, hb, hF⟩ := Lw.end_of (P := (PySem.Challenge.rw_lowerwords_k01_whole_words_are_sums_of_h).prog) (w := w) KX G m1 c
      exact ⟨K, fd, Lw.spLaw K, KX, hb, fun H a ns hl hz _ hS => ⟨a, ns, rfl, hS, hl, hz, fun _ => rfl⟩, hF⟩

