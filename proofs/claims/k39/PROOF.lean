import PyProof.Rows.All
import Wide.All
import OpenK.AllK
import Wide.FinOn
import KE.KStateDown
import HandS.ForMost
import HandS.ForExc
import HandS.More
import HandS.Defaults
import HandS.Head0
import HandS.Head1
import HandS.Head2
import HandS.HeadEnd
import HandS.HeadHook1
import HandS.HeadHook2
import HandS.EndBits
import HandS.ExcInit
import HandS.ExcField
import HandS.IsInst
import HandS.Wide
import HandS.WideBits
import HandS.Flow
import HandS.TryMany
import HandS.Small
import HandS.Strs
import HandS.SetFor
import HandS.SortInts
import HandS.TupLe
import HandS.Style
import HandS.Conv
import HandS.ExcCtx
import HandS.HotCalls
import HandS.ExcInitHot
import HandS.RaiseFrom
import HandS.FStr
import PyProof.FString3
import PyProof.Rows.StrIntSpec
import HandS.Text
import HandS.Evl
import HandS.Comp
import HandS.RevRange
import HandS.Star
import HandS.Zip
import HandS.Walk
import HandS.TupSets
import KE.GoesMore
import KE.GoesEnum
import HandS.Iter
import HandS.ExcIs
import KE.KExcIs
import HandS.ExcValue
import KE.KOwnIter
import HandS.OwnIter
import HandS.IterVal
import HandS.Property
import HandS.Codes
import HandS.Rev
import PyProof.AutoSeq1
import KE.KRevIter
import HandS.GenList
import PyProof.GenComp
import PyProof.ForAny
import PySem.Challenge.RW_lowerwords_k39_whole_all_words_by_number
set_option Elab.async false
set_option linter.all false
set_option maxRecDepth 100000
set_option maxHeartbeats 2000000
/-! the head: facts by names with one more Bool; the end with the script's bits -/
namespace Lw
open PySem PySem.Spec PyProof.Rows L2 He
abbrev AlE : Type := AlD × Bool
def obsE (n : Nat) (fa : List Fa) (fn : List DefD) (ex : PySem.W.Frag → Bool) (g : Addr → Option Obj) : AlE :=
  (obsDG n fa fn g, ex (frG g (asD g n)))
def valE (fn : List DefD) : AlE := (valD fn, true)
structure SaysE (fa : List Fa) (fn : List DefD) (ex : PySem.W.Frag → Bool) (K : PySem.W.Frag) : Prop where
  d : SaysD fa fn K
  x : ex K = true
def hookE (n : Nat) (fa : List Fa) (fn : List DefD) (ex : PySem.W.Frag → Bool) : PySem.W.Hook where
  α := AlE
  obs := fun s => obsE n fa fn ex s.heap.get?
  val := fun _ => valE fn
  says := fun _ h => ∃ K : PySem.W.Frag, K.In h ∧ SaysE fa fn ex K
  of := fun _ _ e => ⟨_, frG_in, congrArg Prod.fst e, congrArg Prod.snd e⟩
  keeps := fun _ _ _ ⟨K, hK, c⟩ k => ⟨K, PySem.W.Frag.In.keeps hK k, c⟩
theorem obsE_eq {n : Nat} {fa : List Fa} {fn : List DefD} {ex : PySem.W.Frag → Bool} {g : Addr → Option Obj} {s : Shared} (h : ∀ a, g a = s.heap.get? a) : obsE n fa fn ex g = (hookE n fa fn ex).obs s := by
  have e : g = s.heap.get? := funext h
  rw [e] <;> rfl

/-- an own exception class with an __init__ of its own: what OexC asks -/
def shapeB (C : Addr) : Obj → Bool
  | ⟨.type "type", _, .cls cd, sl⟩ => (match cd.mro, sl.toList with
    | .ref C' :: bm, [_, _, _, _, some (.builtin n), _] => decide (C' = C) && (decide (n = "ValueError.__new__") && (!cd.hasDel && (cd.hasDict && PySem.HandSPX.refsVE bm)))
    | _, _ => false)
  | _ => false
theorem shapeB_ok {C : Addr} {o : Obj} (h : shapeB C o = true) : ∃ nm q N bs bm sn sub ab col dd k0 k1 k2 k3 k5, o = excClassObj nm q C N bs bm true sn sub ab col dd k0 k1 k2 k3 k5 "ValueError.__new__" ∧ PySem.HandSPX.refsVE bm = true := by
  unfold shapeB at h
  split at h
  · rename_i dd cd sl
    split at h
    · rename_i C' bm k0 k1 k2 k3 n k5 hm hs
      obtain ⟨e1, h⟩ := ba h
      obtain ⟨e2, h⟩ := ba h
      obtain ⟨e3, h⟩ := ba h
      obtain ⟨e4, e5⟩ := ba h
      have e1 := of_decide_eq_true e1
      have e2 := of_decide_eq_true e2
      obtain ⟨nm, bs, mro, ns, qn, hd, sn, sub, ab, col, del⟩ := cd
      have hm : mro = .ref C' :: bm := hm
      have e4 : hd = true := e4
      have e3 : del = false := by simpa using e3
      subst e1 e2 e3 e4 hm
      have hsl : sl = #[k0, k1, k2, k3, some (.builtin "ValueError.__new__"), k5] := by
        obtain ⟨l⟩ := sl
        have hs : l = _ := hs
        rw [hs]
      subst hsl
      exact ⟨nm, qn, ns, bs, bm, sn, sub, ab, col, dd, k0, k1, k2, k3, k5, rfl, e5⟩
    · cases h
  · cases h
def eqV2 (a b : Option Value) : Bool := decide (a = b)
/-- an exception class x of the text with an __init__: the fields fs are no attributes of the class -/
def excB (x : Str) (fs : List Str) (K : PySem.W.Frag) : Bool :=
  (match K.lookup (ga K x) with
    | some o => shapeB (ga K x) o
    | none => false) &&
  (eqO (PySem.W.findIn K (.ref (ga K x)) "__setattr__") (some (some (.builtin "object.__setattr__"))) &&
  (decide (PySem.W.subIn K (.ref (ga K x)) (.type "BaseException") = some true) &&
  (eqV2 (PySem.W.typeIn K (.ref (ga K x))) (some (.type "type")) &&
  (PySem.W.keepIn K (.ref (ga K x)) &&
  (eqO (PySem.W.findIn K (.ref (ga K x)) "__init__") (some (some (.ref (ma K (ga K x) "__init__")))) &&
  (eqV2 (PySem.W.typeIn K (.ref (ma K (ga K x) "__init__"))) (some (.type "function")) &&
  (xfB K (ga K x) && fs.all fun f => eqO (PySem.W.findIn K (.ref (ga K x)) f) (some none))))))))
structure ExcT (K : PySem.W.Frag) (x : Str) (fs : List Str) : Prop where
  o : OexC K (ga K x)
  i : PySem.W.findIn K (.ref (ga K x)) "__init__" = some (some (.ref (ma K (ga K x) "__init__")))
  t : PySem.W.typeIn K (.ref (ma K (ga K x) "__init__")) = some (.type "function")
  f : XfC K (ga K x)
  n : ∀ f ∈ fs, PySem.W.findIn K (.ref (ga K x)) f = some none
theorem excB_ok {x : Str} {fs : List Str} {K : PySem.W.Frag} (h : excB x fs K = true) : ExcT K x fs := by
  obtain ⟨h1, h⟩ := ba h
  obtain ⟨h2, h⟩ := ba h
  obtain ⟨h3, h⟩ := ba h
  obtain ⟨h4, h⟩ := ba h
  obtain ⟨h5, h⟩ := ba h
  obtain ⟨h6, h⟩ := ba h
  obtain ⟨h7, h⟩ := ba h
  obtain ⟨h8, h9⟩ := ba h
  refine ⟨⟨?_, eqO_ok h2, of_decide_eq_true h3, of_decide_eq_true h4, h5⟩, eqO_ok h6, of_decide_eq_true h7, xfB_ok h8, fun f hf => eqO_ok (List.all_eq_true.mp h9 f hf)⟩
  cases e : K.lookup (ga K x) with
  | none =>
    rw [e] at h1
    cases h1
  | some o =>
    rw [e] at h1
    obtain ⟨nm, q, N, bs, bm, sn, sub, ab, col, dd, k0, k1, k2, k3, k5, eo, hb⟩ := shapeB_ok h1
    exact ⟨nm, q, N, bs, bm, sn, sub, ab, col, dd, k0, k1, k2, k3, k5, by rw [eo], hb⟩

/-- the end of a law over a head by facts, the script's bits told -/
theorem walk_ofEB {l : PySem.W.OpenLaw} {n k : Nat} {q : Program} {loose : List Str} {XP : (Str → Option Value) → Heap → Prop} {YP : World → Heap → Prop} {d : DefRec} {CX : World → CXT} {x : Str}
    (hn : l.most = some n) (hn2 : n ≤ sizeLine) (hdf : d.params.defaults = []) (hr : Room k callerA)
    (F : ∀ (w : World) (mg : Str → Option Value) (fa : Addr) (h : Heap), YP w h → h.Ns mainGlobals mg → mg d.name = some (.ref fa) →
      ∃ (K : PySem.W.Frag) (fd : FuncData) (sp : Sp), K.In h ∧ (∀ (s : Shared) (u : Value), BindsTo s fd ⟨[u], []⟩ [(x, u)]) ∧
        (∀ (H : Hp) (a : Addr) (ns : List Int), ns.length ≤ n → (∀ z ∈ ns, Builtin.Int.intBits z ≤ 1048576) → Only H → SqL K H a (ns.map V.int) → sp [.ref a] H (fun v _ => v = .bl true) fun _ _ _ => False) ∧
        ∀ base : Heap, K.In base → base.Ns mainGlobals mg → FnOk l.prog w K mg base (CX w) k fa fd [x] sp)
    (hCX : ∀ (w : World) (H : Hp) (s : Shared) (e : Value) (s' : Shared), CX w [] H s (fun _ _ _ => False) e s' → False) :
    PySem.W.WalkO q loose XP YP l.row.toRowW d [] (fun f vs => PySem.call f vs) := by
  refine Att.attach_callB hn hdf fun w s₀ s₁ mg mb fa o pm cd doc a vs ns G Y ho hd hcd hmg hobj hints hlen hbits hg => ?_
  obtain ⟨K, fd, sp, KX, hb, hsp, hF⟩ := F w mg fa _ Y G.T.g hmg
  exact law_call KX G.T.g G.T.b G.T.builtins G.T.nolimit hg hobj hints (Nat.le_trans hlen hn2) hr hF hb (fun H hO hS => hsp H a ns hlen hbits hO hS) fun H e s' => hCX w H s₁ e s'
end Lw

set_option Elab.async false
set_option linter.all false
set_option maxRecDepth 100000
set_option maxHeartbeats 2000000
namespace Lw
open PySem PySem.Spec PyProof.Rows L2 He
/-! ### a constant of the text that is a tuple of ints -/
def intOf : Value → Option Int
  | .int i _ => some i
  | _ => none
def intsB (us : List Value) (ns : List Int) : Bool := decide (us.map intOf = ns.map some)
def tupB (x : Str) (ns : List Int) (K : PySem.W.Frag) : Bool :=
  match K.lookup (ga K x) with
  | some ⟨.type "tuple", _, .seq its _, _⟩ => intsB its.toList ns
  | _ => false
theorem intOf_ok {u : Value} {j : Int} (h : intOf u = some j) : ∃ t, u = .int j t := by
  unfold intOf at h
  split at h
  · rename_i i t
    exact ⟨t, by rw [Option.some.inj h]⟩
  · cases h
theorem intsB_ok {us : List Value} {ns : List Int} (h : intsB us ns = true) : Vals (ns.map V.int) us := by
  have e : us.map intOf = ns.map some := of_decide_eq_true h
  clear h
  induction us generalizing ns with
  | nil =>
    cases ns with
    | nil => exact .nil
    | cons _ _ => cases e
  | cons u r ih =>
    cases ns with
    | nil => cases e
    | cons j l =>
      rw [List.map_cons, List.map_cons] at e
      obtain ⟨e1, e2⟩ := List.cons.inj e
      obtain ⟨t, rfl⟩ := intOf_ok e1
      exact Paired.cons (show RelV (V.int j) (.int j t) from ⟨t, rfl⟩) (ih e2)
theorem tupB_ok {x : Str} {ns : List Int} {K : PySem.W.Frag} (h : tupB x ns K = true) (few : ns.length ≤ 1000) (H : Hp) : SqT K H (ga K x) (ns.map V.int) := by
  unfold tupB at h
  split at h
  · rename_i d its n sl e
    have vs := intsB_ok h
    refine .inr ⟨_, its, n, e, rfl, rfl, ?_, vs⟩
    have := Paired.length vs
    rw [List.length_map] at this
    rw [sizeLine_eq]
    have z : its.toList.length = its.size := by simp
    omega
  · cases h
end Lw

set_option Elab.async false
set_option linter.all false
set_option maxRecDepth 100000
set_option maxHeartbeats 2000000
namespace Lw
open PySem PySem.Spec PyProof.Rows L2 He
/-! ### exceptions in the air: their context is None -/
abbrev Takes := @L2N.Takes
theorem takes0 {X : Cx} : L2N.Takes X (fun _ _ _ _ => False) := fun u s' ⟨_, _, _, _, _, _, _, _, _, _, _, _, _, _, _, _, no⟩ => False.elim no
theorem takes_of {X : Cx} {E : XK} (hs : X.stack = X.env :: X.outer) (hf : X.env.frame = some X.env.locals) (hex : X.ex = []) {E₁ : Value → Shared → Prop}
    (hx : X.xe = fun v t => wpAny (model X.prog X.w) X.A (leaving X.env v) (fun _ t2 => L2N.CX X.prog X.w X.outer X.H_0 X.s_0 E v t2) E₁ t) : L2N.Takes X (fun cls d _ H => E cls d H) := L2N.takes_of hs hf hex hx
/-! ### calls of the text's own defs -/
structure Has (P : Program) (w : World) (K : PySem.W.Frag) (mg : Str → Option Value) (base : Heap) (k : Nat) (x : Str) (ps : List Str) (sp : Sp) : Prop where
  ex : ∃ fd, FnOk P w K mg base (L2N.CX P w) k (ga K x) fd ps sp ∧ Binds K fd ps []
  gl : mg x = some (.ref (ga K x))
  kp : PySem.W.keepIn K (.ref (ga K x)) = true
section
variable {X : Cx} {W : WX} {k : Nat} {x : Str} {ps : List Str} {sp : Sp} {t : TA} {p pos : Pos} {e : Expr} {es : List Expr}
theorem pe_H (h : Has X.prog X.w X.K X.mg X.base k x ps sp) (hr : Room k X.A) (tk : L2N.Takes X W) (ha : PA X (e :: es) t) (hg : Gl X x := by rfl) (hdb : (x == ("__debug__" : Str)) = false := by decide)
    (he : starEach (e :: es) X.env = (false, eval e X.env) :: starEach es X.env := by rfl) (hpl : (backTo pos (starEach es X.env)).any (·.1) = false := by rfl) :
    PE X (.Call (.Name x p) (e :: es) [] pos) (tCallS sp (WE W) t) := by
  obtain ⟨fd, F, b⟩ := h.ex
  exact pe_callS F hr hg h.gl h.kp b (fun σ => L2N.passAt tk σ) ha hdb he hpl
end
/-! ### raising the text's own errors -/
/-- an error of the class x without fields leaves -/
def Er0 (K : PySem.W.Frag) (x : Str) (E : XK) (H : Hp) : Prop := E (.ref (ga K x)) none H
/-- an error of the class x with the fields fs leaves -/
def Er (K : PySem.W.Frag) (x : Str) (fs : List (Str × V)) (E : XK) (H : Hp) : Prop := ∀ d, H d = none → E (.ref (ga K x)) (some d) (upd H d (.xd fs))
structure Ex0 (K : PySem.W.Frag) (mg : Str → Option Value) (x : Str) : Prop where
  g : mg x = some (.ref (ga K x))
  e : (Fa.exc x).ok K = true
def tRaise0 (K : PySem.W.Frag) (x : Str) (W : WX) : TS := fun _ σ H => W (.ref (ga K x)) none σ H
section
variable {X : Cx} {W : WX} {x : Str} {p pos pos2 : Pos}
theorem ps_raise0 (hc : X.calm = true) (tk : L2N.Takes X W) (T : Ex0 X.K X.mg x) (hg : Gl X x := by rfl) (hdb : (x == ("__debug__" : Str)) = false := by decide) :
    PS X (.Raise (some (.Call (.Name x p) [] [] pos)) none pos2) (tRaise0 X.K x W) := by
  obtain ⟨q, h⟩ := ba T.e
  obtain ⟨kC, h⟩ := ba h
  obtain ⟨h1, h2⟩ := ba h
  refine L2N.ps_raise (t := fun _ H Q => Q (.ref (ga X.K x)) none H) hc tk ?_
  intro pins s σ H Q I h
  refine wpAny_Call_Name_kw (ld_glob I hg T.g ?_ hdb)
  have ha : PA X [] tNil := pa_nil
  refine PySem.W.callWith_K0 I.kIn kC ?_
  show wpAny _ _ (call (.ref (ga X.K x)) []) _ _ _
  obtain ⟨bm, N, nm, qn, bs, hdct, sn, sub, ab, col, dd, k0, k1, k2, k3, k5, mN, hC, hN, hni, T⟩ := exc_obj I.kIn q
  refine wpAny_call_exc_subT F.excBase_ValueError T hC hN hni (fun h' e hm => ?_) (Nat.zero_le _)
  exact L2N.mk_of I hm (raises_own (of_decide_eq_true h1) (of_decide_eq_true h2)) h (I.hok.gone hm.new)
end
/-! ### the text's own __init__ of an error: self.f = f, one field or two -/
def spIni1 (K : PySem.W.Frag) (x f : Str) : Sp := fun vs H Q _ => ∃ (a : Addr) (v : V), vs = [.ref a, v] ∧ H a = some (exo a (ga K x) none) ∧
  ∀ d, H d = none → d ≠ a → Q .non (upd (upd H d (exd d [(f, v)])) a (exo a (ga K x) (some d)))
def spIni2 (K : PySem.W.Frag) (x f g : Str) : Sp := fun vs H Q _ => ∃ (a : Addr) (v w : V), vs = [.ref a, v, w] ∧ H a = some (exo a (ga K x) none) ∧
  ∀ d, H d = none → d ≠ a → Q .non (upd (upd (upd H d (exd d [(f, v)])) a (exo a (ga K x) (some d))) d (exd d [(g, w), (f, v)]))
/-- an error class with its __init__ -/
structure ExI (P : Program) (w : World) (K : PySem.W.Frag) (mg : Str → Option Value) (base : Heap) (k : Nat) (x : Str) (fs ps : List Str) (sp : Sp) : Prop where
  g : mg x = some (.ref (ga K x))
  T : ExcT K x fs
  F : ∃ fd, FnOk P w K mg base CX0 k (ma K (ga K x) "__init__") fd ps sp ∧ Binds K fd ps []
/-- X(e, ..): the class's own __init__ runs; the exception's context is None -/
theorem mkN {X : Cx} {Γ : CXT} {x : Str} {e0 : Expr} {er : List Expr} {ta : TA} {p pos : Pos} {C fI : Addr} {k : Nat} {fd : FuncData} {ps : List Str} {sp : Sp} (T : OexC X.K C) (hI : PySem.W.findIn X.K (.ref C) "__init__" = some (some (.ref fI)))
    (hT : PySem.W.typeIn X.K (.ref fI) = some (.type "function")) (G : FnOk X.prog X.w X.K X.mg X.base Γ k fI fd ps sp) (rm : Room (k + 1) X.A) (bd : Binds X.K fd ps []) (px : Passes Γ X (fun _ _ _ => False)) (gx : Gl X x) (mx : X.mg x = some (.ref C))
    (pa : PA X (e0 :: er) ta) (db : (x == ("__debug__" : Str)) = false) (st : starEach (e0 :: er) X.env = (false, eval e0 X.env) :: starEach er X.env) (pl : (backTo pos (starEach er X.env)).any (·.1) = false) :
    L2N.PMk X (.Call (.Name x p) (e0 :: er) [] pos) (tMkO C sp [] ta) := fun pins s σ H Q J wish => by
  obtain ⟨_, _, _, _, bm, _, _, _, _, _, _, _, _, _, _, atC, refs⟩ := T.cls
  apply wpAny_Call_Name_kw
  refine ld_glob J gx mx ?_ db
  refine PySem.W.callWith_K (h₀ := X.base) J.ok.mod.kin T.kC (thn (pa.run pos pins s σ H _ J wish) ?_) st pl
  rintro us ⟨hp, gs, dr, tk, os⟩ ⟨vs, H1, J1, rel, len1, wish1⟩
  refine ⟨J1.kIn, ?_⟩
  change wpAny _ _ (call (.ref C) us) _ _ _
  -- where the new exception stands
  obtain ⟨a, ea⟩ : ∃ a, a = hp.objs.size + 1 := ⟨_, rfl⟩
  have above : hp.objs.size ≤ a := by omega
  have w2 := wish1 a (J1.hok.fresh above)
  rw [List.append_nil] at w2
  obtain ⟨hp2, e2⟩ : ∃ h, h = (hp.push (PySem.W.kdv_tup us)).push (PySem.HandSPX.excO C hp.objs.size) := ⟨_, rfl⟩
  have kept : ∀ b o, hp.get? b = some o → hp2.get? b = some o := fun b o y => by
    rw [e2]
    exact Heap.get?_push_of_some _ (Heap.get?_push_of_some _ y)
  have new2 : hp2.get? a = some (PySem.HandSPX.excO C hp.objs.size) := by
    rw [e2, ea]
    heap_get
  have J2 : Inv X pins σ (upd H1 a (exo a C none)) ⟨hp2, gs, dr, tk, os⟩ := J1.laid (t' := tk) kept above (exo_ok new2)
  have rel2 : Vals (V.ref a :: vs) (Value.ref a :: us) := Paired.cons (show RelV (V.ref a) (Value.ref a) from rfl) rel
  have many : (Value.ref a :: us ++ []).length = ps.length := by
    rw [List.append_nil, ← rel2.length]
    exact G.len _ _ _ _ w2
  have few : us.length ≤ sizeLine := by
    have := Paired.length rel
    rw [sizeLine_eq]
    omega
  have bind2 := bd ⟨hp2, gs, dr, tk, os⟩ (Value.ref a :: us) J2.kIn many
  rw [List.append_nil] at bind2
  have body := G.run (X.A.under (.builtin "type.__call__" ⟨.ref C :: us, []⟩)) X.stack ⟨hp2, gs, dr, tk, os⟩ _ ⟨Value.ref a :: us, []⟩ (Value.ref a :: us) _ _ _ (rm.make C us []) (J2.env0.make C us []) bind2 rel2 w2
  rw [e2, ea] at body
  refine wpAny_call (PySem.HandSPX.call_own F.excBase_ValueError (fun q => PySem.HandSPX.refsVE_contains q bm refs) (J1.kIn _ _ atC) (PySem.W.looks_findIn J1.kIn hI) (fun self => PySem.W.bind_fn J1.kIn self hT) few (codeAny_mono body ?_))
  rintro (er2 | fl) s3 end3
  · exact px pins σ _ _ er2 s3 J2 (by rw [e2, ea]; exact end3)
  · cases fl with
    | next => exact False.elim end3
    | brk => exact False.elim end3
    | cont => exact False.elim end3
    | ret u =>
      obtain ⟨h3, g3, d3, t3, os3⟩ := s3
      obtain ⟨v, H3, eo, bare, un, ok3, rv, rfl, d, fs, at1, at2, free, last⟩ := end3
      obtain ⟨t0, G3, J3, back, gone, obj, na⟩ := mk_end0 (d2 := d3) (t2 := t3) J1 above kept (by rw [e2, ea]; exact un) ok3 eo bare (by rw [ea]; exact at1) at2 free
      refine ⟨rv, a, _, _, ⟨G3, g3, d3, t3, os3⟩, _, .ref C, some d, by rw [ea], J3, back, gone, obj, ⟨rfl, rfl, fun ws hw => ?_⟩, rfl, rfl, na, rfl, bare, raises_own T.exC T.tyC, by rw [ea]; exact last⟩
      cases hw
      rfl
/-- what the making of an error with one field, two fields wishes -/
def mk1 (K : PySem.W.Frag) (x f : Str) (W : WX) (σ : L2.St) : V → Hp → Prop := fun v H1 => [v].length ≤ 1000 ∧ ∀ a, H1 a = none → spIni1 K x f (.ref a :: ([v] ++ ([] : List V))) (upd H1 a (exo a (ga K x) none))
  (fun u H2 => u = .non ∧ ∃ (d : Addr) (fs : List (Str × V)), H2 a = some (exo a (ga K x) (some d)) ∧ H2 d = some (exd d fs) ∧ H1 d = none ∧ W (.ref (ga K x)) (some d) σ (upd (del H2 a) d (.xd fs))) (fun _ _ _ => False)
def mk2 (K : PySem.W.Frag) (x f g : Str) (W : WX) (σ : L2.St) : V → V → Hp → Prop := fun v w H1 => [v, w].length ≤ 1000 ∧ ∀ a, H1 a = none → spIni2 K x f g (.ref a :: ([v, w] ++ [])) (upd H1 a (exo a (ga K x) none))
  (fun u H2 => u = .non ∧ ∃ (d : Addr) (fs : List (Str × V)), H2 a = some (exo a (ga K x) (some d)) ∧ H2 d = some (exd d fs) ∧ H1 d = none ∧ W (.ref (ga K x)) (some d) σ (upd (del H2 a) d (.xd fs))) (fun _ _ _ => False)
def tRaise1 (K : PySem.W.Frag) (x f : Str) (W : WX) (te : TE) : TS := fun _ σ H => te σ H fun v H1 => mk1 K x f W σ v H1
def tRaise2 (K : PySem.W.Frag) (x f g : Str) (W : WX) (ta tb : TE) : TS := fun _ σ H => ta σ H fun v H1 => tb σ H1 fun w H2 => mk2 K x f g W σ v w H2
theorem heap_back1 {fs : List (Str × V)} {H : Hp} {a d C : Addr} {o u : HO} {z : HO} (ha : H a = none) (hd : upd H a z d = none) (ne : d ≠ a) :
    upd (del (upd (upd (upd H a z) d o) a u) a) d (.xd fs) = upd H d (.xd fs) := by
  funext b
  by_cases e : b = d
  · rw [e, upd_same, upd_same]
  · rw [upd_ne e, upd_ne e]
    by_cases e2 : b = a
    · rw [e2, del_same, ha]
    · rw [del_ne e2, upd_ne e2, upd_ne e, upd_ne e2]
theorem heap_back2 {fs : List (Str × V)} {H : Hp} {a d C : Addr} {o u y : HO} {z : HO} (ha : H a = none) (hd : upd H a z d = none) (ne : d ≠ a) :
    upd (del (upd (upd (upd (upd H a z) d o) a u) d y) a) d (.xd fs) = upd H d (.xd fs) := by
  funext b
  by_cases e : b = d
  · rw [e, upd_same, upd_same]
  · rw [upd_ne e, upd_ne e]
    by_cases e2 : b = a
    · rw [e2, del_same, ha]
    · rw [del_ne e2, upd_ne e, upd_ne e2, upd_ne e, upd_ne e2]
theorem none_up {H : Hp} {a d : Addr} {z : HO} (h : upd H a z d = none) (ne : d ≠ a) : H d = none := by
  rw [upd_ne ne] at h
  exact h
section
variable {X : Cx} {W : WX} {x f g : Str} {p pos pos2 : Pos} {e e2 : Expr} {te te2 : TE} {k : Nat}
theorem ps_raise1 (hc : X.calm = true) (tk : L2N.Takes X W) (T : ExI X.prog X.w X.K X.mg X.base k x [f] ["self", f] (spIni1 X.K x f)) (hr : Room (k + 1) X.A) (he : PE X e te) (hg : Gl X x := by rfl) (hdb : (x == ("__debug__" : Str)) = false := by decide)
    (hs : starEach [e] X.env = (false, eval e X.env) :: starEach [] X.env := by rfl) (hpl : (backTo pos (starEach [] X.env)).any (·.1) = false := by rfl) :
    PS X (.Raise (some (.Call (.Name x p) [e] [] pos)) none pos2) (tRaise1 X.K x f W te) := by
  obtain ⟨fd, F, b⟩ := T.F
  have h0 := L2N.ps_raise (pos := pos2) hc tk (mkN (p := p) (pos := pos) T.T.o T.T.i T.T.t F hr b pass0 hg T.g (pa_cons he pa_nil hs) hdb hs hpl)
  exact ⟨fun pins s σ H D I h => h0.run pins s σ H D I h⟩
theorem ps_raise2 (hc : X.calm = true) (tk : L2N.Takes X W) (T : ExI X.prog X.w X.K X.mg X.base k x [f, g] ["self", f, g] (spIni2 X.K x f g)) (hr : Room (k + 1) X.A) (he : PE X e te) (he2 : PE X e2 te2) (hg : Gl X x := by rfl) (hdb : (x == ("__debug__" : Str)) = false := by decide)
    (hs : starEach [e, e2] X.env = (false, eval e X.env) :: starEach [e2] X.env := by rfl) (hs2 : starEach [e2] X.env = (false, eval e2 X.env) :: starEach [] X.env := by rfl) (hpl : (backTo pos (starEach [e2] X.env)).any (·.1) = false := by rfl) :
    PS X (.Raise (some (.Call (.Name x p) [e, e2] [] pos)) none pos2) (tRaise2 X.K x f g W te te2) := by
  obtain ⟨fd, F, b⟩ := T.F
  have h0 := L2N.ps_raise (pos := pos2) hc tk (mkN (p := p) (pos := pos) T.T.o T.T.i T.T.t F hr b pass0 hg T.g (pa_cons he (pa_cons he2 pa_nil hs2) hs) hdb hs hpl)
  exact ⟨fun pins s σ H D I h => h0.run pins s σ H D I h⟩
end
theorem rd_mk1 {K : PySem.W.Frag} {x f : Str} {W : WX} {σ : L2.St} {v : V} {H : Hp} (q : ∀ d, H d = none → W (.ref (ga K x)) (some d) σ (upd H d (.xd [(f, v)]))) : mk1 K x f W σ v H := by
  refine ⟨by show 1 ≤ 1000; decide, fun a ha => ?_⟩
  refine ⟨a, v, rfl, upd_same, fun d hd ne => ⟨rfl, d, [(f, v)], upd_same, ?_, none_up hd ne, ?_⟩⟩
  · rw [upd_ne ne, upd_same]
  · rw [heap_back1 (C := a) ha hd ne]
    exact q d (none_up hd ne)
theorem rd_mk2 {K : PySem.W.Frag} {x f g : Str} {W : WX} {σ : L2.St} {v w : V} {H : Hp} (q : ∀ d, H d = none → W (.ref (ga K x)) (some d) σ (upd H d (.xd [(g, w), (f, v)]))) : mk2 K x f g W σ v w H := by
  refine ⟨by show 2 ≤ 1000; decide, fun a ha => ?_⟩
  refine ⟨a, v, w, rfl, upd_same, fun d hd ne => ⟨rfl, d, [(g, w), (f, v)], ?_, upd_same, none_up hd ne, ?_⟩⟩
  · rw [upd_ne (Ne.symm ne), upd_same]
  · rw [heap_back2 (C := a) ha hd ne]
    exact q d (none_up hd ne)
/-! ### calls where an exception is handled -/
structure HasH (P : Program) (w : World) (K : PySem.W.Frag) (mg : Str → Option Value) (base : Heap) (k : Nat) (x : Str) (ps : List Str) (sp : Sp) : Prop where
  ex : ∃ fd, L2H.FnH P w K mg base CX0 k (ga K x) fd ps sp ∧ Binds K fd ps []
  gl : mg x = some (.ref (ga K x))
  kp : PySem.W.keepIn K (.ref (ga K x)) = true
section
variable {X : Cx} {k j : Nat} {x : Str} {ps : List Str} {sp : Sp} {t : TA} {p pos : Pos} {e : Expr} {es : List Expr} {a : Addr} {oe : Obj} {cls : Value} {d : Option Addr} {pn : List (Addr × Obj)}
theorem hot_of (hz : L2N.Zn cls d oe) (hf : ∃ vs, oe.data = .fields vs) : L2H.HotC (X.suite a ((a, oe) :: pn)) := by
  obtain ⟨vs, hd⟩ := hf
  exact ⟨(a, oe), ⟨rfl, vs, hd, hz.2.2 vs hd⟩, List.mem_cons_self⟩
theorem pe_HH (h : HasH X.prog X.w X.K X.mg X.base k x ps sp) (hz : L2N.Zn cls d oe) (hf : ∃ vs, oe.data = .fields vs) (hr : Room j X.A) (hj : k ≤ j) (ha : PA (X.suite a ((a, oe) :: pn)) (e :: es) t) (hg : Gl X x := by rfl) (hdb : (x == ("__debug__" : Str)) = false := by decide)
    (he : starEach (e :: es) X.env = (false, eval e X.env) :: starEach es X.env := by rfl) (hpl : (backTo pos (starEach es X.env)).any (·.1) = false := by rfl) :
    PE (X.suite a ((a, oe) :: pn)) (.Call (.Name x p) (e :: es) [] pos) (tCallS sp (WE fun _ _ _ _ => False) t) := by
  obtain ⟨fd, F, b⟩ := h.ex
  exact L2H.pe_callH (X := X.suite a ((a, oe) :: pn)) (CX := CX0) F (L2H.roomH_mark (hr.mono hj) _) (hot_of hz hf) hg h.gl h.kp b (fun σ _ _ _ _ _ _ no => False.elim no) ha hdb he hpl
/-- a statement that is never reached -/
theorem ps_dead {s : Stmt} : PS X s (fun _ _ _ => False) := ⟨fun _ _ _ _ _ _ no => False.elim no⟩
end
end Lw

set_option Elab.async false
set_option linter.all false
set_option maxRecDepth 100000
set_option maxHeartbeats 2000000
namespace Lw
open PySem PySem.Spec PyProof.Rows L2 He
/-! ### kinds of things -/
def kinds : List String := ["NoneType", "bool", "int", "str", "list", "tuple", "dict"]
def isTab (n T : String) : Bool := n == T || (n == "bool" && T == "int")
theorem isTab_ok : ∀ n ∈ kinds, ∀ T ∈ kinds, kitB n T = some (isTab n T) := by decide +kernel
/-- a thing of a kind -/
structure Th (K : PySem.W.Frag) (H : Hp) (x : V) (n : String) : Prop where
  t : TyX K H x (.type n)
  k : n ∈ kinds
abbrev Thg (K : PySem.W.Frag) (H : Hp) (x : V) : Prop := ∃ n, Th K H x n
theorem th_int {K : PySem.W.Frag} {H : Hp} (i : Int) : Th K H (.int i) "int" := ⟨.base (.int i), by decide⟩
theorem th_bl {K : PySem.W.Frag} {H : Hp} (b : Bool) : Th K H (.bl b) "bool" := ⟨.base (.bl b), by decide⟩
theorem th_non {K : PySem.W.Frag} {H : Hp} : Th K H .non "NoneType" := ⟨.base .non, by decide⟩
theorem th_str {K : PySem.W.Frag} {H : Hp} (x : Str) : Th K H (.str x) "str" := ⟨.base (.str x), by decide⟩
theorem th_lst {K : PySem.W.Frag} {H : Hp} {a : Addr} {xs : List V} (h : H a = some (.lst xs)) : Th K H (.ref a) "list" := ⟨.base (.lst h), by decide⟩
theorem th_tup {K : PySem.W.Frag} {H : Hp} {a : Addr} {xs : List V} (h : H a = some (.tup xs)) : Th K H (.ref a) "tuple" := ⟨.base (.tup h), by decide⟩
theorem th_dK {K : PySem.W.Frag} {H : Hp} {a : Addr} {xs : List (Key × V)} (h : H a = some (.dK xs)) : Th K H (.ref a) "dict" := ⟨.base (.dK h), by decide⟩
/-- a whole number from lo to hi -/
def wholeV (lo hi : Int) : V → Bool
  | .int i => decide (lo ≤ i) && decide (i ≤ hi)
  | _ => false
def rIsT (K : PySem.W.Frag) : List V → Hp → VK → Prop := fun xs H Q => ∃ (x : V) (T n : String), xs = [x, .ty T] ∧ Th K H x n ∧ T ∈ kinds ∧ Q (.bl (isTab n T)) H
section
variable {X : Cx}
theorem call_isT : CallR X (.builtin "isinstance") (rIsT X.K) := by
  intro pins s σ H xs us Q I r h
  obtain ⟨x, T, n, rfl, th, hT, q⟩ := h
  exact call_isi pins s σ H _ us Q I r ⟨x, .ty T, _, _, _, rfl, .ty T, th.t, kit_ty (isTab_ok n th.k T hT), q⟩
end
/-! ### readings, step by step -/
section
variable {K : PySem.W.Frag} {σ : L2.St} {H : Hp} {D : Ends} {Q : VK} {v x y z : V} {ta tb tc te : TE} {t u : TS} {c d : TT} {r r' : R2} {i : Nat} {a : Addr} {QB : Bool → Hp → Prop} {b : Bool}
theorem rd_seq (h : t { D with nx := u D } σ H) : tSeq t u D σ H := h
theorem rd_asg (h : te σ H fun x H1 => D.nx (σ.set i (some x)) H1) : tAsg te (gName i) D σ H := h
theorem rd_ret (h : te σ H D.rt) : tRet te D σ H := h
theorem rd_next (h : D.nx σ H) : tNext D σ H := h
theorem rd_drop (h : te σ H fun _ H1 => D.nx σ H1) : tDrop te D σ H := h
theorem rd_if (h : c σ H fun b H1 => (b = true → t D σ H1) ∧ (b = false → u D σ H1)) : tIfS c t u D σ H := by
  have e : (fun (b : Bool) (H1 : Hp) => if b = true then t D σ H1 else u D σ H1) = fun b H1 => (b = true → t D σ H1) ∧ (b = false → u D σ H1) := by
    funext b H1
    cases b
    · show (if false = true then t D σ H1 else u D σ H1) = _
      rw [if_neg Bool.false_ne_true]
      exact propext ⟨fun h => ⟨(fun z => nomatch z), fun _ => h⟩, fun h => h.2 rfl⟩
    · show (if true = true then t D σ H1 else u D σ H1) = _
      rw [if_pos rfl]
      exact propext ⟨fun h => ⟨fun _ => h, (fun z => nomatch z)⟩, fun h => h.1 rfl⟩
  show c σ H (fun b H1 => if b = true then t D σ H1 else u D σ H1)
  rw [e]
  exact h
theorem rd_ifE (h : c σ H fun b H1 => (b = true → ta σ H1 Q) ∧ (b = false → tb σ H1 Q)) : tIf c ta tb σ H Q := by
  have e : (fun (b : Bool) (H1 : Hp) => if b = true then ta σ H1 Q else tb σ H1 Q) = fun b H1 => (b = true → ta σ H1 Q) ∧ (b = false → tb σ H1 Q) := by
    funext b H1
    cases b
    · show (if false = true then _ else _) = _
      rw [if_neg Bool.false_ne_true]
      exact propext ⟨fun h => ⟨(fun z => nomatch z), fun _ => h⟩, fun h => h.2 rfl⟩
    · show (if true = true then _ else _) = _
      rw [if_pos rfl]
      exact propext ⟨fun h => ⟨fun _ => h, (fun z => nomatch z)⟩, fun h => h.1 rfl⟩
  show c σ H (fun b H1 => if b = true then ta σ H1 Q else tb σ H1 Q)
  rw [e]
  exact h
theorem rd_var (h : σ[i]? = some (some v)) (q : Q v H) : tVar i σ H Q := ⟨v, h, q⟩
theorem rd_c (q : Q v H) : tC v σ H Q := q
theorem rd_op (h : ta σ H fun x H1 => tb σ H1 fun y H2 => r x y H2 Q) : tOp r ta tb σ H Q := h
theorem rd_chain (h : ta σ H fun x H1 => tb σ H1 fun y H2 => r x y H2 fun z H3 => ∃ k, z = .bl k ∧ (k = true → tc σ H3 fun w H4 => r' y w H4 Q) ∧ (k = false → Q (.bl false) H3)) : tChain r r' ta tb tc σ H Q := by
  have e : ∀ (y : V), (fun (z : V) (H3 : Hp) => ∃ k, z = .bl k ∧ if k = true then tc σ H3 fun w H4 => r' y w H4 Q else Q (.bl false) H3) = fun z H3 => ∃ k, z = .bl k ∧ (k = true → tc σ H3 fun w H4 => r' y w H4 Q) ∧ (k = false → Q (.bl false) H3) := by
    intro y
    funext x H1
    refine propext ⟨fun ⟨k, e, h⟩ => ⟨k, e, ?_⟩, fun ⟨k, e, h⟩ => ⟨k, e, ?_⟩⟩
    · cases k
      · exact ⟨(fun z => nomatch z), fun _ => by rw [if_neg Bool.false_ne_true] at h; exact h⟩
      · exact ⟨fun _ => by rw [if_pos rfl] at h; exact h, (fun z => nomatch z)⟩
    · cases k
      · rw [if_neg Bool.false_ne_true]; exact h.2 rfl
      · rw [if_pos rfl]; exact h.1 rfl
  show ta σ H (fun x H1 => tb σ H1 fun y H2 => r x y H2 fun z H3 => ∃ k, z = .bl k ∧ (if k = true then tc σ H3 fun w H4 => r' y w H4 Q else Q (.bl false) H3))
  simp only [e]
  exact h
theorem rd_I0 {g : Int → Int → V} {m n : Int} (q : Q (g m n) H) : rI0 g (.int m) (.int n) H Q := ⟨m, n, rfl, rfl, q⟩
theorem rd_I {C : Int → Int → Prop} {g : Int → Int → V} {m n : Int} (hc : C m n) (q : Q (g m n) H) : rI C g (.int m) (.int n) H Q := ⟨m, n, rfl, rfl, hc, q⟩
theorem rd_test (h : te σ H fun x H1 => ∃ k, x = .bl k ∧ QB k H1) : tTest te σ H QB := h
theorem rd_B (h : te σ H fun x H1 => ∃ k, x = .bl k ∧ QB k H1) : tB te σ H QB := h
theorem rd_bl {P : Bool → Prop} (q : P b) : ∃ k, V.bl b = .bl k ∧ P k := ⟨b, rfl, q⟩
theorem rd_not (h : c σ H fun b H1 => QB (!b) H1) : tNot c σ H QB := h
theorem rd_and (h : c σ H fun b H1 => (b = true → d σ H1 QB) ∧ (b = false → QB false H1)) : tAnd c d σ H QB := by
  have e : (fun (b : Bool) (H1 : Hp) => if b = true then d σ H1 QB else QB false H1) = fun b H1 => (b = true → d σ H1 QB) ∧ (b = false → QB false H1) := by
    funext b H1
    cases b
    · show (if false = true then _ else _) = _
      rw [if_neg Bool.false_ne_true]
      exact propext ⟨fun h => ⟨(fun z => nomatch z), fun _ => h⟩, fun h => h.2 rfl⟩
    · show (if true = true then _ else _) = _
      rw [if_pos rfl]
      exact propext ⟨fun h => ⟨fun _ => h, (fun z => nomatch z)⟩, fun h => h.1 rfl⟩
  show c σ H (fun b H1 => if b = true then d σ H1 QB else QB false H1)
  rw [e]
  exact h
theorem rd_or (h : c σ H fun b H1 => (b = true → QB true H1) ∧ (b = false → d σ H1 QB)) : tOr c d σ H QB := by
  have e : (fun (b : Bool) (H1 : Hp) => if b = true then QB true H1 else d σ H1 QB) = fun b H1 => (b = true → QB true H1) ∧ (b = false → d σ H1 QB) := by
    funext b H1
    cases b
    · show (if false = true then _ else _) = _
      rw [if_neg Bool.false_ne_true]
      exact propext ⟨fun h => ⟨(fun z => nomatch z), fun _ => h⟩, fun h => h.2 rfl⟩
    · show (if true = true then _ else _) = _
      rw [if_pos rfl]
      exact propext ⟨fun h => ⟨fun _ => h, (fun z => nomatch z)⟩, fun h => h.1 rfl⟩
  show c σ H (fun b H1 => if b = true then QB true H1 else d σ H1 QB)
  rw [e]
  exact h
theorem rd_andV (h : ta σ H fun x H1 => ∃ k, x = .bl k ∧ (k = true → tb σ H1 Q) ∧ (k = false → Q (.bl false) H1)) : tAndV ta tb σ H Q := by
  have e : (fun (x : V) (H1 : Hp) => ∃ k, x = .bl k ∧ if k = true then tb σ H1 Q else Q (.bl false) H1) = fun x H1 => ∃ k, x = .bl k ∧ (k = true → tb σ H1 Q) ∧ (k = false → Q (.bl false) H1) := by
    funext x H1
    refine propext ⟨fun ⟨k, e, h⟩ => ⟨k, e, ?_⟩, fun ⟨k, e, h⟩ => ⟨k, e, ?_⟩⟩
    · cases k
      · exact ⟨(fun z => nomatch z), fun _ => by rw [if_neg Bool.false_ne_true] at h; exact h⟩
      · exact ⟨fun _ => by rw [if_pos rfl] at h; exact h, (fun z => nomatch z)⟩
    · cases k
      · rw [if_neg Bool.false_ne_true]; exact h.2 rfl
      · rw [if_pos rfl]; exact h.1 rfl
  show ta σ H (fun x H1 => ∃ k, x = .bl k ∧ if k = true then tb σ H1 Q else Q (.bl false) H1)
  rw [e]
  exact h
theorem rd_orV (h : ta σ H fun x H1 => ∃ k, x = .bl k ∧ (k = true → Q (.bl true) H1) ∧ (k = false → tb σ H1 Q)) : tOrV ta tb σ H Q := by
  have e : (fun (x : V) (H1 : Hp) => ∃ k, x = .bl k ∧ if k = true then Q (.bl true) H1 else tb σ H1 Q) = fun x H1 => ∃ k, x = .bl k ∧ (k = true → Q (.bl true) H1) ∧ (k = false → tb σ H1 Q) := by
    funext x H1
    refine propext ⟨fun ⟨k, e, h⟩ => ⟨k, e, ?_⟩, fun ⟨k, e, h⟩ => ⟨k, e, ?_⟩⟩
    · cases k
      · exact ⟨(fun z => nomatch z), fun _ => by rw [if_neg Bool.false_ne_true] at h; exact h⟩
      · exact ⟨fun _ => by rw [if_pos rfl] at h; exact h, (fun z => nomatch z)⟩
    · cases k
      · rw [if_neg Bool.false_ne_true]; exact h.2 rfl
      · rw [if_pos rfl]; exact h.1 rfl
  show ta σ H (fun x H1 => ∃ k, x = .bl k ∧ if k = true then Q (.bl true) H1 else tb σ H1 Q)
  rw [e]
  exact h
theorem rd_notV (h : ta σ H fun x H1 => ∃ k, x = .bl k ∧ Q (.bl (!k)) H1) : tNotV ta σ H Q := h
theorem rd_cons {tr : TA} {QA : List V → Hp → Prop} (h : ta σ H fun x H1 => tr σ H1 fun xs H2 => QA (x :: xs) H2) : tCons ta tr σ H QA := h
theorem rd_nil {QA : List V → Hp → Prop} (h : QA [] H) : tNil σ H QA := h
theorem rd_CB {rr : List V → Hp → VK → Prop} {tA : TA} (h : tA σ H fun vs H1 => rr vs H1 Q) : tCB rr tA σ H Q := h
theorem rd_callS {sp : Sp} {W : WX} {tA : TA} (h : tA σ H fun vs H1 => sp vs H1 Q (fun cls d H => W cls d σ H)) : tCallS sp (WE W) tA σ H Q := h
theorem rd_raise0 {n : Str} {W : WX} (h : W (.ref (ga K n)) none σ H) : tRaise0 K n W D σ H := h
theorem rd_raise1 {n f : Str} {W : WX} (h : te σ H fun v H1 => mk1 K n f W σ v H1) : tRaise1 K n f W te D σ H := h
theorem rd_raise2 {n f g : Str} {W : WX} (h : ta σ H fun v H1 => tb σ H1 fun w H2 => mk2 K n f g W σ v w H2) : tRaise2 K n f g W ta tb D σ H := h
theorem rd_isT {T n : String} (th : Th K H x n) (hT : T ∈ kinds) (q : Q (.bl (isTab n T)) H) : rIsT K [x, .ty T] H Q := ⟨x, T, n, rfl, th, hT, q⟩
theorem rd_eq (hs : scal x y = true) (q : Q (.bl (decide (x = y))) H) : rEq x y H Q := ⟨hs, q⟩
theorem rd_ne (hs : scal x y = true) (q : Q (.bl (!decide (x = y))) H) : rNe x y H Q := ⟨hs, q⟩
theorem rd_tup {tA : TA} (h : tA σ H fun xs H1 => xs.length ≤ sizeLine ∧ ∀ p, H1 p = none → Q (.ref p) (upd H1 p (.tup xs))) : tTup tA σ H Q := h
theorem rd_lst {tA : TA} (h : tA σ H fun xs H1 => xs.length ≤ sizeLine ∧ ∀ p, H1 p = none → Q (.ref p) (upd H1 p (.lst xs))) : tLst tA σ H Q := h
end
theorem whole_not {lo hi : Int} : ∀ {x : V}, (∀ i, x ≠ .int i) → wholeV lo hi x = false
  | .int i, h => absurd rfl (h i)
  | .non, _ => rfl
  | .bl _, _ => rfl
  | .str _, _ => rfl
  | .byt _, _ => rfl
  | .flt _, _ => rfl
  | .ref _, _ => rfl
  | .ty _, _ => rfl
theorem th_cases {K : PySem.W.Frag} {H : Hp} {x : V} {n : String} (th : Th K H x n) : (isTab n "int" = true ∧ isTab n "bool" = false ∧ ∃ i, x = .int i) ∨
    ((isTab n "int" = false ∨ isTab n "bool" = true) ∧ ∀ lo hi, wholeV lo hi x = false) := by
  obtain ⟨t, k⟩ := th
  have key : ∀ m ∈ kinds, m ≠ "int" → isTab m "int" = false ∨ isTab m "bool" = true := by decide
  by_cases e : n = "int"
  · subst e
    refine .inl ⟨by decide, by decide, ?_⟩
    generalize hz : (Value.type "int") = z at t
    cases t with
    | base h => cases h <;> first | exact ⟨_, rfl⟩ | exact absurd (Value.type.inj hz) (by decide) | cases hz
    | byt b => exact absurd (Value.type.inj hz) (by decide)
    | set e => exact absurd (Value.type.inj hz) (by decide)
    | kList e c => exact absurd (Value.type.inj hz) (by decide)
    | kTuple e c => exact absurd (Value.type.inj hz) (by decide)
    | kDict e c => exact absurd (Value.type.inj hz) (by decide)
    | fTuple e => exact absurd (Value.type.inj hz) (by decide)
    | fDict e => exact absurd (Value.type.inj hz) (by decide)
  · refine .inr ⟨key n k e, fun lo hi => whole_not fun i q => ?_⟩
    subst q
    generalize hz : (Value.type n) = z at t
    cases t with
    | base h =>
      cases h
      exact e (Value.type.inj hz)
end Lw

set_option Elab.async false
set_option linter.all false
set_option maxRecDepth 100000
set_option maxHeartbeats 2000000
namespace Lw
open PySem PySem.Spec PyProof.Rows L2 He
/-- the binary digits as signs -/
def binL (n : Nat) : List Nat := (Nat.toDigits 2 n).map fun c => c.toNat
def binS (n : Nat) : Str := ⟨(binL n).toArray⟩
def padL (ds : List Nat) : Nat := ((-1 : Int) - ((((0 : Nat) : Int)) + (((0 : Nat) : Int)) + (((0 : Nat) : Int))) - (ds.length : Int)).toNat
def fillL (digits : List Nat) : List Nat := if digits.isEmpty then [] else List.replicate ((0 : Int).toNat - digits.length) 48 ++ digits
def rawS (digits : List Nat) : Str := ⟨(List.replicate (padL (fillL digits)) 32 ++ [] ++ [] ++ List.replicate 0 32 ++ fillL digits ++ [] ++ List.replicate 0 32).toArray⟩
theorem raw_eq (digits : List Nat) : rawS digits = ⟨digits.toArray⟩ := by
  have e1 : fillL digits = digits := by
    unfold fillL
    cases digits with
    | nil => rfl
    | cons a l => simp
  have e2 : padL digits = 0 := by
    unfold padL
    omega
  unfold rawS
  rw [e1, e2]
  simp
theorem fmt_b (n : Nat) (t u : Tok) : Builtin.«int.__format__» ⟨[.int (n : Int) t, .str "b" u], []⟩ = (do let _kind ← typeNameOf (.str "b" u); (do let name ← typeNameOfCut 200 (.int (n : Int) t); retStr (rawS (binL n)))) := by kernel_rfl
theorem gives_int_b (n : Nat) (t u : Tok) : Gives (Builtin.«int.__format__» ⟨[.int (n : Int) t, .str "b" u], []⟩) (.str (binS n)) := by
  have e : binS n = rawS (binL n) := (raw_eq _).symm
  rw [e, fmt_b]
  intro prog w A R s hq
  refine wpAny_bind (wpAny_typeNameOf (typeIs_str _ _ _) (by decide) fun _ => ?_)
  refine wpAny_bind (wpAny_typeNameOfCut_int ?_)
  exact (Gives.of_eq (m := .str (rawS (binL n))) rfl) prog w A R s hq
def tFmtB (te : TE) : TE := fun σ H Q => te σ H fun x H1 => ∃ n : Nat, x = .int (n : Int) ∧ (binS n).length ≤ sizeLine ∧ Q (.str (binS n)) H1
section
variable {X : Cx} {e : Expr} {te : TE} {pos p2 p3 : Pos} {k : Nat}
theorem pe_fmtB (he : PE X e te) : PE X (.FormattedValue e (-1) (some (.JoinedStr [.Constant (.str "b") k p2] p3)) pos) (tFmtB te) := by
  refine ⟨fun pins s σ H Q I h => ?_⟩
  refine wpAny_FormattedValue_spec (thn (he.run pins s σ H _ I h) fun v s1 hv => ?_)
  obtain ⟨x, H1, I1, r1, n, rfl, hz, q⟩ := hv
  obtain ⟨t, rfl⟩ := r1
  refine wpAny_JoinedStr_one (thn ((pe_str (X := X) (x := "b")).run pins s1 σ H1 (fun v H2 => v = .str "b" ∧ H1 = H2) I1 ⟨rfl, rfl⟩) fun v s2 hv => ?_)
  obtain ⟨y, H2, I2, r2, ey, eH⟩ := hv
  subst ey eH
  obtain ⟨t2, rfl⟩ := r2
  refine ⟨_, _, rfl, ?_⟩
  exact wpAny_formatField_spec (by decide) (fun s' => typeIs_int s' _ _) PySem.F.slot_int_format PySem.F.entry_int_format PySem.F.args_int_format_2 (fun u => gives_int_b n t u) ⟨.str (binS n), H1, I2.tok _, ⟨_, rfl⟩, q⟩ (by size_fits) hz
end
/-- how many of the bits are 1 -/
def onesN (n : Nat) : Nat := (binL n).count 49
end Lw

set_option Elab.async false
set_option linter.all false
set_option maxRecDepth 100000
set_option maxHeartbeats 2000000
namespace Lw
open PySem PySem.Spec PyProof.Rows L2 He
theorem sub_one (x : Str) (c k : Nat) (hk : k < x.cps.toList.length) : Builtin.Str.subAt x ⟨#[c]⟩ k = (x.cps.toList[k] == c) := by
  rw [StrLaws.subAt_eq]
  show (List.take 1 (List.drop k x.cps.toList) == [c]) = _
  have e : List.drop k x.cps.toList = x.cps.toList[k] :: List.drop (k + 1) x.cps.toList := List.drop_eq_getElem_cons hk
  rw [e]
  simp
theorem occ_run (x : Str) (c : Nat) : ∀ (m k : Nat) (st : Array Nat × Nat), k + m = x.cps.toList.length → st.fst.size ≤ k → st.snd ≤ k →
    (forIn (List.range' k (m + 1)) st (StrLaws.occBody x ⟨#[c]⟩ x.length (x.length + 1))).run.fst.size = st.fst.size + (x.cps.toList.drop k).count c
  | 0, k, st, hk, h1, h2 => by
    have hl : x.length = x.cps.toList.length := by simp [Str.length]
    have e : x.cps.toList.drop k = [] := List.drop_eq_nil_of_le (by omega)
    have e1 : List.range' k (0 + 1) = [k] := rfl
    rw [e, e1, List.forIn_cons]
    unfold StrLaws.occBody
    rw [if_neg (fun z => by have := z.1.2; simp [Str.length] at this; simp at hk; omega)]
    simp
  | m + 1, k, st, hk, h1, h2 => by
    have hl : x.length = x.cps.toList.length := by simp [Str.length]
    have hlt : k < x.cps.toList.length := by omega
    have e1 : List.range' k (m + 1 + 1) = k :: List.range' (k + 1) (m + 1) := rfl
    have e : List.drop k x.cps.toList = x.cps.toList[k] :: List.drop (k + 1) x.cps.toList := List.drop_eq_getElem_cons hlt
    rw [e, e1, List.forIn_cons, List.count_cons]
    by_cases hc : (x.cps.toList[k] == c) = true
    · have hb : StrLaws.occBody x ⟨#[c]⟩ x.length (x.length + 1) k st = pure (ForInStep.yield (st.fst.push k, k + 1)) := by
        unfold StrLaws.occBody
        rw [if_pos ⟨⟨⟨by omega, h2⟩, by show k + 1 ≤ x.length; omega⟩, by rw [sub_one x c k hlt]; exact hc⟩]
        rfl
      rw [hb]
      have ih := occ_run x c m (k + 1) (st.fst.push k, k + 1) (by omega) (by simp; omega) (Nat.le_refl _)
      show (forIn (List.range' (k + 1) (m + 1)) (st.fst.push k, k + 1) (StrLaws.occBody x ⟨#[c]⟩ x.length (x.length + 1))).run.fst.size = _
      rw [ih, if_pos hc]
      simp
      omega
    · have hb : StrLaws.occBody x ⟨#[c]⟩ x.length (x.length + 1) k st = pure (ForInStep.yield (st.fst, st.snd)) := by
        unfold StrLaws.occBody
        rw [if_neg]
        rintro ⟨_, z⟩
        rw [sub_one x c k hlt] at z
        exact hc z
      rw [hb]
      have ih := occ_run x c m (k + 1) (st.fst, st.snd) (by omega) (by show st.fst.size ≤ k + 1; omega) (by show st.snd ≤ k + 1; omega)
      show (forIn (List.range' (k + 1) (m + 1)) (st.fst, st.snd) (StrLaws.occBody x ⟨#[c]⟩ x.length (x.length + 1))).run.fst.size = _
      rw [ih, if_neg hc]
      show st.fst.size + _ = st.fst.size + (_ + 0)
      omega
theorem count_one (x : Str) (c : Nat) : Txt.count x ⟨#[c]⟩ = ((x.cps.toList.count c : Nat) : Int) := by
  unfold Txt.count
  have hl : x.length = x.cps.toList.length := by simp [Str.length]
  have e := occ_run x c x.cps.toList.length 0 (#[], 0) (by omega) (Nat.zero_le _) (Nat.zero_le _)
  rw [StrLaws.occ_eq, Array.length_toList]
  have e2 : x.length + 1 - 0 = x.cps.toList.length + 1 := by omega
  rw [e2, e]
  simp
theorem count_bin (n : Nat) : Txt.count (binS n) "1" = ((onesN n : Nat) : Int) := by
  have e : ("1" : Str) = ⟨#[49]⟩ := by decide +kernel
  rw [e, count_one]
  rfl
theorem binL_len (n : Nat) {k : Nat} (hk : 0 < k) (h : n < 2 ^ k) : (binS n).length ≤ k := by
  show (binL n).toArray.size ≤ k
  unfold binL
  simp only [List.size_toArray, List.length_map]
  exact (Nat.length_toDigits_le_iff (by decide) hk).mpr h
end Lw

set_option Elab.async false
set_option linter.all false
set_option maxRecDepth 100000
set_option maxHeartbeats 2000000
namespace Lw
open PySem PySem.Spec PyProof.Rows L2 He Evl
section
variable {K : PySem.W.Frag} {σ : L2.St} {H : Hp} {D : Ends} {Q : VK} {v x y z : V} {ta tb tc te : TE} {t u : TS} {c d : TT} {r r' : R2} {i : Nat} {a : Addr} {QB : Bool → Hp → Prop} {b : Bool}
theorem rd_fmtB (h : te σ H fun x H1 => ∃ n : Nat, x = .int (n : Int) ∧ (binS n).length ≤ sizeLine ∧ Q (.str (binS n)) H1) : tFmtB te σ H Q := h
theorem rd_M1 {rr : V → List V → Hp → VK → Prop} (h : ta σ H fun x H1 => (∃ a, x = .str a) ∧ te σ H1 fun y H2 => rr x [y] H2 Q) : tM1 rr ta te σ H Q := h
theorem rd_un {rr : V → Hp → VK → Prop} (h : ta σ H fun x H1 => rr x H1 Q) : tUn rr ta σ H Q := h
/-- the heap behind is the heap ahead and more -/
theorem ex_upd {H : Hp} {p : Addr} {o : HO} (h : H p = none) : Ex H (upd H p o) := Ex.new h
/-- a comprehension over range(n), its steps seen from the heap ahead of it -/
theorem lc_rng {n : Nat} {j : Nat} {vs : List Nat} {tt : TT} (f : Nat → Bool) (g : Nat → V) (hn : n ≤ 40000) (hw : ∀ x, wipe ((wipe σ vs).set j (some x)) vs = wipe σ vs)
    (ht : ∀ (i : Nat) H1, Ex H H1 → i < n → EvT tt ((wipe σ vs).set j (some (.int (i : Int)))) H1 (f i)) (he : ∀ (i : Nat) H1, Ex H H1 → i < n → f i = true → Ev te ((wipe σ vs).set j (some (.int (i : Int)))) H1 (g i))
    (q : ∀ p H', H p = none → Ex H H' → H' p = some (.lst (given n f g)) → Q (.ref p) H') : tLc (iRng1 (tCons (tC (.int (n : Int))) tNil)) (gName j) tt te vs σ H Q := by
  have e := el_lcR1 (σ := σ) (H := H) (ta := tCons (tC (.int (n : Int))) tNil) (j := j) (vs := vs) (n := (n : Int)) (t := tt) (te := te) f g (ea_cons ev_c ea_nil) ⟨by omega, by omega⟩ hw
    (fun i H1 e hi => ht i H1 e (by omega)) (fun i H1 e hi hf => he i H1 e (by omega) hf)
  have en : ((n : Int)).toNat = n := by simp
  rw [en] at e
  exact e H (Ex.refl H) Q fun p H2 hp e2 h2 => q p H2 hp e2 h2
theorem lc_tupT {Qd : Addr → Hp → Prop} {xs : List V} {j : Nat} {vs : List Nat} {tt : TT} (f : Nat → Bool) (g : Nat → V) (hx : SqT K H a xs) (hz : xs.length ≤ 40000) (hw : ∀ x, wipe ((wipe σ vs).set j (some x)) vs = wipe σ vs)
    (ht : ∀ (i : Nat) (x : V) H1, Ex H H1 → xs[i]? = some x → EvT tt ((wipe σ vs).set j (some x)) H1 (f i)) (he : ∀ (i : Nat) (x : V) H1, Ex H H1 → xs[i]? = some x → f i = true → Ev te ((wipe σ vs).set j (some x)) H1 (g i))
    (q : ∀ p H', H p = none → Ex H H' → H' p = some (.lst (given xs.length f g)) → Qd p H') :
    ∀ D, H D = none → ∃ W : Nat → Nat → Hp → Prop, (∃ m, W 0 m (upd H D (.lst []))) ∧ ∀ i m H, W i m H → ((Itt K a).stop i H ∧ Qd D H) ∨ ((Itt K a).go i H ∧ ∃ Nx : Hp → Prop, (∀ H', Nx H' → ∃ m', m' < m ∧ W (i + 1) m' H') ∧
      ∀ x H', (Itt K a).yld i H x H' → gName j x (wipe σ vs) H' fun σ2 H2 => wipe σ2 vs = wipe σ vs ∧ tt σ2 H2 fun b H3 => if b = true then te σ2 H3 fun y H4 => ∃ acc, H4 D = some (.lst acc) ∧ acc.length < sizeLine ∧ Nx (upd H4 D (.lst (acc ++ [y]))) else Nx H3) := fun Dl hD =>
  lc_tup (xs := xs) (Cw H f g Dl) ⟨hD, Ex.new hD, upd_same⟩ (fun i H' _ p => ex_t p.2.1 hx) (fun i x H' hi p => ⟨hw x, cw_turn p (by have := (List.getElem?_eq_some_iff.mp hi).1; omega) (ht i x H (Ex.refl H) hi) (fun hf => he i x H (Ex.refl H) hi hf)⟩)
    (fun H' p => q Dl H' p.1 p.2.1 p.2.2)
theorem lc_rngT {Qd : Addr → Hp → Prop} {lo : Int} {n j : Nat} {vs : List Nat} {tt : TT} (f : Nat → Bool) (g : Nat → V) (hz : n ≤ 40000) (hw : ∀ x, wipe ((wipe σ vs).set j (some x)) vs = wipe σ vs)
    (ht : ∀ (i : Nat) H1, Ex H H1 → i < n → EvT tt ((wipe σ vs).set j (some (.int (lo + (i : Int))))) H1 (f i)) (he : ∀ (i : Nat) H1, Ex H H1 → i < n → f i = true → Ev te ((wipe σ vs).set j (some (.int (lo + (i : Int))))) H1 (g i))
    (q : ∀ p H', H p = none → Ex H H' → H' p = some (.lst (given n f g)) → Qd p H') :
    ∀ D, H D = none → ∃ W : Nat → Nat → Hp → Prop, (∃ m, W 0 m (upd H D (.lst []))) ∧ ∀ i m H, W i m H → ((Itr lo n).stop i H ∧ Qd D H) ∨ ((Itr lo n).go i H ∧ ∃ Nx : Hp → Prop, (∀ H', Nx H' → ∃ m', m' < m ∧ W (i + 1) m' H') ∧
      ∀ x H', (Itr lo n).yld i H x H' → gName j x (wipe σ vs) H' fun σ2 H2 => wipe σ2 vs = wipe σ vs ∧ tt σ2 H2 fun b H3 => if b = true then te σ2 H3 fun y H4 => ∃ acc, H4 D = some (.lst acc) ∧ acc.length < sizeLine ∧ Nx (upd H4 D (.lst (acc ++ [y]))) else Nx H3) := fun Dl hD =>
  lc_range (lo := lo) (n := n) (Cw H f g Dl) ⟨hD, Ex.new hD, upd_same⟩ (fun i H' hi p => ⟨hw _, cw_turn p (by omega) (ht i H (Ex.refl H) hi) (fun hf => he i H (Ex.refl H) hi hf)⟩)
    (fun H' p => q Dl H' p.1 p.2.1 p.2.2)
theorem lc_rng0 {Qd : Addr → Hp → Prop} {n j : Nat} {vs : List Nat} {tt : TT} (f : Nat → Bool) (g : Nat → V) (hz : n ≤ 40000) (hw : ∀ x, wipe ((wipe σ vs).set j (some x)) vs = wipe σ vs)
    (ht : ∀ (i : Nat) H1, Ex H H1 → i < n → EvT tt ((wipe σ vs).set j (some (.int (i : Int)))) H1 (f i)) (he : ∀ (i : Nat) H1, Ex H H1 → i < n → f i = true → Ev te ((wipe σ vs).set j (some (.int (i : Int)))) H1 (g i))
    (q : ∀ p H', H p = none → Ex H H' → H' p = some (.lst (given n f g)) → Qd p H') :
    ∀ D, H D = none → ∃ W : Nat → Nat → Hp → Prop, (∃ m, W 0 m (upd H D (.lst []))) ∧ ∀ i m H, W i m H → ((Itr 0 n).stop i H ∧ Qd D H) ∨ ((Itr 0 n).go i H ∧ ∃ Nx : Hp → Prop, (∀ H', Nx H' → ∃ m', m' < m ∧ W (i + 1) m' H') ∧
      ∀ x H', (Itr 0 n).yld i H x H' → gName j x (wipe σ vs) H' fun σ2 H2 => wipe σ2 vs = wipe σ vs ∧ tt σ2 H2 fun b H3 => if b = true then te σ2 H3 fun y H4 => ∃ acc, H4 D = some (.lst acc) ∧ acc.length < sizeLine ∧ Nx (upd H4 D (.lst (acc ++ [y]))) else Nx H3) :=
  lc_rngT (lo := 0) f g hz hw (fun i H1 e hi => by rw [Int.zero_add]; exact ht i H1 e hi) (fun i H1 e hi hf => by rw [Int.zero_add]; exact he i H1 e hi hf) q
theorem lc_lstT {Qd : Addr → Hp → Prop} {xs : List V} {j : Nat} {vs : List Nat} {tt : TT} (f : Nat → Bool) (g : Nat → V) (hx : SqL K H a xs) (hz : xs.length ≤ 40000) (hw : ∀ x, wipe ((wipe σ vs).set j (some x)) vs = wipe σ vs)
    (ht : ∀ (i : Nat) (x : V) H1, Ex H H1 → xs[i]? = some x → EvT tt ((wipe σ vs).set j (some x)) H1 (f i)) (he : ∀ (i : Nat) (x : V) H1, Ex H H1 → xs[i]? = some x → f i = true → Ev te ((wipe σ vs).set j (some x)) H1 (g i))
    (q : ∀ p H', H p = none → Ex H H' → H' p = some (.lst (given xs.length f g)) → Qd p H') :
    ∀ D, H D = none → ∃ W : Nat → Nat → Hp → Prop, (∃ m, W 0 m (upd H D (.lst []))) ∧ ∀ i m H, W i m H → ((Itl K a).stop i H ∧ Qd D H) ∨ ((Itl K a).go i H ∧ ∃ Nx : Hp → Prop, (∀ H', Nx H' → ∃ m', m' < m ∧ W (i + 1) m' H') ∧
      ∀ x H', (Itl K a).yld i H x H' → gName j x (wipe σ vs) H' fun σ2 H2 => wipe σ2 vs = wipe σ vs ∧ tt σ2 H2 fun b H3 => if b = true then te σ2 H3 fun y H4 => ∃ acc, H4 D = some (.lst acc) ∧ acc.length < sizeLine ∧ Nx (upd H4 D (.lst (acc ++ [y]))) else Nx H3) := fun Dl hD =>
  lc_list (xs := xs) (Cw H f g Dl) ⟨hD, Ex.new hD, upd_same⟩ (fun i H' _ p => ex_l p.2.1 hx) (fun i x H' hi p => ⟨hw x, cw_turn p (by have := (List.getElem?_eq_some_iff.mp hi).1; omega) (ht i x H (Ex.refl H) hi) (fun hf => he i x H (Ex.refl H) hi hf)⟩)
    (fun H' p => q Dl H' p.1 p.2.1 p.2.2)
theorem rd_lc {wi : TI} {g : TG} {tt : TT} {vs : List Nat} (h : wi σ H fun J H1 => ∀ D, H1 D = none → ∃ W : Nat → Nat → Hp → Prop, (∃ m, W 0 m (upd H1 D (.lst []))) ∧ ∀ i m H, W i m H →
  (J.stop i H ∧ Q (.ref D) H) ∨ (J.go i H ∧ ∃ Nx : Hp → Prop, (∀ H', Nx H' → ∃ m', m' < m ∧ W (i + 1) m' H') ∧ ∀ x H', J.yld i H x H' → g x (wipe σ vs) H' fun σ2 H2 => wipe σ2 vs = wipe σ vs ∧ tt σ2 H2 fun b H3 =>
    if b = true then te σ2 H3 fun y H4 => ∃ acc, H4 D = some (.lst acc) ∧ acc.length < sizeLine ∧ Nx (upd H4 D (.lst (acc ++ [y]))) else Nx H3)) : tLc wi g tt te vs σ H Q := h
theorem rd_iT {tl : TE} {R : It → Hp → Prop} (h : tl σ H fun x H1 => ∃ a, x = .ref a ∧ (∃ xs, SqT K H1 a xs) ∧ R (Itt K a) H1) : iTup K tl σ H R := h
theorem rd_iL {tl : TE} {R : It → Hp → Prop} (h : tl σ H fun x H1 => ∃ a, x = .ref a ∧ (∃ xs, SqL K H1 a xs) ∧ R (Itl K a) H1) : iList K tl σ H R := h
theorem rd_iR1 {tA : TA} {R : It → Hp → Prop} (h : tA σ H fun vs H1 => ∃ j : Int, vs = [.int j] ∧ -(2 ^ 62) ≤ j ∧ j < 2 ^ 62 ∧ R (Itr 0 j.toNat) H1) : iRng1 tA σ H R := h
theorem rd_iR2 {tA : TA} {R : It → Hp → Prop} (h : tA σ H fun vs H1 => ∃ i j : Int, vs = [.int i, .int j] ∧ (-(2 ^ 62) ≤ i ∧ i < 2 ^ 62 ∧ -(2 ^ 62) ≤ j ∧ j < 2 ^ 62) ∧ R (Itr i (j - i).toNat) H1) : iRng2 tA σ H R := h
theorem given_map {n : Nat} {g : Nat → V} : given n (fun _ => true) g = (List.range n).map g := by
  unfold given
  rw [List.filter_eq_self.mpr (fun _ _ => rfl)]
end
end Lw

set_option Elab.async false
set_option linter.all false
set_option maxRecDepth 100000
set_option maxHeartbeats 2000000
namespace Lw
open PySem PySem.Spec PyProof.Rows L2 He Evl StX
section
variable {X : Cx} {K : PySem.W.Frag}
theorem kx_list (h : X.K = K) : IxR X (rIxL K) := h ▸ ix_list
theorem kx_tup (h : X.K = K) : IxR X (rIxT K) := h ▸ ix_tup
theorem kx_seq (h : X.K = K) : IxR X (rIx K) := h ▸ ix_seq
def rLenK (K : PySem.W.Frag) : List V → Hp → VK → Prop := fun xs H Q => ∃ p ys, xs = [.ref p] ∧ (SqL K H p ys ∨ SqT K H p ys) ∧ Q (.int ys.length) H
def rListK (K : PySem.W.Frag) : List V → Hp → VK → Prop := fun xs H Q => ∃ p ys, xs = [.ref p] ∧ (SqL K H p ys ∨ SqT K H p ys) ∧ ∀ l, H l = none → Q (.ref l) (upd H l (.lst ys))
def rTupK (K : PySem.W.Frag) : List V → Hp → VK → Prop := fun xs H Q => ∃ p ys, xs = [.ref p] ∧ ((SqL K H p ys ∧ ∀ l, H l = none → Q (.ref l) (upd H l (.tup ys))) ∨ (SqT K H p ys ∧ Q (.ref p) H))
theorem kc_len (h : X.K = K) : CallR X (.builtin "len") (rLenK K) := h ▸ call_len_seq
theorem kc_list (h : X.K = K) : CallR X (.type "list") (rListK K) := h ▸ call_list_of
theorem kc_tup (h : X.K = K) : CallR X (.type "tuple") (rTupK K) := h ▸ call_tuple_of
theorem kc_isT (h : X.K = K) : CallR X (.builtin "isinstance") (rIsT K) := h ▸ call_isT
theorem kc_sum (hc : X.calm = true) (h : X.K = K) : CallR X (.builtin "sum") (rSum K) := h ▸ cr_sum hc
theorem kc_all (hc : X.calm = true) (h : X.K = K) : CallR X (.builtin "all") (rAll K) := h ▸ cr_all hc
theorem kc_any (hc : X.calm = true) (h : X.K = K) : CallR X (.builtin "any") (rAny K) := h ▸ cr_any hc
theorem kc_sorted (h : X.K = K) : CallR X (.builtin "sorted") (rSortedI K) := h ▸ cr_sortedI
theorem ko_in (h : X.K = K) : OpR X (compareOp .In) (rIn K false) := h ▸ op_in_seq
theorem ko_notIn (h : X.K = K) : OpR X (compareOp .NotIn) (rIn K true) := h ▸ op_notIn_seq
theorem ko_eqD {k : Nat} (hr : Room k X.A) (h : X.K = K) : OpR X (compareOp .Eq) (rEqD K) := h ▸ op_eqD hr.units
theorem ko_neD {k : Nat} (hr : Room k X.A) (h : X.K = K) : OpR X (compareOp .NotEq) (rNeD K) := h ▸ op_neD hr.units
theorem ks_list (h : X.K = K) : L2.SlR X (rSlL K) := h ▸ sl_list
theorem ks_tup (h : X.K = K) : L2.SlR X (rSlT K) := h ▸ sl_tup
def tTr (K : PySem.W.Frag) (ta : TE) : TT := fun σ H Q => ta σ H fun x H' => ∃ k, TruV K x H' k ∧ Q k H'
theorem kt_truth {a : Expr} {ta : TE} (h : X.K = K) (ha : PE X a ta) (he : ∀ whole, isTrue a X.env whole = (do let v ← whole; standAt a.pos; holding [v] (truthy v))) : PT X a (tTr K ta) := h ▸ pt_truth ha he
theorem ki_list {tg l : Expr} {tl : TE} (h : X.K = K) (hl : PE X l tl) : PI X tg l (iList K tl) := h ▸ pi_list hl
theorem ki_tup {tg l : Expr} {tl : TE} (h : X.K = K) (hl : PE X l tl) : PI X tg l (iTup K tl) := h ▸ pi_tup hl
theorem ka_star {e : Expr} {es : List Expr} {te : TE} {t : TA} {p : Pos} (h : X.K = K) (he : PE X e te) (hr : PA X es t) (hs : starEach (.Starred e p :: es) X.env = (true, eval e X.env) :: starEach es X.env := by rfl) : PA X (.Starred e p :: es) (tStar K te t) := h ▸ pa_star he hr hs
end
section
variable {K : PySem.W.Frag} {σ : L2.St} {H : Hp} {D : Ends} {Q : VK} {v x y z : V} {ta tb tc te : TE} {a : Addr} {QB : Bool → Hp → Prop} {b : Bool}
theorem rd_tr (h : ta σ H fun x H' => ∃ k, TruV K x H' k ∧ QB k H') : tTr K ta σ H QB := h
theorem rd_trI {i : Int} {P : Bool → Prop} (q : P (i != 0)) : ∃ k, TruV K (.int i) H k ∧ P k := ⟨_, rfl, q⟩
theorem rd_star {tA : TA} {QA : List V → Hp → Prop} (h : te σ H fun x H1 => ∃ p xs, x = V.ref p ∧ (SqT K H1 p xs ∨ SqL K H1 p xs) ∧ tA σ H1 fun ys H2 => QA (xs ++ ys) H2) : tStar K te tA σ H QA := h
end
/-! ### sorted ints -/
def ins (x : Int) : List Int → List Int
  | [] => [x]
  | y :: r => if x ≤ y then x :: y :: r else y :: ins x r
def isort : List Int → List Int
  | [] => []
  | x :: r => ins x (isort r)
theorem ins_perm (x : Int) : ∀ l, (ins x l).Perm (x :: l)
  | [] => .refl _
  | y :: r => by
    unfold ins
    split
    · exact .refl _
    · exact ((ins_perm x r).cons y).trans (.swap x y r)
theorem isort_perm : ∀ l, (isort l).Perm l
  | [] => .refl _
  | x :: r => (ins_perm x (isort r)).trans ((isort_perm r).cons x)
theorem ins_sorted (x : Int) : ∀ l, l.Pairwise (· ≤ ·) → (ins x l).Pairwise (· ≤ ·)
  | [], _ => .cons (fun _ h => nomatch h) .nil
  | y :: r, h => by
    unfold ins
    cases h with
    | cons h1 h2 =>
      split
      · rename_i c
        exact .cons (fun z hz => by
          rcases List.mem_cons.mp hz with rfl | hz
          · exact c
          · exact Int.le_trans c (h1 z hz)) (.cons h1 h2)
      · rename_i c
        refine .cons (fun z hz => ?_) (ins_sorted x r h2)
        rcases List.mem_cons.mp ((ins_perm x r).mem_iff.mp hz) with rfl | hz
        · omega
        · exact h1 z hz
theorem isort_sorted : ∀ l, (isort l).Pairwise (· ≤ ·)
  | [] => .nil
  | x :: r => ins_sorted x _ (isort_sorted r)
theorem sorted_eq : ∀ {a b : List Int}, a.Perm b → a.Pairwise (· ≤ ·) → b.Pairwise (· ≤ ·) → a = b
  | [], b, p, _, _ => (List.nil_perm.mp p).symm
  | x :: a, [], p, _, _ => absurd p.length_eq (by simp)
  | x :: a, y :: b, p, ha, hb => by
    cases ha with
    | cons ha1 ha2 => cases hb with
      | cons hb1 hb2 =>
        have e : x = y := by
          have h1 : x ∈ y :: b := p.mem_iff.mp List.mem_cons_self
          have h2 : y ∈ x :: a := p.mem_iff.mpr List.mem_cons_self
          have l1 : y ≤ x := by
            rcases List.mem_cons.mp h1 with z | z
            · omega
            · exact hb1 x z
          have l2 : x ≤ y := by
            rcases List.mem_cons.mp h2 with z | z
            · omega
            · exact ha1 y z
          omega
        subst e
        rw [sorted_eq ((List.perm_cons x).mp p) ha2 hb2]
theorem isort_eq {a b : List Int} (p : a.Perm b) (h : a.Pairwise (· ≤ ·)) : a = isort b := sorted_eq (p.trans (isort_perm b).symm) h (isort_sorted b)
theorem rd_sorted {K : PySem.W.Frag} {H : Hp} {Q : VK} {a : Addr} {ns : List Int} (h : SqL K H a (ns.map V.int)) (q : ∀ p, H p = none → Q (.ref p) (upd H p (.lst ((isort ns).map V.int)))) : rSortedI K [.ref a] H Q :=
  ⟨a, ns, rfl, h, fun ns' p hp hs hn => by rw [isort_eq hp hs]; exact q p hn⟩
theorem map_int {l : List Nat} {f : Nat → Int} : (l.map fun n => V.int (f n)) = (l.map f).map V.int := by rw [List.map_map]; rfl
/-! ### bits of numbers from 0 -/
theorem and_nat (a b : Nat) : Builtin.bitAnd (a : Int) (b : Int) = ((a &&& b : Nat) : Int) := by
  unfold Builtin.bitAnd
  rw [decide_eq_true (by omega), decide_eq_true (by omega)]
  simp
theorem or_nat (a b : Nat) : Builtin.bitOr (a : Int) (b : Int) = ((a ||| b : Nat) : Int) := by
  rw [bitOr_nn (by omega) (by omega)]
  simp
theorem xor_nat (a b : Nat) : Builtin.bitXor (a : Int) (b : Int) = ((a ^^^ b : Nat) : Int) := by
  rw [Bits.bitXor_pp (by omega) (by omega)]
  simp
theorem shr_nat (a k : Nat) : (a : Int) / 2 ^ ((k : Int)).toNat = ((a / 2 ^ k : Nat) : Int) := by
  rw [Int.toNat_natCast, Int.natCast_ediv, Int.natCast_pow]
  rfl
theorem shl_nat (a k : Nat) : (a : Int) * 2 ^ ((k : Int)).toNat = ((a * 2 ^ k : Nat) : Int) := by
  rw [Int.toNat_natCast, Int.natCast_mul, Int.natCast_pow]
  rfl
def rNN (f : Nat → Nat → Nat) : R2 := fun x y H Q => ∃ a b : Nat, x = .int (a : Int) ∧ y = .int (b : Int) ∧ Q (.int ((f a b : Nat) : Int)) H
def rShlN : R2 := fun x y H Q => ∃ a k : Nat, x = .int (a : Int) ∧ y = .int (k : Int) ∧ (a < 2 ^ 1000 ∧ k ≤ 1000) ∧ Q (.int ((a * 2 ^ k : Nat) : Int)) H
section
variable {X : Cx}
theorem on_and : OpR X (binaryOp .BitAnd) (rNN (· &&& ·)) := by
  intro pins s σ H x y v u Q I rx ry h
  obtain ⟨a, b, rfl, rfl, q⟩ := h
  refine op_and pins s σ H _ _ v u Q I rx ry ⟨_, _, rfl, rfl, ?_⟩
  show Q (.int (Builtin.bitAnd (a : Int) (b : Int))) H
  rw [and_nat]
  exact q
theorem on_or : OpR X (binaryOp .BitOr) (rNN (· ||| ·)) := by
  intro pins s σ H x y v u Q I rx ry h
  obtain ⟨a, b, rfl, rfl, q⟩ := h
  refine op_or pins s σ H _ _ v u Q I rx ry ⟨_, _, rfl, rfl, ?_⟩
  show Q (.int (Builtin.bitOr (a : Int) (b : Int))) H
  rw [or_nat]
  exact q
theorem on_xor : OpR X (binaryOp .BitXor) (rNN (· ^^^ ·)) := by
  intro pins s σ H x y v u Q I rx ry h
  obtain ⟨a, b, rfl, rfl, q⟩ := h
  refine op_xor pins s σ H _ _ v u Q I rx ry ⟨_, _, rfl, rfl, ?_⟩
  show Q (.int (Builtin.bitXor (a : Int) (b : Int))) H
  rw [xor_nat]
  exact q
theorem on_shr : OpR X (binaryOp .RShift) (rNN fun a k => a / 2 ^ k) := by
  intro pins s σ H x y v u Q I rx ry h
  obtain ⟨a, b, rfl, rfl, q⟩ := h
  refine op_shr pins s σ H _ _ v u Q I rx ry ⟨_, _, rfl, rfl, by omega, ?_⟩
  show Q (.int ((a : Int) / 2 ^ ((b : Int)).toNat)) H
  rw [shr_nat]
  exact q
theorem on_shl : OpR X (binaryOp .LShift) rShlN := by
  intro pins s σ H x y v u Q I rx ry h
  obtain ⟨a, k, rfl, rfl, ⟨h1, h2⟩, q⟩ := h
  refine op_shlW pins s σ H _ _ v u Q I rx ry ⟨_, _, rfl, rfl, shl_ok (n := 1000) (by simpa using h1) (by omega), ?_⟩
  show Q (.int ((a : Int) * 2 ^ ((k : Int)).toNat)) H
  rw [shl_nat]
  exact q
end
section
variable {H : Hp} {Q : VK} {f : Nat → Nat → Nat} {a b : Nat}
theorem rd_NN (q : Q (.int ((f a b : Nat) : Int)) H) : rNN f (.int (a : Int)) (.int (b : Int)) H Q := ⟨a, b, rfl, rfl, q⟩
theorem rd_NL (q : Q (.int ((f a b : Nat) : Int)) H) : rNN f (.int (a : Int)) (.int (OfNat.ofNat b)) H Q := ⟨a, b, rfl, rfl, q⟩
theorem rd_LN (q : Q (.int ((f a b : Nat) : Int)) H) : rNN f (.int (OfNat.ofNat a)) (.int (b : Int)) H Q := ⟨a, b, rfl, rfl, q⟩
theorem rd_shl1 (h : b ≤ 1000) (q : Q (.int ((2 ^ b : Nat) : Int)) H) : rShlN (.int 1) (.int (b : Int)) H Q := ⟨1, b, rfl, rfl, ⟨by decide +kernel, h⟩, by rw [Nat.one_mul]; exact q⟩
theorem rd_shlN (h1 : a < 2 ^ 1000) (h : b ≤ 1000) (q : Q (.int ((a * 2 ^ b : Nat) : Int)) H) : rShlN (.int (a : Int)) (.int (b : Int)) H Q := ⟨a, b, rfl, rfl, ⟨h1, h⟩, q⟩
end
theorem bne_cast (a : Nat) : (((a : Nat) : Int) != 0) = (a != 0) := by
  cases a with
  | zero => rfl
  | succ n => rfl
section
variable {K : PySem.W.Frag} {σ : L2.St} {H : Hp} {D : Ends} {g : TG} {tb : TS} {t : TA}
theorem rd_for {wi : TI} (h : wi σ H fun J H1 => ∃ W : Nat → Nat → L2.St → Hp → Prop, (∃ m, W 0 m σ H1) ∧ ∀ i m σ H, W i m σ H →
  ((J.stop i H ∧ D.nx σ H) ∨ (J.go i H ∧ ∃ N : L2.St → Hp → Prop, (∀ σ' H', N σ' H' → ∃ m', m' < m ∧ W (i + 1) m' σ' H') ∧ ∀ x H', J.yld i H x H' → g x σ H' fun σ2 H2 => tb { D with nx := N, ct := N, bk := D.nx } σ2 H2))) : tFor wi g tb D σ H := h
theorem rd_iRev {tr : L2.St → Hp → (Int → Int → Hp → Prop) → Prop} {R : It → Hp → Prop} (h : tr σ H fun a b H1 => -(2 ^ 62) ≤ a ∧ a < 2 ^ 62 ∧ -(2 ^ 62) ≤ b ∧ b < 2 ^ 62 ∧ R (Itc (a + (((b - a).toNat : Nat) : Int) - 1) (-1) (b - a).toNat) H1) : iRevR tr σ H R := h
theorem rd_gname {i : Nat} {v : V} {Q : L2.St → Hp → Prop} (q : Q (σ.set i (some v)) H) : gName i v σ H Q := q
end
theorem rd_Rg1 {σ : L2.St} {H : Hp} {ta : TE} {Q : Int → Int → Hp → Prop} (h : ta σ H fun x H1 => ∃ n, x = .int n ∧ Q 0 n H1) : tRg1 ta σ H Q := h
end Lw

set_option Elab.async false
set_option linter.all false
set_option maxRecDepth 100000
set_option maxHeartbeats 2000000
namespace Lw
open PySem PySem.Spec PyProof.Rows L2 He Evl StX
section
variable {K : PySem.W.Frag} {σ : L2.St} {B : Hp} {te : TE} {a : Addr}
/-- a list is being filled at Dl: acc so far; all else as in B, and more -/
def Fill (B : Hp) (Dl : Addr) (acc : List V) (H' : Hp) : Prop := B Dl = none ∧ Ex B H' ∧ H' Dl = some (.lst acc)
theorem given_succ {n : Nat} {f : Nat → Bool} {g : Nat → V} : given (n + 1) f g = given n f g ++ (if f n = true then [g n] else []) := by
  cases h : f n with
  | true => rw [given_yes h, if_pos rfl]
  | false => rw [given_no h, if_neg (by decide), List.append_nil]
theorem fill_turn {acc : List V} {Dl : Addr} {H' : Hp} {σ3 : L2.St} {n k : Nat} {tt1 : TT} {f : Nat → Bool} {g : Nat → V} (hz : acc.length + n ≤ 40000) (hk : k < n) (p : Fill B Dl (acc ++ given k f g) H')
    (ht : EvT tt1 σ3 B (f k)) (he : f k = true → Ev te σ3 B (g k)) :
    tt1 σ3 H' fun b H6 => if b = true then te σ3 H6 fun y H7 => ∃ acc', H7 Dl = some (.lst acc') ∧ acc'.length < sizeLine ∧ Fill B Dl (acc ++ given (k + 1) f g) (upd H7 Dl (.lst (acc' ++ [y]))) else Fill B Dl (acc ++ given (k + 1) f g) H6 := by
  obtain ⟨p1, p2, p3⟩ := p
  refine ht H' p2 _ fun H6 e6 => ?_
  have hl := given_len k f g
  cases hf : f k with
  | true =>
    show te σ3 H6 _
    refine he hf H6 (p2.trans e6) _ fun H7 e7 => ⟨acc ++ given k f g, e7 Dl _ (e6 Dl _ p3), sz_lt (by rw [List.length_append]; omega), p1, Ex.mut ((p2.trans e6).trans e7) p1, ?_⟩
    rw [upd_same, given_yes hf, List.append_assoc]
  | false =>
    show Fill B Dl (acc ++ given (k + 1) f g) H6
    refine ⟨p1, p2.trans e6, ?_⟩
    rw [given_no hf]
    exact e6 Dl _ p3
/-- the inner walk over a range -/
theorem inner_rng {acc : List V} {Dl : Addr} {H' : Hp} {σ2 : L2.St} {n j : Nat} {vs1 : List Nat} {tt1 : TT} (f : Nat → Bool) (g : Nat → V) (hz : acc.length + n ≤ 40000) (hw : ∀ x, wipe ((wipe σ2 vs1).set j (some x)) vs1 = wipe σ2 vs1)
    (ht : ∀ i : Nat, i < n → EvT tt1 ((wipe σ2 vs1).set j (some (.int (i : Int)))) B (f i)) (he : ∀ i : Nat, i < n → f i = true → Ev te ((wipe σ2 vs1).set j (some (.int (i : Int)))) B (g i))
    (h0 : Fill B Dl acc H') :
    ∃ W1 : Nat → Nat → Hp → Prop, (∃ m, W1 0 m H') ∧ ∀ k m H, W1 k m H →
      ((Itr 0 n).stop k H ∧ Fill B Dl (acc ++ given n f g) H) ∨ ((Itr 0 n).go k H ∧ ∃ Nx1 : Hp → Prop, (∀ H', Nx1 H' → ∃ m', m' < m ∧ W1 (k + 1) m' H') ∧ ∀ x H', (Itr 0 n).yld k H x H' → gName j x (wipe σ2 vs1) H' fun σ3 H5 => wipe σ3 vs1 = wipe σ2 vs1 ∧ tt1 σ3 H5 fun b H6 =>
        if b = true then te σ3 H6 fun y H7 => ∃ acc, H7 Dl = some (.lst acc) ∧ acc.length < sizeLine ∧ Nx1 (upd H7 Dl (.lst (acc ++ [y]))) else Nx1 H6) := by
  have z0 : Fill B Dl (acc ++ given 0 f g) H' := by
    have e : acc ++ given 0 f g = acc := by
      show acc ++ [] = acc
      exact List.append_nil _
    rw [e]
    exact h0
  refine ⟨fun k m H => m = n - k ∧ k ≤ n ∧ Fill B Dl (acc ++ given k f g) H, ⟨n, by simp, Nat.zero_le _, z0⟩, ?_⟩
  rintro k m H ⟨rfl, hk, p⟩
  by_cases h : k < n
  · refine .inr ⟨h, Fill B Dl (acc ++ given (k + 1) f g), fun H2 q => ⟨n - (k + 1), by omega, rfl, h, q⟩, fun x H2 y => ?_⟩
    obtain ⟨e1, e2⟩ := y
    subst e1 e2
    rw [Int.zero_add]
    exact ⟨hw _, fill_turn hz h p (ht k h) (he k h)⟩
  · have e : k = n := by omega
    subst e
    exact .inl ⟨Nat.le_refl _, p⟩
/-- what the outer turns have made -/
def flat (i : Nat) (n : Nat → Nat) (f : Nat → Nat → Bool) (g : Nat → Nat → V) : List V := (List.range i).flatMap fun k => given (n k) (f k) (g k)
theorem flat_succ {i : Nat} {n : Nat → Nat} {f : Nat → Nat → Bool} {g : Nat → Nat → V} : flat (i + 1) n f g = flat i n f g ++ given (n i) (f i) (g i) := by
  unfold flat
  rw [List.range_succ, List.flatMap_append, List.flatMap_singleton]
theorem flat_len {i M : Nat} {n : Nat → Nat} {f : Nat → Nat → Bool} {g : Nat → Nat → V} (h : ∀ k, k < i → n k ≤ M) : (flat i n f g).length ≤ i * M := by
  induction i with
  | zero => simp [flat]
  | succ i ih =>
    rw [flat_succ, List.length_append, Nat.succ_mul]
    have h1 := ih fun k hk => h k (by omega)
    have h2 := given_len (n i) (f i) (g i)
    have h3 := h i (by omega)
    omega
/-- two fors: over a tuple, then over a range -/
theorem lc2_TR {Qd : Addr → Hp → Prop} {xs : List V} {j j1 M : Nat} {vs vs1 : List Nat} {tt tt1 : TT} {ta1 : TA} (ok : Nat → Bool) (n : Nat → Nat) (f : Nat → Nat → Bool) (g : Nat → Nat → V)
    (hx : SqT K B a xs) (hM : xs.length * M ≤ 40000) (hn : ∀ i, i < xs.length → n i ≤ M)
    (hw : ∀ x, wipe ((wipe σ vs).set j (some x)) vs = wipe σ vs)
    (hw1 : ∀ x y, wipe ((wipe ((wipe σ vs).set j (some x)) vs1).set j1 (some y)) vs1 = wipe ((wipe σ vs).set j (some x)) vs1)
    (h0 : ∀ (i : Nat) (x : V), xs[i]? = some x → EvT tt ((wipe σ vs).set j (some x)) B (ok i))
    (hok : ∀ i, i < xs.length → ok i = false → n i = 0)
    (ha : ∀ (i : Nat) (x : V), xs[i]? = some x → ok i = true → EvA ta1 ((wipe σ vs).set j (some x)) B [.int (n i : Int)])
    (ht : ∀ (i : Nat) (x : V) (k : Nat), xs[i]? = some x → k < n i → EvT tt1 ((wipe ((wipe σ vs).set j (some x)) vs1).set j1 (some (.int (k : Int)))) B (f i k))
    (he : ∀ (i : Nat) (x : V) (k : Nat), xs[i]? = some x → k < n i → f i k = true → Ev te ((wipe ((wipe σ vs).set j (some x)) vs1).set j1 (some (.int (k : Int)))) B (g i k))
    (q : ∀ p H', B p = none → Ex B H' → H' p = some (.lst (flat xs.length n f g)) → Qd p H') :
    ∀ D, B D = none → ∃ W : Nat → Nat → Hp → Prop, (∃ m, W 0 m (upd B D (.lst []))) ∧ ∀ i m H, W i m H →
      ((Itt K a).stop i H ∧ Qd D H) ∨ ((Itt K a).go i H ∧ ∃ Nx : Hp → Prop, (∀ H', Nx H' → ∃ m', m' < m ∧ W (i + 1) m' H') ∧ ∀ x H', (Itt K a).yld i H x H' → gName j x (wipe σ vs) H' fun σ2 H2 => wipe σ2 vs = wipe σ vs ∧ tt σ2 H2 fun b H3 =>
        if b = true then iRng1 ta1 σ2 H3 fun J1 H4 => ∃ W1 : Nat → Nat → Hp → Prop, (∃ m, W1 0 m H4) ∧ ∀ j' k H, W1 j' k H →
          (J1.stop j' H ∧ Nx H) ∨ (J1.go j' H ∧ ∃ Nx1 : Hp → Prop, (∀ H', Nx1 H' → ∃ k', k' < k ∧ W1 (j' + 1) k' H') ∧ ∀ x H', J1.yld j' H x H' → gName j1 x (wipe σ2 vs1) H' fun σ3 H5 => wipe σ3 vs1 = wipe σ2 vs1 ∧ tt1 σ3 H5 fun b H6 =>
            if b = true then te σ3 H6 fun y H7 => ∃ acc, H7 D = some (.lst acc) ∧ acc.length < sizeLine ∧ Nx1 (upd H7 D (.lst (acc ++ [y]))) else Nx1 H6)
        else Nx H3) := fun Dl hD => by
  refine ⟨fun i m H => m = xs.length - i ∧ i ≤ xs.length ∧ Fill B Dl (flat i n f g) H, ⟨xs.length, by simp, Nat.zero_le _, hD, Ex.new hD, upd_same⟩, ?_⟩
  rintro i m H ⟨rfl, hi, p⟩
  have hxH : SqT K H a xs := ex_t p.2.1 hx
  by_cases hlt : i < xs.length
  · have hxi : xs[i]? = some xs[i] := List.getElem?_eq_getElem hlt
    refine .inr ⟨⟨xs, xs[i], hxH, hxi⟩, Fill B Dl (flat (i + 1) n f g), fun H' q' => ⟨xs.length - (i + 1), by omega, rfl, hlt, q'⟩, fun x H' y => ?_⟩
    obtain ⟨e1, y⟩ := y
    subst e1
    have ex := y xs hxH
    refine ⟨hw x, ?_⟩
    refine h0 i x ex _ p.2.1 _ fun H3 e3 => ?_
    have p3 : Fill B Dl (flat i n f g) H3 := ⟨p.1, p.2.1.trans e3, e3 Dl _ p.2.2⟩
    have hfl := flat_len (f := f) (g := g) (M := M) (n := n) (i := i) fun k hk => hn k (by omega)
    have hn1 := hn i hlt
    have hm : i * M + M ≤ xs.length * M := by
      rw [← Nat.succ_mul]
      exact Nat.mul_le_mul_right M hlt
    cases hb : ok i with
    | true =>
      rw [if_pos rfl]
      refine ha i x ex hb H3 p3.2.1 _ fun H4 e4 => ⟨(n i : Int), rfl, by omega, by omega, ?_⟩
      have p4 : Fill B Dl (flat i n f g) H4 := ⟨p3.1, p3.2.1.trans e4, e4 Dl _ p3.2.2⟩
      rw [flat_succ]
      rw [Int.toNat_natCast]
      exact inner_rng (f i) (g i) (by omega) (fun y => hw1 x y) (fun k hk => ht i x k ex hk) (fun k hk hf => he i x k ex hk hf) p4
    | false =>
      show Fill B Dl (flat (i + 1) n f g) H3
      have e0 : given (n i) (f i) (g i) = [] := by
        rw [hok i hlt hb]
        rfl
      rw [flat_succ, e0, List.append_nil]
      exact p3
  · have e : i = xs.length := by omega
    subst e
    exact .inl ⟨⟨xs, hxH, Nat.le_refl _⟩, q Dl H p.1 p.2.1 p.2.2⟩
theorem rd_lc2 {H : Hp} {Q : VK} {wi wi1 : TI} {g g1 : TG} {tt tt1 : TT} {vs vs1 : List Nat} (h : wi σ H fun J H1 => ∀ D, H1 D = none → ∃ W : Nat → Nat → Hp → Prop, (∃ m, W 0 m (upd H1 D (.lst []))) ∧ ∀ i m H, W i m H →
  (J.stop i H ∧ Q (.ref D) H) ∨ (J.go i H ∧ ∃ Nx : Hp → Prop, (∀ H', Nx H' → ∃ m', m' < m ∧ W (i + 1) m' H') ∧ ∀ x H', J.yld i H x H' → g x (wipe σ vs) H' fun σ2 H2 => wipe σ2 vs = wipe σ vs ∧ tt σ2 H2 fun b H3 =>
    if b = true then wi1 σ2 H3 fun J1 H4 => ∃ W1 : Nat → Nat → Hp → Prop, (∃ m, W1 0 m H4) ∧ ∀ j k H, W1 j k H →
      (J1.stop j H ∧ Nx H) ∨ (J1.go j H ∧ ∃ Nx1 : Hp → Prop, (∀ H', Nx1 H' → ∃ k', k' < k ∧ W1 (j + 1) k' H') ∧ ∀ x H', J1.yld j H x H' → g1 x (wipe σ2 vs1) H' fun σ3 H5 => wipe σ3 vs1 = wipe σ2 vs1 ∧ tt1 σ3 H5 fun b H6 =>
        if b = true then te σ3 H6 fun y H7 => ∃ acc, H7 D = some (.lst acc) ∧ acc.length < sizeLine ∧ Nx1 (upd H7 D (.lst (acc ++ [y]))) else Nx1 H6)
    else Nx H3)) : tLc2 wi g tt wi1 g1 tt1 te vs vs1 σ H Q := h
end
section
variable {K : PySem.W.Frag} {σ : L2.St} {B H : Hp} {D : Ends} {te ta tb : TE} {Q : VK} {l : Addr} {xs : List V} {v : V}
theorem Fill.new {p : Addr} (h : B p = none) {xs : List V} : Fill B p xs (upd B p (.lst xs)) := ⟨h, Ex.new h, upd_same⟩
theorem Fill.set {H' : Hp} (h : Fill B l xs H') (ys : List V) : Fill B l ys (upd H' l (.lst ys)) := ⟨h.1, Ex.mut h.2.1 h.1, upd_same⟩
theorem Fill.ex {H' H2 : Hp} (h : Fill B l xs H') (e : Ex H' H2) : Fill B l xs H2 := ⟨h.1, h.2.1.trans e, e l _ h.2.2⟩
theorem Fill.base {B0 : Hp} {H' : Hp} (e : Ex B0 B) (h : Fill B l xs H') : Fill B0 l xs H' := ⟨fresh_back e h.1, e.trans h.2.1, h.2.2⟩
theorem rd_last (h : H l = some (.lst (xs ++ [v]))) (q : Q v H) : rIxL K (.ref l) (.int (-1)) H Q := ⟨l, xs ++ [v], -1, v, rfl, rfl, sq_of h, atI_last xs v, q⟩
theorem rd_while {c : TT} {tb : TS} (h : ∃ W : Nat → L2.St → Hp → Prop, (∃ m, W m σ H) ∧ ∀ m σ H, W m σ H → c σ H fun b H1 => (b = true → ∃ N : L2.St → Hp → Prop, (∀ σ' H', N σ' H' → ∃ m', m' < m ∧ W m' σ' H') ∧ tb { D with nx := N, ct := N, bk := D.nx } σ H1) ∧ (b = false → D.nx σ H1)) : tWhile c tb D σ H := by
  obtain ⟨W, hm, hs⟩ := h
  refine ⟨W, hm, fun m σ H w => ?_⟩
  have e : (fun (b : Bool) (H1 : Hp) => if b = true then ∃ N : L2.St → Hp → Prop, (∀ σ' H', N σ' H' → ∃ m', m' < m ∧ W m' σ' H') ∧ tb { D with nx := N, ct := N, bk := D.nx } σ H1 else D.nx σ H1) =
      fun b H1 => (b = true → ∃ N : L2.St → Hp → Prop, (∀ σ' H', N σ' H' → ∃ m', m' < m ∧ W m' σ' H') ∧ tb { D with nx := N, ct := N, bk := D.nx } σ H1) ∧ (b = false → D.nx σ H1) := by
    funext b H1
    cases b
    · rw [if_neg Bool.false_ne_true]
      exact propext ⟨fun h => ⟨(fun z => nomatch z), fun _ => h⟩, fun h => h.2 rfl⟩
    · rw [if_pos rfl]
      exact propext ⟨fun h => ⟨fun _ => h, (fun z => nomatch z)⟩, fun h => h.1 rfl⟩
  rw [e]
  exact hs m σ H w
theorem rd_BM {T : String} {r : V → List V → Hp → VK → Prop} {tA : TA} (h : te σ H fun x H1 => tyV K T x H1 ∧ tA σ H1 fun xs H2 => r x xs H2 Q) : tBM K T r te tA σ H Q := h
theorem rd_app (h : H l = some (.lst xs)) (hz : xs.length < 100000) (q : Q .non (upd H l (.lst (xs ++ [v])))) : rAppend (.ref l) [v] H Q := ⟨l, xs, v, rfl, rfl, h, sz_lt hz, q⟩
theorem ty_lst (h : H l = some (.lst xs)) : tyV K "list" (.ref l) H := .inl ⟨rfl, xs, sq_of h⟩
theorem rd_neg {i : Int} (q : Q (.int (-i)) H) : rU (fun i => .int (-i)) (.int i) H Q := ⟨i, rfl, q⟩
end
theorem rd_iZip {K : PySem.W.Frag} {σ : L2.St} {H : Hp} {ta : TA} {R : It → Hp → Prop} (h : ta σ H fun vs H1 => ∃ a b xs ys, vs = [.ref a, .ref b] ∧ ((SqL K H1 a xs ∧ SqL K H1 b ys ∧ R (Itz K a b) H1) ∨ (SqT K H1 a xs ∧ SqT K H1 b ys ∧ R (RZ.ItzT K a b) H1))) : RZ.iZipA K ta σ H R := h
theorem rd_gcons {σ : L2.St} {H : Hp} {t : TG} {u : TGs} {v : V} {r : List V} {Q : L2.St → Hp → Prop} (h : t v σ H fun σ' H' => u r σ' H' Q) : gCons t u (v :: r) σ H Q := ⟨v, r, rfl, h⟩
theorem rd_gnil {σ : L2.St} {H : Hp} {Q : L2.St → Hp → Prop} (h : Q σ H) : gNil [] σ H Q := ⟨rfl, h⟩
end Lw

set_option Elab.async false
set_option linter.all false
set_option maxRecDepth 100000
set_option maxHeartbeats 2000000
namespace Lw
open PySem PySem.Spec PyProof.Rows L2 He Evl StX
theorem rd_int1 {P : Int → Prop} {R : Prop} {i : Int} (q : P i) : (∃ j, [V.int i] = [V.int j] ∧ P j) ∨ R := .inl ⟨i, rfl, q⟩
theorem rd_ex1 {P : Int → Prop} {i : Int} (q : P i) : ∃ j, [V.int i] = [V.int j] ∧ P j := ⟨i, rfl, q⟩
theorem fmod_bd (i : Int) {j : Int} (h : 0 < j) : 0 ≤ i.fmod j ∧ i.fmod j < j := ⟨Int.fmod_nonneg_of_pos i h, Int.fmod_lt_of_pos i h⟩
theorem div_bd {i : Int} {j : Int} (h0 : 0 ≤ i) (h : 0 < j) : 0 ≤ i / j ∧ i / j ≤ i := ⟨Int.ediv_nonneg h0 (by omega), Int.ediv_le_self _ h0⟩
/-- how many bits -/
abbrev bits (i : Int) : Nat := Builtin.Int.intBits i
theorem bits_le {i : Int} {a : Nat} (h : i.natAbs < 2 ^ a) : bits i ≤ a := PyProof.Rows.intBits_le h
theorem mulx_bits {i j : Int} {a b : Nat} (h1 : bits i ≤ a) (h2 : bits j ≤ b) (h : a + b ≤ 134217728) : CMulX i j := by
  have h1 : Builtin.Int.intBits i ≤ a := h1
  have h2 : Builtin.Int.intBits j ≤ b := h2
  unfold CMulX
  omega
theorem bits_mono {i j : Int} (h0 : 0 ≤ i) (h : i ≤ j) : bits i ≤ bits j := by
  unfold bits Builtin.Int.intBits
  by_cases e : i = 0
  · simp [e]
  · have hj : ¬ j = 0 := by omega
    have e1 : (i == 0) = false := by simpa using e
    have e2 : (j == 0) = false := by simpa using hj
    rw [e1, e2]
    simp only [Bool.false_eq_true, if_false]
    have h3 : i.natAbs ≤ j.natAbs := by omega
    have h4 : i.natAbs.log2 ≤ j.natAbs.log2 := by
      have hne : i.natAbs ≠ 0 := by omega
      have h5 := Nat.log2_self_le hne
      exact (Nat.le_log2 (by omega)).mpr (Nat.le_trans h5 h3)
    omega
theorem bits_abs (i : Int) : bits (if i < 0 then -i else i) = bits i := by
  split
  · unfold bits Builtin.Int.intBits
    rw [Int.natAbs_neg]
    have e : (-i == 0) = (i == 0) := by
      by_cases h : i = 0
      · subst h; rfl
      · have h1 : ¬ -i = 0 := by omega
        rw [beq_eq_false_iff_ne.mpr h1, beq_eq_false_iff_ne.mpr h]
    rw [e]
  · rfl
/-- the hand of draws at h -/
def Hand (H : Hp) (h : Addr) : Prop := ∃ (c : Addr) (cells : List Int) (i : Nat) (r t : Int), H h = some (.lst [.ref c, .int (i : Int), .int r, .int t]) ∧ H c = some (.lst (cells.map V.int)) ∧ c ≠ h ∧
  (∀ z ∈ cells, 0 ≤ z ∧ bits z ≤ 1048576) ∧ i ≤ cells.length ∧ cells.length ≤ 63 ∧ 0 ≤ r ∧ bits r ≤ 1048576 ∧ 0 ≤ t ∧ t < 2147483629
/-- all but the hand stands as it stood -/
def Dh (h : Addr) (H H' : Hp) : Prop := ∀ a o, a ≠ h → H a = some o → H' a = some o
theorem Dh.refl (h : Addr) (H : Hp) : Dh h H H := fun _ _ _ q => q
theorem Dh.trans {h : Addr} {H H1 H2 : Hp} (a : Dh h H H1) (b : Dh h H1 H2) : Dh h H H2 := fun x o n q => b x o n (a x o n q)
theorem Dh.of {h : Addr} {H H1 : Hp} (e : Ex H H1) : Dh h H H1 := fun x o _ q => e x o q
theorem Dh.upd {h : Addr} {H : Hp} {o : HO} : Dh h H (upd H h o) := fun a u n q => by rw [upd_ne n]; exact q
theorem Hand.ex {H H' : Hp} {h : Addr} (e : Ex H H') (x : Hand H h) : Hand H' h := by
  obtain ⟨c, cells, i, r, t, h1, h2, rest⟩ := x
  exact ⟨c, cells, i, r, t, e _ _ h1, e _ _ h2, rest⟩
theorem Hand.there {H : Hp} {h : Addr} (x : Hand H h) : ∃ o, H h = some o := by
  obtain ⟨c, cells, i, r, t, h1, _⟩ := x
  exact ⟨_, h1⟩
theorem Dh.free {h : Addr} {H H' : Hp} {p : Addr} (d : Dh h H H') (x : Hand H' h) (n : H' p = none) : H p = none := by
  cases q : H p with
  | none => rfl
  | some o =>
    by_cases e : p = h
    · obtain ⟨u, hu⟩ := x.there
      rw [e, hu] at n
      cases n
    · rw [d p o e q] at n
      cases n
/-- set a place of the hand -/
theorem rd_setH {H : Hp} {l : Addr} {xs : List V} {k : Nat} {v : V} {Q : Hp → Prop} (h : H l = some (.lst xs)) (hk : k < xs.length) (q : Q (upd H l (.lst (xs.set k v)))) : rSetL (.ref l) (.int (k : Int)) v H Q :=
  ⟨l, xs, (k : Int), k, rfl, rfl, h, ixN_nat hk, q⟩
theorem rd_ix {K : PySem.W.Frag} {H : Hp} {l : Addr} {xs : List V} {k : Nat} {v : V} {Q : VK} (h : SqL K H l xs) (hk : xs[k]? = some v) (q : Q v H) : rIxL K (.ref l) (.int (k : Int)) H Q := ⟨l, xs, k, v, rfl, rfl, h, atI_nat hk, q⟩
theorem rd_ixl {K : PySem.W.Frag} {H : Hp} {l : Addr} {xs : List V} {k : Nat} {v : V} {Q : VK} (h : H l = some (.lst xs)) (hk : xs[k]? = some v) (q : Q v H) : rIxL K (.ref l) (.int (OfNat.ofNat k)) H Q := ⟨l, xs, _, v, rfl, rfl, sq_of h, atI_nat (j := k) hk, q⟩
theorem rd_sub {σ : L2.St} {H : Hp} {D : Ends} {te to ti : TE} {ts : TSet} (h : te σ H fun v H1 => to σ H1 fun o H2 => ti σ H2 fun i H3 => ts o i v H3 fun H4 => D.nx σ H4) : tAsg te (gSub to ti ts) D σ H := h
/-- a word between two statements -/
theorem rd_mid {t u : TS} {D : Ends} {σ : L2.St} {H : Hp} (Mid : L2.St → Hp → Prop) (h : ∀ N : L2.St → Hp → Prop, (∀ σ' H', Mid σ' H' → N σ' H') → t { D with nx := N } σ H) (k : ∀ σ' H', Mid σ' H' → u D σ' H') : tSeq t u D σ H := h _ k
theorem Hand.mk {H : Hp} {h c : Addr} {cells : List Int} {i : Nat} {r t : Int} (h1 : H h = some (.lst [.ref c, .int (i : Int), .int r, .int t])) (h2 : H c = some (.lst (cells.map V.int))) (h3 : c ≠ h) (h4 : ∀ z ∈ cells, 0 ≤ z ∧ bits z ≤ 1048576) (h5 : i ≤ cells.length) (h6 : cells.length ≤ 63)
  (h7 : 0 ≤ r) (h8 : bits r ≤ 1048576) (h9 : 0 ≤ t) (h10 : t < 2147483629) : Hand H h := ⟨c, cells, i, r, t, h1, h2, h3, h4, h5, h6, h7, h8, h9, h10⟩
theorem rd_iEnum {K : PySem.W.Frag} {σ : L2.St} {H : Hp} {ta : TA} {R : It → Hp → Prop} (h : ta σ H fun vs H1 => ∃ a xs, vs = [.ref a] ∧ SqL K H1 a xs ∧ R (Ite K a) H1) : iEnum K ta σ H R := h
theorem digits_half {n : Nat} (h : 2 ≤ n) : binL n = binL (n / 2) ++ [(Nat.digitChar (n % 2)).toNat] := by
  unfold binL
  rw [Nat.toDigits_eq_if (by decide), if_neg (by omega), List.map_append]
  rfl
theorem ones_half (n : Nat) (h : 0 < n) : onesN n = onesN (n / 2) + n % 2 := by
  by_cases h2 : 2 ≤ n
  · unfold onesN
    rw [digits_half h2, List.count_append]
    rcases Nat.mod_two_eq_zero_or_one n with e | e <;> rw [e] <;> rfl
  · have e : n = 1 := by omega
    subst e
    decide
end Lw

set_option Elab.async false
set_option linter.all false
set_option maxRecDepth 100000
set_option maxHeartbeats 3200000
namespace Lw
open PySem PySem.Spec PyProof.Rows L2 He
/-! ### set(a list of ints) -/
section
variable {P : Program} {w : World} {A : Around} {E : Value → Shared → Prop} {s : Shared}
abbrev emS (w : World) : Obj := { cls := .type "set", dict := none, data := .set #[] 0 (.fresh 0 0 (!w.params.followText "set-order")) }
theorem set_of_ints {l : Addr} {items : Array Value} (ns : List Int) {Q : Value → Shared → Prop} (nh : A.handled = none) (lst : s.heap.IsList l items) (hInts : IntsAre items.toList ns) (few : ns.length + 1 < scanBound)
    (out : ∀ (h2 : Heap) (k c : Nat), SetR w h2 s.heap.objs.size (fun j => decide (j ∈ ns)) c → c ≤ ns.length → (∀ b o, s.heap.get? b = some o → h2.get? b = some o) → Q (.ref s.heap.objs.size) { s with heap := h2, toks := k }) :
    wpAny (model P w) A (call (.type "set") [.ref l]) Q E s := by
  have size_eq : items.size = ns.length := by
    have := IntsAre.length hInts
    rwa [Array.length_toList] at this
  obtain ⟨_, _, mroEq⟩ := F.called_set.mro
  have madeEq := F.called_set.made
  have subEq := F.called_set.sub
  apply wpAny_call
  apply codeAny_of_tree
  change wpAny _ _ (callAny (.type "set") _) _ _ _
  refine wpAny_pure ⟨Code.quiet_builtin _ (by decide +kernel), ?_⟩
  apply codeAny_builtin F.entry_type_call
  rw [Around.under_plain (weight_type_call_type "set" [.ref l] []) rfl]
  have notTy := F.called_set.notType
  have mayMake := F.called_set.canCreate
  have tyCall := F.typeCall_set_1 (.ref l)
  repeat (any_goals (first | assumption | wp_step))
  refine codeAny_mono (code_set_led1 (.ref l) (E := E) (Q₁ := fun v t => v = .ref s.heap.objs.size ∧ t = { s with heap := s.heap.push (emS w) }) ⟨rfl, rfl⟩) ?_
  rintro (er | fl) t1 made
  · exact made
  rcases fl with _ | _ | _ | obj
  · exact made.elim
  · exact made.elim
  · exact made.elim
  obtain ⟨rfl, rfl⟩ := made
  have newAt : (s.heap.push (emS w)).get? s.heap.objs.size = some (emS w) := Heap.get?_push_size _ rfl
  have newTy : Shared.TypeIs { s with heap := s.heap.push (emS w) } (.ref s.heap.objs.size) "set" := ⟨_, newAt, rfl⟩
  have initLk := F.called_set.init.lookup
  have initBd := F.called_set.init.bind (.ref s.heap.objs.size)
  repeat (any_goals (first | assumption | wp_step))
  refine codeAny_mono (codeAny_call_builtin (R := wants (fun v t => v = .none ∧ ∃ h2 k c, t = { s with heap := h2, toks := k } ∧ SetR w h2 s.heap.objs.size (fun j => decide (j ∈ ns)) c ∧ c ≤ ns.length ∧ ∀ b o, s.heap.get? b = some o → h2.get? b = some o) E)
    F.called_set.init.plain F.entry_set_init (check_set_init_1 newTy ?filled)) ?after
  case after =>
    rintro (er | fl) t2 full
    · exact full
    rcases fl with _ | _ | _ | u
    · exact full.elim
    · exact full.elim
    · exact full.elim
    obtain ⟨rfl, h2, k, c, rfl, R, le, kept⟩ := full
    repeat (any_goals (first | assumption | wp_step))
    exact out _ _ _ R le kept
  case filled =>
    obtain ⟨⟨cl, dc, da, sl⟩, at_, e1, m, e2⟩ := lst
    simp only at e1 e2
    subst e1 e2
    have at2 : (s.heap.push (emS w)).get? l = some { cls := .type "list", dict := dc, data := .seq items m, slots := sl } := Heap.get?_push_of_some _ at_
    have noSet := F.sub_list_set
    have noFrozen := F.sub_list_frozenset
    have noDict : (Value.type "list" == Value.type "dict") = false := by decide
    have lst2 : (s.heap.push (emS w)).IsList l items := ⟨_, at2, rfl, m, rfl⟩
    unfold Builtin.«set.__init__» noKeywords Builtin.Frozenset.updateFrom
    generalize itEq : pyIter = IT
    wp_walk
    subst itEq
    refine wpAny_pyIter_list lst2 (wpAny_bind (wpAny_runValue ?_))
    have below : l < s.heap.objs.size := Heap.lt_size at_
    have size2 : (s.heap.push (emS w)).objs.size = s.heap.objs.size + 1 := Heap.size_push ..
    have apart : l ≠ (s.heap.push (emS w)).objs.size := by
      rw [size2]
      exact Nat.ne_of_lt (Nat.lt_succ_of_lt below)
    have outside : s.heap.objs.size ∉ [(s.heap.push (emS w)).objs.size, l] := by
      rw [size2]
      simp only [List.mem_cons, List.not_mem_nil, or_false, not_or]
      exact ⟨Nat.ne_of_lt (Nat.lt_succ_self _), Nat.ne_of_gt below⟩
    have item : ∀ (i : Nat) (v : Value), items[i]? = some v → ∃ k t, ns[i]? = some k ∧ v = .int k t := fun i v hv => by
      have lt : i < ns.length := by
        rw [← size_eq]
        exact (Array.getElem?_eq_some_iff.mp hv).1
      obtain ⟨t, e⟩ := IntsAre.int_at hInts i v (by rw [Array.getElem?_toList]; exact hv)
      refine ⟨ns[i], t, List.getElem?_eq_getElem lt, ?_⟩
      rw [List.getD_eq_getElem?_getD, List.getElem?_eq_getElem lt] at e
      exact e
    refine set_update_ints ((Walks.list (by simp [nh]) _ l apart items).toS) s.heap.objs.size outside ns size_eq few item (items.size - 0) 0 _ (by omega) (Nat.zero_le _) ⟨⟨_, Heap.get?_push_size _ rfl, rfl, rfl⟩, lst2.push _⟩ ?start ?stop
    case start =>
      exact ⟨0, Nat.le_refl 0, setR_new_at (Heap.get?_push_of_some _ newAt)⟩
    case stop =>
      rintro ⟨h2, g2, d2, k2, os2⟩ c mv le R
      obtain rfl : g2 = s.gens := mv.gens
      obtain rfl : d2 = s.drawn := mv.drawn
      obtain rfl : os2 = s.os := mv.os
      change wpAny _ _ _ _ _ _
      apply wpAny_pure
      change wpAny _ _ (ret Value.none) _ _ _
      refine wpAny_pure ⟨rfl, h2, k2, c, rfl, R, by omega, fun b o e => ?_⟩
      have lt : b < s.heap.objs.size := Heap.lt_size e
      refine mv.heap b o ?_ (Heap.get?_push_of_some _ (Heap.get?_push_of_some _ e))
      simp only [List.mem_cons, List.not_mem_nil, or_false, not_or]
      refine ⟨Nat.ne_of_lt lt, ?_⟩
      rw [size2]
      exact Nat.ne_of_lt (Nat.lt_succ_of_lt lt)
end
/-- set(xs), xs a list or a tuple of ints -/
def rSetI (K : PySem.W.Frag) (w : World) : List V → Hp → VK → Prop := fun xs H Q => ∃ (l : Addr) (ns : List Int), xs = [.ref l] ∧ (SqL K H l (ns.map V.int) ∨ SqT K H l (ns.map V.int)) ∧ ns.length < 60 ∧
  ∀ a c, H a = none → c ≤ ns.length → Q (.ref a) (upd H a (SetO w a (fun j => decide (j ∈ ns)) c))
theorem cr_setInts {X : Cx} (hc : X.calm = true) : CallR X (.type "set") (rSetI X.K X.w) := by
  intro pins s σ H xs us Q I r h
  obtain ⟨l, ns, rfl, sq, few, q⟩ := h
  rw [Vals.ref1 r]
  have free : H s.heap.objs.size = none := I.hok.fresh (Nat.le_refl _)
  have room : ns.length + 1 < scanBound := by
    have : (100 : Nat) < scanBound := by decide
    omega
  rcases sq with sq | sq
  · obtain ⟨its, rv, pl, _⟩ := I.list sq
    exact set_of_ints (P := X.prog) (w := X.w) ns (I.ok.hd hc) pl.isList (ints_of_vals rv) room fun h2 k c R le kept =>
      ⟨.ref s.heap.objs.size, _, I.laid (t' := k) kept (Nat.le_refl _) (setO_new R), rfl, q _ c free le⟩
  · obtain ⟨its, rv, pl, _⟩ := I.tuple sq
    exact call_set_tupI (P := X.prog) (w := X.w) ns (I.ok.hd hc) pl (ints_of_vals rv) room fun h2 k c R le kept =>
      ⟨.ref s.heap.objs.size, _, I.laid (t' := k) kept (Nat.le_refl _) (setO_new R), rfl, q _ c free le⟩
end Lw

set_option Elab.async false
set_option linter.all false
set_option maxRecDepth 100000
set_option maxHeartbeats 2000000
namespace Lw
open PySem PySem.Spec PyProof.Rows L2 He
/-! ### enumerate(a tuple) -/
def ItEt (K : PySem.W.Frag) (a : Addr) : It :=
  ⟨fun i H => ∃ (xs : List V) (x : V), SqT K H a xs ∧ xs[i]? = some x, fun i H v H' => ∃ T x, v = .ref T ∧ H T = none ∧ H' = upd H T (.tup [.int (i : Nat), x]) ∧ ∀ xs, SqT K H a xs → xs[i]? = some x, fun i H => ∃ xs : List V, SqT K H a xs ∧ xs.length ≤ i⟩
theorem walk_enumT {K : PySem.W.Frag} {a : Addr} {xs : List V} : Walk (ItEt K a) xs.length (fun H => SqT K H a xs) (YPair (fun i => some (.int (i : Nat))) (fun i => xs[i]?)) :=
  ⟨fun i _ lt st => ⟨xs, xs[i], st, List.getElem?_eq_getElem lt⟩, fun _ st => ⟨xs, st, Nat.le_refl _⟩, fun i H v H' _ st y => by
    obtain ⟨T, x, e1, e2, e3, e4⟩ := y
    exact ⟨T, _, x, e1, e2, e3, rfl, e4 xs st⟩⟩
theorem turn_enumT {P : Program} {w : World} {K : PySem.W.Frag} {elts : List Expr} {kk : Nat} {tpos : Pos} (a e it : Addr) :
    Turn P w K (.Tuple elts kk tpos) (ItEt K a) [e, it] e (fun i h => (∃ old, IsEnum h e it ((i : Nat) : Int) old) ∧ h.IsTupleIter it a i ∧ e ≠ it ∧ a ≠ it ∧ a ≠ e) where
  mem := List.mem_cons_self
  obj := by
    rintro i h ⟨⟨old, isE⟩, ⟨o, at_, _, da⟩, _⟩ b hb
    rcases List.mem_cons.mp hb with rfl | hb
    · exact ⟨_, isE, fun _ z => nomatch z⟩
    · rw [List.mem_singleton.mp hb]
      exact ⟨o, at_, fun _ z => by rw [da] at z; cases z⟩
  keep := by
    rintro i h h' ⟨⟨old, isE⟩, isI, rest⟩ kp
    exact ⟨⟨old, kp e (by simp) _ isE⟩, isI.at fun o q => kp it (by simp) o q, rest⟩
  item := by
    rintro X rfl rfl rfl calm i pins s σ H E I fpOk ⟨⟨old, isE⟩, isI, ne, na, nb⟩ ⟨xs, x, sq, hx⟩
    obtain ⟨its, rv, tp, _⟩ := I.tuple sq
    obtain ⟨u, hu, ru⟩ := rv.get hx
    have hu2 : its.toArray[i]? = some u := by simpa using hu
    have eLt : e < s.heap.objs.size := Heap.lt_size isE
    have iLt : it < s.heap.objs.size := by
      obtain ⟨_, q, _⟩ := isI
      exact Heap.lt_size q
    have D := Draws.tuple (prog := X.prog) (w := X.w) (A := X.A.in1) (by simp [I.ok.hd calm]) it a na its.toArray
    have lt : i < its.toArray.size := (Array.getElem?_eq_some_iff.mp hu2).1
    refine wpAny_pyNext_enum_itemD D isE ⟨isI, tp⟩ lt ne (by simp [ne, Ne.symm nb]) fun x2 h2 tk hx2 isE2 st2 tup2 size2 kept2 => ?_
    obtain rfl : u = x2 := Option.some.inj (hu2.symm.trans hx2)
    refine ⟨_, rfl, wpAny_letOwnedTupleGo_enum (s := { s with heap := h2, toks := tk + 1 }) isE2 fun h3 isE3 but => ?_⟩
    have tup3 : h3.get? s.heap.objs.size = some { cls := .type "tuple", data := .seq #[.int i tk, u] } := (but.2 _ (Nat.ne_of_gt eLt)).trans tup2
    have new : ObjOk X.prog X.w (upd H s.heap.objs.size (.tup [.int (i : Nat), x])) h3 s.heap.objs.size (.tup [.int (i : Nat), x]) :=
      ⟨by show 2 ≤ sizeLine; decide, [.int i tk, u], Paired.cons ⟨_, rfl⟩ (Paired.cons ru Paired.nil), ⟨_, tup3, rfl, _, rfl⟩⟩
    have I3 : Inv X pins σ (upd H s.heap.objs.size (.tup [.int (i : Nat), x])) { s with heap := h3, toks := tk + 1 } :=
      I.turnedNew (ch := [e, it]) (fun b ob hb q => (but.2 b (fun z => hb (by simp [z]))).trans (kept2 b ob (fun z => hb (by simp [z])) (fun z => hb (by simp [z])) q)) fpOk (Nat.le_refl _) new
    refine ⟨.ref s.heap.objs.size, _, I3, rfl, ⟨_, x, rfl, I.hok.fresh (Nat.le_refl _), rfl, fun ys hy => by rw [I.tuple_inj hy sq]; exact hx⟩, ⟨⟨u, ?_⟩, st2.1.at fun o q => (but.2 it (Ne.symm ne)).trans q, ne, na, nb⟩, fun b hb => ?_⟩
    · rw [show ((i + 1 : Nat) : Int) = (i : Int) + 1 by omega]
      exact isE3
    · have bLt : b < s.heap.objs.size := by
        rcases List.mem_cons.mp hb with rfl | hb
        · exact eLt
        · rw [List.mem_singleton.mp hb]
          exact iLt
      rw [upd_ne (Nat.ne_of_lt bLt)]
      exact (fpOk b hb).1
  done := by
    rintro X rfl rfl rfl calm i pins s σ H E I fpOk ⟨⟨old, isE⟩, isI, ne, na, nb⟩ ⟨xs, sq, le⟩
    obtain ⟨its, rv, tp, _⟩ := I.tuple sq
    have past : its.toArray[i]? = none := by
      have := rv.length
      simp
      omega
    have cold : X.A.in1.handled = none := by simp [I.ok.hd calm]
    have D : Draws X.prog X.w X.A.in1 it [it, a] i (fun _ _ => True) (fun j h => j = i ∧ h.IsTupleIter it a i ∧ h.IsTuple a its.toArray) :=
      ⟨fun _ _ st => let ⟨o, ho, _⟩ := st.2.1; ⟨o, ho⟩, fun _ _ _ st kp => ⟨st.1, st.2.1.at fun o q => kp it (by simp) o q, st.2.2.at fun o q => kp a (by simp) o q⟩,
        fun j _ _ _ lt st _ => absurd st.1 (Nat.ne_of_lt lt), fun t Q2 E2 st end_ => wpAny_nextOf_tuple_end cold st.2.1 st.2.2 past end_⟩
    obtain ⟨f0, f1, f2, f3, f4, f5⟩ := fpOk it (by simp)
    exact wpAny_pyNext_enum_endD D isE ⟨rfl, isI, tp⟩ fun h2 but => ⟨rfl, I.turned (t' := s.toks) (fun b o hb q => but b o hb q) f0 f1 f3 f4 f5⟩
  self := fun A i s Q E st q => by
    obtain ⟨⟨_, isE⟩, _⟩ := st
    exact wpAny_pyIter_enum isE q
section
variable {P : Program} {w : World} {A : Around} {E : Value → Shared → Prop} {s : Shared}
theorem meets_enumT (t : Addr) (items : Array Value) : Meets (Builtin.«enumerate.__new__» ⟨[.type "enumerate", .ref t], []⟩) (fun _ R s => s.heap.IsTuple t items ∧
    R (.ok (.ret (.ref (s.heap.push { cls := .type "tuple_iterator", data := .fields #[.ref t, .int 0 0] }).objs.size)))
      { s with heap := (s.heap.push { cls := .type "tuple_iterator", data := .fields #[.ref t, .int 0 0] }).push { cls := .type "enumerate", data := .fields #[.none, .bool false, .ref s.heap.objs.size, rawInt 0, .none, .none] } }) :=
  .of_wp fun prog w A R s h => by
    obtain ⟨hp, g, d, tk, os⟩ := s
    obtain ⟨tup, fin⟩ := h
    have sub := sub_enumerate
    have iter : ∀ {A2 : Around} {E2 : Value → Shared → Prop} {Q2 : Value → Shared → Prop}, Q2 (.ref hp.objs.size) ⟨hp.push { cls := .type "tuple_iterator", data := .fields #[.ref t, .int 0 0] }, g, d, tk, os⟩ → wpAny (model prog w) A2 (pyIter (.ref t)) Q2 E2 ⟨hp, g, d, tk, os⟩ :=
      fun q => (begins_tuple t items).iter prog w _ _ ⟨hp, g, d, tk, os⟩ _ tup q
    wp_walk using iter
    refine wpAny_stack_any fun st => wpAny_pure ?_
    split
    · rename_i c _ _ _ _ _
      cases (c == Value.type "enumerate")
      · wp_walk using iter
        exact ⟨_, rfl, fin⟩
      · wp_walk using iter
        exact ⟨_, rfl, fin⟩
    · wp_walk using iter
      exact ⟨_, rfl, fin⟩
theorem enumT_made {t : Addr} {items : Array Value} {Q : Value → Shared → Prop} (tup : s.heap.IsTuple t items)
    (out : ∀ h2, IsEnum h2 (s.heap.objs.size + 1) s.heap.objs.size 0 .none → h2.IsTupleIter s.heap.objs.size t 0 → h2.objs.size = s.heap.objs.size + 2 → (∀ b o, s.heap.get? b = some o → h2.get? b = some o) →
      Q (.ref (s.heap.objs.size + 1)) { s with heap := h2 }) : wpAny (model P w) A (call (.type "enumerate") [.ref t]) Q E s := by
  refine callType_new F.called_enumerate (by decide) (F.typeCall_enumerate_1 _) (F.newCall_enumerate_1 _) (fun obj => F.args_object_init_2 obj _) F.entry_enumerate_new (meets_enumT t items) ⟨tup, ?_⟩
  have size1 : (s.heap.push { cls := .type "tuple_iterator", data := .fields #[.ref t, .int 0 0] }).objs.size = s.heap.objs.size + 1 := Heap.size_push ..
  have isE := Heap.get?_push_size (s.heap.push { cls := .type "tuple_iterator", data := .fields #[.ref t, .int 0 0] }) (o := { cls := .type "enumerate", data := .fields #[.none, .bool false, .ref s.heap.objs.size, rawInt 0, .none, .none] }) rfl
  change _ ∧ _
  rw [size1] at isE ⊢
  exact ⟨⟨_, isE, rfl⟩, out _ isE ⟨_, Heap.get?_push_of_some _ (Heap.get?_push_size _ rfl), rfl, rfl⟩ (by rw [Heap.size_push, size1]) fun b o x => Heap.get?_push_of_some _ (Heap.get?_push_of_some _ x)⟩
end
/-- enumerate(xs), xs a list or a tuple -/
def iEnumA (K : PySem.W.Frag) (ta : TA) : TI := fun σ H R => ta σ H fun vs H1 => ∃ a xs, vs = [.ref a] ∧ ((SqL K H1 a xs ∧ R (Ite K a) H1) ∨ (SqT K H1 a xs ∧ R (ItEt K a) H1))
theorem pi_enumA {X : Cx} {e0 : Expr} {ta : TA} {p pos tpos : Pos} {elts : List Expr} {kk : Nat} (gl : Gl X "enumerate") (mg : X.mg "enumerate" = none) (pa : PA X [e0] ta) (st : starEach [e0] X.env = [(false, eval e0 X.env)] := by rfl) :
    PI X (.Tuple elts kk tpos) (.Call (.Name "enumerate" p) [e0] [] pos) (iEnumA X.K ta) := by
  refine ⟨fun pins s σ H R I wish => Call_ (ld_blt I gl mg boot_enumerate (PyProof.Rows.callWith_type1 (thn (pa.run pos pins s σ H _ I wish) ?_) st rfl))⟩
  rintro us s1 ⟨vs, H1, I1, rel, a, xs, rfl, ⟨sq, q⟩ | ⟨sq, q⟩⟩
  · rw [Vals.ref1 rel]
    obtain ⟨its, rv, pl, _⟩ := I1.list sq
    refine call_enumerate_list pl.isList fun h2 isE isI size2 kp => wpAny_pyIter_enum isE ?_
    refine ⟨s1.heap.objs.size + 1, [s1.heap.objs.size + 1, s1.heap.objs.size], _, _, H1, rfl, I1.kept (t' := s1.toks) kp, turn_enum a _ _, ⟨⟨.none, isE⟩, isI, Nat.succ_ne_self _⟩, fun b hb => ?_, q⟩
    have le : s1.heap.objs.size ≤ b := by
      rcases List.mem_cons.mp hb with rfl | hb
      · exact Nat.le_succ _
      · rw [List.mem_singleton.mp hb]
        exact Nat.le_refl _
    exact I1.fpOk le (I1.hok.fresh le)
  · rw [Vals.ref1 rel]
    obtain ⟨its, rv, tp, _⟩ := I1.tuple sq
    have below : a < s1.heap.objs.size := by
      obtain ⟨_, at_, _⟩ := tp
      exact Heap.lt_size at_
    refine enumT_made tp fun h2 isE isI size2 kp => wpAny_pyIter_enum isE ?_
    refine ⟨s1.heap.objs.size + 1, [s1.heap.objs.size + 1, s1.heap.objs.size], _, _, H1, rfl, I1.kept (t' := s1.toks) kp, turn_enumT a _ _, ⟨⟨.none, isE⟩, isI, Nat.succ_ne_self _, Nat.ne_of_lt below, Nat.ne_of_lt (Nat.lt_succ_of_lt below)⟩, fun b hb => ?_, q⟩
    have le : s1.heap.objs.size ≤ b := by
      rcases List.mem_cons.mp hb with rfl | hb
      · exact Nat.le_succ _
      · rw [List.mem_singleton.mp hb]
        exact Nat.le_refl _
    exact I1.fpOk le (I1.hok.fresh le)
end Lw

set_option Elab.async false
set_option linter.all false
set_option maxRecDepth 100000
set_option maxHeartbeats 2000000
namespace Lw
open PySem PySem.Spec PyProof.Rows L2 He
/-! ### try with several clauses, named and unnamed -/
abbrev Cl : Type := Value × Option Nat × (Addr → Value → Option Addr → TS)
def cEnds (D : Ends) : Option Nat → Ends
  | none => D
  | some i => ⟨fun σ H => D.nx (σ.set i none) H, D.rt, fun σ H => D.bk (σ.set i none) H, fun σ H => D.ct (σ.set i none) H⟩
def cSt (σ : L2.St) (a : Addr) : Option Nat → L2.St
  | none => σ
  | some i => σ.set i (some (.ref a))
def wMix (K : PySem.W.Frag) (Wout : WX) (D : Ends) : List Cl → WX
  | [] => Wout
  | (c, n, ts) :: r => fun cls d σ H => ∃ hit, PySem.W.exmOne K cls c = some hit ∧ (hit = true → ∀ a, H a = none → ts a cls d (cEnds D n) (cSt σ a n) H) ∧ (hit = false → wMix K Wout D r cls d σ H)
/-- a clause's suite is walked -/
def SuOk (X : Cx) (ss : List Stmt) (ts : Addr → Value → Option Addr → TS) : Prop :=
  ∀ (a : Addr) (oe : Obj) (cls : Value) (d : Option Addr) (pn : List (Addr × Obj)), L2N.Zn cls d oe → (∃ vs, oe.data = .fields vs) → PSs (X.suite a ((a, oe) :: pn)) ss (ts a cls d)
inductive Mix (X : Cx) : List ExceptHandler → List Cl → Prop
  | nil : Mix X [] []
  | no {x : Str} {c : Value} {ts : Addr → Value → Option Addr → TS} {s0 : Stmt} {sr : List Stmt} {p1 p2 : Pos} {hs : List ExceptHandler} {l : List Cl} (nm : Names X x c) (su : SuOk X (s0 :: sr) ts) (r : Mix X hs l) :
      Mix X (.ExceptHandler (some (.Name x p1)) none (s0 :: sr) p2 :: hs) ((c, none, ts) :: l)
  | as {x n : Str} {i : Nat} {c : Value} {ts : Addr → Value → Option Addr → TS} {s0 : Stmt} {sr : List Stmt} {p1 p2 : Pos} {hs : List ExceptHandler} {l : List Cl} (at_ : X.N[i]? = some n) (own : X.env.kindOf n = some .local) (nm : Names X x c)
      (su : SuOk X (s0 :: sr) ts) (r : Mix X hs l) : Mix X (.ExceptHandler (some (.Name x p1)) (some n) (s0 :: sr) p2 :: hs) ((c, some i, ts) :: l)
section
variable {X : Cx} {pins : List (Addr × Obj)} {σ : L2.St} {H : Hp} {a : Addr} {cls : Value} {d : Option Addr} {t : Shared}
/-- the exception at a has been caught, the state is t -/
structure Caught (X : Cx) (pins : List (Addr × Obj)) (σ : L2.St) (H : Hp) (a : Addr) (cls : Value) (d : Option Addr) (t : Shared) : Prop where
  ok : X.Ok
  na : H a = none
  see : ∃ oe, t.heap.get? a = some oe ∧ oe.cls = cls ∧ Inv (X.suite a ((a, oe) :: (X.pn ++ pins))) [] σ H t
  enter : ∀ {Q E : Shared → Prop}, (∀ oe t', L2N.Zn cls d oe → (∃ vs, oe.data = .fields vs) → Inv (X.suite a ((a, oe) :: (X.pn ++ pins))) [] σ H t' → Q t') →
    ∀ {F : Value → Shared → Prop}, wpAny (model X.prog X.w) (X.A.mark (some (.ref a))) (setFlight (.ref a) none) (fun _ t' => Q t') F t
  leave : ∀ {W : WX} {D : Ends}, L2N.Takes X W → W cls d σ H → wpAny (model X.prog X.w) X.A (handleBy (.ref a) X.env []) (SP X pins D) X.xe t
/-- how a suite ends, seen from behind it -/
theorem suite_end {D : Ends} {oe : Obj} {f : Flow} {t' : Shared} (ok : X.Ok) (h : SP (X.suite a ((a, oe) :: (X.pn ++ pins))) [] D f t') : SP X pins D f t' := by
  cases f with
  | next => exact h.imp fun _ h => h.imp fun _ h => ⟨h.1.unsuite ok, h.2⟩
  | brk => exact h.imp fun _ h => h.imp fun _ h => ⟨h.1.unsuite ok, h.2⟩
  | cont => exact h.imp fun _ h => h.imp fun _ h => ⟨h.1.unsuite ok, h.2⟩
  | ret u => exact h.imp fun _ h => h.imp fun _ h => h.imp fun _ h => ⟨h.1.unsuite ok, h.2⟩
theorem suite_gone {D : Ends} {oe : Obj} {f : Flow} {t' : Shared} {i : Nat} {n : Str} {p : Pos} {F : Value → Shared → Prop} (ok : X.Ok) (nd : X.N.Nodup) (at_ : X.N[i]? = some n) (own : X.env.kindOf n = some .local)
    (h : SP (X.suite a ((a, oe) :: (X.pn ++ pins))) [] (cEnds D (some i)) f t') :
    wpAny (model X.prog X.w) X.A (do bindName X.env n .none; unbindBehindTheSuite X.env n p) (fun _ t3 => SP X pins D f t3) F t' := by
  cases f with
  | next =>
    obtain ⟨σ2, H2, J, q⟩ := h
    exact gone_ok (J.unsuite ok) nd at_ own fun _ J3 => ⟨_, _, J3, q⟩
  | brk =>
    obtain ⟨σ2, H2, J, q⟩ := h
    exact gone_ok (J.unsuite ok) nd at_ own fun _ J3 => ⟨_, _, J3, q⟩
  | cont =>
    obtain ⟨σ2, H2, J, q⟩ := h
    exact gone_ok (J.unsuite ok) nd at_ own fun _ J3 => ⟨_, _, J3, q⟩
  | ret u =>
    obtain ⟨v, σ2, H2, J, rv, q⟩ := h
    exact gone_ok (J.unsuite ok) nd at_ own fun _ J3 => ⟨_, _, _, J3, rv, q⟩
/-- a clause's test -/
theorem clause_test (C : Caught X pins σ H a cls d t) {x : Str} {c : Value} {p : Pos} {hit : Bool} (nm : Names X x c) (m : PySem.W.exmOne X.K cls c = some hit) {Q : Bool → Shared → Prop} {F G : Value → Shared → Prop} (q : Q hit t) :
    wpAny (model X.prog X.w) (X.A.mark (some (.ref a))) (eval (.Name x p) X.env) (fun c' t1 => wpAny (model X.prog X.w) (X.A.mark (some (.ref a))) (excMatches (.ref a) c') Q F t1) G t := by
  obtain ⟨oe, at_, rfl, S⟩ := C.see
  have look : PySem.W.Looks (model X.prog X.w) t.heap (typeOf (.ref a)) oe.cls := fun _ _ _ _ kp w => wpAny_typeOf_ref (kp _ _ at_) w
  have hit_ := PySem.W.exm_one (M := model X.prog X.w) S.kIn look m
  obtain ⟨gl, nodbg, bound | ⟨unbound, blt, notname⟩⟩ := nm
  · exact ld_glob (X := X.suite a ((a, oe) :: (X.pn ++ pins))) S gl bound (hit_.here q) nodbg
  · exact ld_blt (X := X.suite a ((a, oe) :: (X.pn ++ pins))) S gl unbound blt (hit_.here q) notname nodbg
theorem clauses (nd : X.N.Nodup) {Wout : WX} {D : Ends} (tk : L2N.Takes X Wout) (C : Caught X pins σ H a cls d t) : ∀ {hs : List ExceptHandler} {l : List Cl}, Mix X hs l → wMix X.K Wout D l cls d σ H →
    wpAny (model X.prog X.w) X.A (handleBy (.ref a) X.env hs) (SP X pins D) X.xe t := by
  intro hs l M
  induction M with
  | nil => exact fun w => C.leave tk w
  | no nm su r ih =>
    rintro ⟨hit, m, yes, no⟩
    refine wpAny_handleBy_cons (codeAny_handlers_test (clause_test C nm m ?_)) fun z => nomatch z
    cases hit with
    | false => exact ih (no rfl)
    | true =>
      refine codeAny_handlers_suite (C.enter (E := fun _ => True) fun oe t' hz hf S => ?_)
      exact wpAny_mono ((su a oe cls d (X.pn ++ pins) hz hf).run [] _ _ _ _ S (yes rfl a C.na)) (fun f t2 e => suite_end C.ok e) fun _ _ no => False.elim no
  | @as x n i c ts s0 sr p1 p2 hs l at_ own nm su r ih =>
    rintro ⟨hit, m, yes, no⟩
    refine wpAny_handleBy_cons (codeAny_handlers_test (clause_test C nm m ?_)) fun z => nomatch z
    cases hit with
    | false => exact ih (no rfl)
    | true =>
      refine codeAny_handlers_suite_as (C.enter (E := fun _ => True) fun oe t' hz hf S => ?_)
      refine store_ok (X := X.suite a ((a, oe) :: (X.pn ++ pins))) (v := V.ref a) S nd at_ (Or.inl own) (show RelV (V.ref a) (Value.ref a) from rfl) (fun t2 S2 => ?_) (Or.inr own)
      exact wpAny_mono ((su a oe cls d (X.pn ++ pins) hz hf).run [] _ _ _ _ S2 (yes rfl a C.na)) (fun f t3 e => suite_gone C.ok nd at_ own e) fun _ _ no => False.elim no
/-- from the air to the ground -/
theorem caught_of (stk : X.stack = X.env :: X.outer) (frm : X.env.frame = some X.env.locals) {B : Heap} {sI s' : Shared} {h3 : Heap} (J : Inv X pins σ H sI)
    (nb : ∀ b o, sI.heap.get? b = some o → b ∉ frs X.stack → B.get? b = some o) (na : H a = none) (os : s'.os = sI.os) (ag : AllBare s'.gens) (fl : HandSPX.FlyingZ B (X.env :: X.outer) a (L2N.Zn cls d) h3) (up : sI.heap.UpToSlots h3) :
    Caught X pins σ H a cls d { s' with heap := h3 } := by
  obtain ⟨oe, vs, at3, z3, d3⟩ := fl.there
  have apart : a ∉ frs (X.env :: X.outer) := fun hm => by
    obtain ⟨_, o2, at2, nf⟩ := fl.2.2.1.mem hm
    rw [at3] at at2
    obtain rfl := Option.some.inj at2
    exact nf _ d3
  have nL : a ≠ X.env.locals := fun e => apart (List.mem_filterMap.mpr ⟨X.env, List.mem_cons_self, by rw [frm, e]⟩)
  have nF : a ∉ X.fs := fun hm => by
    obtain ⟨e, he, q⟩ := List.mem_filterMap.mp hm
    exact apart (List.mem_filterMap.mpr ⟨e, List.mem_cons_of_mem _ he, q⟩)
  refine ⟨J.ok, na, ⟨oe, at3, z3.1, (J.landed (s' := { s' with heap := h3 }) nb fl.1 up os ag).suite at3 d3 na nL nF⟩, fun {Q E} q {F} => ?_, fun {W D} tk w => ?_⟩
  · refine HandSPX.lands_againZ (s := { s' with heap := h3 }) fl fun h4 fl4 up4 => ?_
    obtain ⟨oe4, vs4, at4, z4, d4⟩ := fl4.there
    exact q oe4 _ z4 ⟨_, d4⟩ ((J.landed (s' := { s' with heap := h4 }) nb fl4.1 (up.trans up4) os ag).suite at4 d4 na nL nF)
  · apply wpAny_handleBy_nil
    obtain ⟨_, _, _, o5, v5, T, oT, _, at5, _, d5, tb, _⟩ := id fl
    unfold PySem.passOn
    refine wpAny_bind (wpAny_field at5 d5 tb ?_)
    rw [if_neg (show ¬ ((Value.ref T == Value.none) = true) by simp)]
    have out : wpAny (model X.prog X.w) X.A (setFlight (.ref a) X.env.frame) (fun _ t4 => wpAny (model X.prog X.w) X.A (throw (.ref a) : Sem Flow) (SP X pins D) X.xe t4) X.xe { s' with heap := h3 } := by
      rw [frm]
      refine HandSPX.setFlight_upZ (s := { s' with heap := h3 }) fl fun h4 held up4 => wpAny_throw (tk _ _ ?_)
      exact ⟨a, B, sI, pins, σ, H, cls, d, rfl, J, nb, up.trans up4, Or.inr (Or.inr (by rw [stk]; exact held)), na, os, ag, w⟩
    first
    | exact wpAny_bind (wpAny_pure (wpAny_bind out))
    | exact wpAny_bind out
end
def tTryMix (K : PySem.W.Frag) (l : List Cl) (Wout : WX) (tb : WX → TS) : TS := fun D σ H => tb (wMix K Wout D l) D σ H
theorem rd_tryMix {K : PySem.W.Frag} {σ : L2.St} {H : Hp} {D : Ends} {l : List Cl} {Wout : WX} {tb : WX → TS} (h : tb (wMix K Wout D l) D σ H) : tTryMix K l Wout tb D σ H := h
theorem ps_tryMix {X : Cx} {K : PySem.W.Frag} {body : List Stmt} {h0 : ExceptHandler} {hr : List ExceptHandler} {l : List Cl} {p : Pos} {tb : WX → TS} {Wout : WX} (eK : X.K = K) (stk : X.stack = X.env :: X.outer) (frm : X.env.frame = some X.env.locals) (nd : X.N.Nodup)
    (tk : L2N.Takes X Wout) (hb : ∀ (W : WX) (pn : List (Addr × Obj)) (xe : Value → Shared → Prop), L2N.Takes (X.tr pn xe) W → PassesOwn (model X.prog X.w) X.A X.env xe → PSs (X.tr pn xe) body (tb W)) (M : Mix X (h0 :: hr) l) :
    PS X (.Try body (h0 :: hr) [] [] p) (tTryMix K l Wout tb) := by
  subst eK
  refine ⟨fun pins s σ H D I w => wpAny_Try_except ?_⟩
  have fr : X.A.frames = some (X.env :: X.outer) := by rw [I.ok.frames, stk]
  have walked := (hb (wMix X.K Wout D l) (X.pn ++ pins) (fun u t => wpAny (model X.prog X.w) X.A (noteFrame u X.env) (fun _ t1 => wpAny (model X.prog X.w) X.A (setFlight u none) (fun _ t2 =>
    wpAny (model X.prog X.w) X.A (handleBy u X.env (h0 :: hr)) (SP X pins D) X.xe t2) X.xe t1) X.xe t) ?_ PassesOwn.looking).run [] s σ H D (I.toTry _) w
  · refine wpAny_mono walked (fun f t e => ?_) fun _ _ e => e
    cases f with
    | next => exact wpAny_execs_nil (e.imp fun _ e => e.imp fun _ e => ⟨e.1.ofTry I.ok, e.2⟩)
    | brk => exact e.imp fun _ e => e.imp fun _ e => ⟨e.1.ofTry I.ok, e.2⟩
    | cont => exact e.imp fun _ e => e.imp fun _ e => ⟨e.1.ofTry I.ok, e.2⟩
    | ret u => exact e.imp fun _ e => e.imp fun _ e => e.imp fun _ e => ⟨e.1.ofTry I.ok, e.2⟩
  · rintro u t ⟨a, B, sI, pn2, σ2, H2, cls, d, rfl, J2, nb, up, sky, na, os, ag, wish⟩
    have land : Sky B (X.env :: X.outer) a (L2N.Zn cls d) X.env.locals t.heap := by
      rw [← stk]
      exact sky
    change wpAny (model X.prog X.w) X.A (noteFrame (.ref a) X.env) _ _ _
    exact L2N.Sky.land L2N.Zn.steady fr frm land fun h3 fl up3 => clauses nd tk (caught_of stk frm (J2.ofTry I.ok) nb na os ag fl (up.trans up3)) M wish
end Lw

set_option Elab.async false
set_option linter.all false
set_option maxRecDepth 100000
set_option maxHeartbeats 2000000
namespace Lw
open PySem PySem.Spec PyProof.Rows L2 He Evl StX
section
variable {X : Cx} {K : PySem.W.Frag} {w : World}
theorem kpi_enumA {e0 : Expr} {ta : TA} {p pos tpos : Pos} {elts : List Expr} {kk : Nat} (h : X.K = K) (gl : Gl X "enumerate") (mg : X.mg "enumerate" = none) (pa : PA X [e0] ta) (st : starEach [e0] X.env = [(false, eval e0 X.env)] := by rfl) :
    PI X (.Tuple elts kk tpos) (.Call (.Name "enumerate" p) [e0] [] pos) (iEnumA K ta) := h ▸ pi_enumA gl mg pa st
theorem kc_setI (h : X.K = K) (hw : X.w = w) (hc : X.calm = true) : CallR X (.type "set") (rSetI K w) := h ▸ hw ▸ cr_setInts hc
theorem kc_sortedSet (hw : X.w = w) (hc : X.calm = true) : CallR X (.builtin "sorted") (rSortedSet w) := hw ▸ cr_sortedSet hc
/-- isinstance(x, (A, B)) -/
def rIsT2 (K : PySem.W.Frag) : List V → Hp → VK → Prop := fun xs H Q => ∃ (x : V) (tp : Addr) (A B n : String), xs = [x, .ref tp] ∧ H tp = some (.tup [.ty A, .ty B]) ∧ Th K H x n ∧ A ∈ kinds ∧ B ∈ kinds ∧ Q (.bl (isTab n A || isTab n B)) H
theorem call_isT2 : CallR X (.builtin "isinstance") (rIsT2 X.K) := by
  intro pins s σ H xs us Q I r h
  obtain ⟨x, tp, A, B, n, rfl, hT, th, hA, hB, q⟩ := h
  refine call_isiT pins s σ H _ us Q I r ⟨x, tp, _, _, [.type A, .type B], _, rfl, hT, Paired.cons (.ty A) (Paired.cons (.ty B) Paired.nil), th.t, ?_, q⟩
  refine kitAny_cons (kit_ty (isTab_ok n th.k A hA)) (fun e => ?_) fun e => by rw [e, Bool.true_or]
  rw [e, Bool.false_or]
  refine kitAny_cons (kit_ty (isTab_ok n th.k B hB)) (fun e2 => by rw [e2]; exact kitAny_nil) fun e2 => e2
theorem kc_isT2 (h : X.K = K) : CallR X (.builtin "isinstance") (rIsT2 K) := h ▸ call_isT2
end
theorem rd_iEnumA {K : PySem.W.Frag} {σ : L2.St} {H : Hp} {ta : TA} {R : It → Hp → Prop} (h : ta σ H fun vs H1 => ∃ a xs, vs = [.ref a] ∧ ((SqL K H1 a xs ∧ R (Ite K a) H1) ∨ (SqT K H1 a xs ∧ R (ItEt K a) H1))) : iEnumA K ta σ H R := h
theorem rd_tupRg {σ : L2.St} {H : Hp} {Q : VK} {te : L2.St → Hp → (Int → Int → Hp → Prop) → Prop} (h : te σ H fun a b H1 => RgOk a b ∧ ∀ q, H1 q = none → Q (.ref q) (upd H1 q (.tup (rgV a b)))) : tTupRg te σ H Q := h
theorem rgV_nat (n : Nat) : rgV 0 (n : Int) = ((List.range n).map fun (k : Nat) => (k : Int)).map V.int := by
  unfold rgV
  rw [List.map_map, show ((n : Int) - 0).toNat = n by omega]
  exact List.map_congr_left fun k _ => by rw [Int.zero_add]; rfl
/-! ### strictly sorted, without repeats -/
def insU (x : Int) : List Int → List Int
  | [] => [x]
  | y :: r => if x < y then x :: y :: r else if x = y then y :: r else y :: insU x r
def uniq : List Int → List Int
  | [] => []
  | x :: r => insU x (uniq r)
theorem insU_mem (x z : Int) : ∀ l, z ∈ insU x l ↔ z = x ∨ z ∈ l
  | [] => by simp [insU]
  | y :: r => by
    unfold insU
    split
    · simp
    · split
      · rename_i e
        subst e
        simp
      · rw [List.mem_cons, insU_mem x z r, List.mem_cons]
        constructor
        · rintro (h | h | h) <;> simp [h]
        · rintro (h | h | h) <;> simp [h]
theorem insU_sorted (x : Int) : ∀ l, l.Pairwise (· < ·) → (insU x l).Pairwise (· < ·)
  | [], _ => .cons (fun _ h => nomatch h) .nil
  | y :: r, h => by
    unfold insU
    cases h with
    | cons h1 h2 =>
      split
      · rename_i lt
        refine .cons (fun z hz => ?_) (.cons h1 h2)
        rcases List.mem_cons.mp hz with rfl | hz
        · exact lt
        · exact Int.lt_trans lt (h1 z hz)
      · split
        · exact .cons h1 h2
        · refine .cons (fun z hz => ?_) (insU_sorted x r h2)
          rcases (insU_mem x z r).mp hz with rfl | hz
          · omega
          · exact h1 z hz
theorem uniq_mem (z : Int) : ∀ l, z ∈ uniq l ↔ z ∈ l
  | [] => Iff.rfl
  | x :: r => by
    show z ∈ insU x (uniq r) ↔ _
    rw [insU_mem, uniq_mem z r, List.mem_cons]
theorem uniq_sorted : ∀ l, (uniq l).Pairwise (· < ·)
  | [] => .nil
  | x :: r => insU_sorted x _ (uniq_sorted r)
theorem strict_eq : ∀ {a b : List Int}, a.Pairwise (· < ·) → b.Pairwise (· < ·) → (∀ z, z ∈ a ↔ z ∈ b) → a = b
  | [], [], _, _, _ => rfl
  | [], y :: b, _, _, h => absurd ((h y).mpr List.mem_cons_self) (by simp)
  | x :: a, [], _, _, h => absurd ((h x).mp List.mem_cons_self) (by simp)
  | x :: a, y :: b, ha, hb, h => by
    cases ha with
    | cons ha1 ha2 => cases hb with
      | cons hb1 hb2 =>
        have e : x = y := by
          have h1 := (h x).mp List.mem_cons_self
          have h2 := (h y).mpr List.mem_cons_self
          rcases List.mem_cons.mp h1 with z | z
          · exact z
          · rcases List.mem_cons.mp h2 with z2 | z2
            · exact z2.symm
            · have := hb1 x z
              have := ha1 y z2
              omega
        subst e
        refine congrArg (x :: ·) (strict_eq ha2 hb2 fun z => ⟨fun hz => ?_, fun hz => ?_⟩)
        · rcases List.mem_cons.mp ((h z).mp (List.mem_cons_of_mem _ hz)) with e2 | h2
          · exact absurd (ha1 z hz) (by omega)
          · exact h2
        · rcases List.mem_cons.mp ((h z).mpr (List.mem_cons_of_mem _ hz)) with e2 | h2
          · exact absurd (hb1 z hz) (by omega)
          · exact h2
theorem uniq_len : ∀ l, (uniq l).length ≤ l.length
  | [] => Nat.le_refl _
  | x :: r => by
    have ins : ∀ l, (insU x l).length ≤ l.length + 1 := by
      intro l
      induction l with
      | nil => exact Nat.le_refl _
      | cons y t ih =>
        unfold insU
        split
        · exact Nat.le_refl _
        · split
          · exact Nat.le_succ _
          · simp only [List.length_cons]
            omega
    exact Nat.le_trans (ins _) (Nat.succ_le_succ (uniq_len r))
/-- sorted(set(ns)) -/
theorem rd_sortedSet {w : World} {H : Hp} {Q : VK} {a : Addr} {ns : List Int} {c : Nat} (h : H a = some (SetO w a (fun j => decide (j ∈ ns)) c)) (few : c < 64) (q : ∀ p, H p = none → Q (.ref p) (upd H p (.lst ((uniq ns).map V.int)))) : rSortedSet w [.ref a] H Q :=
  ⟨a, _, c, rfl, h, few, fun ms p srt mem _ free => by
    rw [strict_eq srt (uniq_sorted ns) fun z => (mem z).trans ((decide_eq_true_iff).trans (uniq_mem z ns).symm)]
    exact q p free⟩
/-! ### rows of things -/
def Odd (K : PySem.W.Frag) (H : Hp) (x : V) : Prop := ∀ H', Ex H H' → Thg K H' x
theorem Odd.ex {K : PySem.W.Frag} {H H' : Hp} {x : V} (h : Odd K H x) (e : Ex H H') : Odd K H' x := fun H2 e2 => h H2 (e.trans e2)
/-- y is a list or a tuple of the things xs, or no such thing (none) -/
def RowV (K : PySem.W.Frag) (H : Hp) (y : V) : Option (List V) → Prop
  | none => ∃ n, (∀ H', Ex H H' → Th K H' y n) ∧ isTab n "list" = false ∧ isTab n "tuple" = false
  | some xs => ∃ a, y = .ref a ∧ (H a = some (.lst xs) ∨ H a = some (.tup xs)) ∧ xs.length ≤ 1000 ∧ ∀ x ∈ xs, Odd K H x
def firstOff (hi : Int) (xs : List V) : Option Nat := xs.findIdx? fun x => !wholeV 0 hi x
def badOf (hi : Int) : Option (List V) → Option Nat
  | none => some 0
  | some xs => firstOff hi xs
theorem RowV.ex {K : PySem.W.Frag} {H H' : Hp} {y : V} {r : Option (List V)} (h : RowV K H y r) (e : Ex H H') : RowV K H' y r := by
  cases r with
  | none =>
    obtain ⟨n, th, rest⟩ := h
    exact ⟨n, fun H2 e2 => th H2 (e.trans e2), rest⟩
  | some xs =>
    obtain ⟨a, rfl, at_, len, od⟩ := h
    exact ⟨a, rfl, at_.imp (e _ _) (e _ _), len, fun x hx => (od x hx).ex e⟩
theorem odd_int {K : PySem.W.Frag} {H : Hp} (i : Int) : Odd K H (.int i) := fun _ _ => ⟨_, th_int i⟩
theorem off_ints {hi : Int} {ns : List Int} (h : firstOff hi (ns.map V.int) = none) : ∀ z ∈ ns, 0 ≤ z ∧ z ≤ hi := fun z hz => by
  unfold firstOff at h
  rw [List.findIdx?_eq_none_iff] at h
  have := h (.int z) (List.mem_map.mpr ⟨z, hz, rfl⟩)
  have w : wholeV 0 hi (.int z) = true := by simpa using this
  have w2 : (decide ((0 : Int) ≤ z) && decide (z ≤ hi)) = true := w
  simp only [Bool.and_eq_true, decide_eq_true_eq] at w2
  exact w2
theorem ints_off {hi : Int} {xs : List V} (h : firstOff hi xs = none) : ∃ ns : List Int, xs = ns.map V.int ∧ ∀ z ∈ ns, 0 ≤ z ∧ z ≤ hi := by
  unfold firstOff at h
  rw [List.findIdx?_eq_none_iff] at h
  have all : ∀ x ∈ xs, ∃ z, x = V.int z := fun x hx => by
    have w : wholeV 0 hi x = true := by simpa using h x hx
    cases x with
    | int z => exact ⟨z, rfl⟩
    | _ => cases w
  have mk : ∀ l : List V, (∀ x ∈ l, ∃ z, x = V.int z) → ∃ ns : List Int, l = ns.map V.int := by
    intro l
    induction l with
    | nil => exact fun _ => ⟨[], rfl⟩
    | cons x t ih =>
      intro hl
      obtain ⟨z, rfl⟩ := hl x List.mem_cons_self
      obtain ⟨ns, rfl⟩ := ih fun y hy => hl y (List.mem_cons_of_mem _ hy)
      exact ⟨z :: ns, rfl⟩
  obtain ⟨ns, rfl⟩ := mk xs all
  exact ⟨ns, rfl, off_ints (by unfold firstOff; rw [List.findIdx?_eq_none_iff]; exact h)⟩
end Lw

set_option Elab.async false
set_option linter.all false
set_option maxRecDepth 100000
set_option maxHeartbeats 2000000
namespace Lw
open PySem PySem.Spec PyProof.Rows L2 He Evl StX
/-! ### data: rows of ints, compared -/
theorem dp_ints {K : PySem.W.Frag} {H : Hp} : ∀ ns : List Int, DpAll K H (ns.map V.int) (ns.map PyData.int)
  | [] => .nil
  | n :: r => .cons (.int n) (dp_ints r)
theorem lay_ints : ∀ ns : List Int, PyData.canLayAll0 (ns.map PyData.int) = true
  | [] => by simp only [List.map_nil, PyData.canLayAll0]
  | n :: r => by simp only [List.map_cons, PyData.canLayAll0, PyData.canLay0, lay_ints r, Bool.and_self]
theorem depth_ints : ∀ ns : List Int, PyData.depthAll (ns.map PyData.int) = 0
  | [] => by simp only [List.map_nil, PyData.depthAll]
  | n :: r => by simp only [List.map_cons, PyData.depthAll, PyData.depth, depth_ints r, Nat.max_self]
theorem shaped_lst (ns : List Int) : SeqAt.shaped (.list (ns.map PyData.int)) = true := by
  unfold SeqAt.shaped
  simp only [PyData.canLay0, PyData.depth, lay_ints, depth_ints]
  decide
theorem shaped_tup (ns : List Int) : SeqAt.shaped (.tuple (ns.map PyData.int)) = true := by
  unfold SeqAt.shaped
  simp only [PyData.canLay0, PyData.depth, lay_ints, depth_ints]
  decide
theorem eqv_ints : ∀ a b : List Int, PyData.eqvAll (a.map PyData.int) (b.map PyData.int) = decide (a = b)
  | [], [] => by simp [PyData.eqvAll]
  | [], y :: b => by simp [PyData.eqvAll]
  | x :: a, [] => by simp [PyData.eqvAll]
  | x :: a, y :: b => by
    simp only [List.map_cons, PyData.eqvAll, PyData.eqv, eqv_ints a b]
    by_cases e : x = y
    · subst e
      by_cases e2 : a = b
      · simp [e2]
      · simp [e2]
    · simp [e]
theorem rd_eqL {K : PySem.W.Frag} {H : Hp} {Q : VK} {p q : Addr} {a b : List Int} (h1 : SqL K H p (a.map V.int)) (h2 : SqL K H q (b.map V.int)) (k : Q (.bl (decide (a = b))) H) : rEqD K (.ref p) (.ref q) H Q :=
  ⟨_, _, .lst h1 (dp_ints a), .lst h2 (dp_ints b), shaped_lst a, shaped_lst b, by simp only [PyData.eqv]; rw [eqv_ints]; exact k⟩
theorem rd_neL {K : PySem.W.Frag} {H : Hp} {Q : VK} {p q : Addr} {a b : List Int} (h1 : SqL K H p (a.map V.int)) (h2 : SqL K H q (b.map V.int)) (k : Q (.bl (!decide (a = b))) H) : rNeD K (.ref p) (.ref q) H Q :=
  ⟨_, _, .lst h1 (dp_ints a), .lst h2 (dp_ints b), shaped_lst a, shaped_lst b, by simp only [PyData.eqv]; rw [eqv_ints]; exact k⟩
theorem rd_neT {K : PySem.W.Frag} {H : Hp} {Q : VK} {p q : Addr} {a b : List Int} (h1 : SqT K H p (a.map V.int)) (h2 : SqT K H q (b.map V.int)) (k : Q (.bl (!decide (a = b))) H) : rNeD K (.ref p) (.ref q) H Q :=
  ⟨_, _, .tup h1 (dp_ints a), .tup h2 (dp_ints b), shaped_tup a, shaped_tup b, by simp only [PyData.eqv]; rw [eqv_ints]; exact k⟩
theorem rd_eqT {K : PySem.W.Frag} {H : Hp} {Q : VK} {p q : Addr} {a b : List Int} (h1 : SqT K H p (a.map V.int)) (h2 : SqT K H q (b.map V.int)) (k : Q (.bl (decide (a = b))) H) : rEqD K (.ref p) (.ref q) H Q :=
  ⟨_, _, .tup h1 (dp_ints a), .tup h2 (dp_ints b), shaped_tup a, shaped_tup b, by simp only [PyData.eqv]; rw [eqv_ints]; exact k⟩
theorem rd_sl {σ : L2.St} {H : Hp} {Q : VK} {r : V → Option Int → Option Int → Hp → VK → Prop} {te : TE} {tl th : TO} (h : te σ H fun x H1 => tl σ H1 fun l H2 => th σ H2 fun u H3 => r x l u H3 Q) : tSl r te tl th σ H Q := h
theorem rd_noPart {σ : L2.St} {H : Hp} {Q : Option Int → Hp → Prop} (h : Q none H) : tNoPart σ H Q := h
theorem rd_part {σ : L2.St} {H : Hp} {te : TE} {Q : Option Int → Hp → Prop} (h : te σ H fun x H1 => ∃ i, x = .int i ∧ Q (some i) H1) : tPart te σ H Q := h
theorem rd_oint {i : Int} {P : Int → Prop} (h : P i) : ∃ j, V.int i = .int j ∧ P j := ⟨i, rfl, h⟩
theorem cut_take {xs : List V} {k : Nat} (h : k ≤ xs.length) : cutV xs none (some (k : Int)) = xs.take k := by
  unfold cutV
  rw [HT.sIx_nat, HT.sIx_none, List.drop_zero, Nat.min_eq_left h, Nat.sub_zero]
theorem cut_drop {xs : List V} {k : Nat} (h : k ≤ xs.length) : cutV xs (some (k : Int)) none = xs.drop k := by
  unfold cutV
  rw [HT.sIx_nat, HT.sIx_none, Nat.min_eq_left h]
  exact List.take_of_length_le (by rw [List.length_drop]; exact Nat.le_refl _)
end Lw

set_option Elab.async false
set_option linter.all false
set_option maxRecDepth 100000
set_option maxHeartbeats 2000000
namespace Lw
open PySem PySem.Spec PyProof.Rows L2 He Evl StX
/-! ### exceptions as values: made, held, asked -/
section
variable {X : Cx} {x : Str} {p pos : Pos}
/-- C() as a value, C an error class of the text without own __init__ -/
theorem pe_exv0 (T : Ex0 X.K X.mg x) (hg : Gl X x := by rfl) (hdb : (x == ("__debug__" : Str)) = false := by decide) :
    PE X (.Call (.Name x p) [] [] pos) (fun _ H Q => ∀ a, H a = none → Q (.ref a) (upd H a (ExO (.ref (ga X.K x)) a))) := by
  obtain ⟨q, h⟩ := ba T.e
  obtain ⟨kC, h⟩ := ba h
  refine ⟨fun pins s σ H Q I h => ?_⟩
  refine wpAny_Call_Name_kw (ld_glob I hg T.g ?_ hdb)
  refine PySem.W.callWith_K0 I.kIn kC ?_
  show wpAny _ _ (call (.ref (ga X.K x)) []) _ _ _
  obtain ⟨bm, N, nm, qn, bs, hdct, sn, sub, ab, col, dd, k0, k1, k2, k3, k5, mN, hC, hN, hni, T⟩ := exc_obj I.kIn q
  refine wpAny_call_exc_subT F.excBase_ValueError T hC hN hni (fun h' a hm => ?_) (Nat.zero_le _)
  have hn : H a = none := I.hok.gone hm.new
  obtain ⟨t, ht, _, _⟩ := hm.there
  exact ⟨.ref a, upd H a (ExO (.ref (ga X.K x)) a), I.laidN hm.keeps hm.new hn (exO_ok ht ⟨rfl, rfl⟩ rfl rfl rfl (show 4 < 6 by decide)), rfl, h a hn⟩
end
/-- C(e, ..) as a value, C's own __init__ keeping sp -/
def tMkV (C : Addr) (sp : Sp) (ta : TA) : TE := fun σ H Q => ta σ H fun vs H1 => vs.length ≤ 1000 ∧ ∀ a, H1 a = none → sp (.ref a :: vs) (upd H1 a (exo a C none)) (fun v H2 => v = .non ∧ Q (.ref a) H2) (fun _ _ _ => False)
theorem pe_exvI {X : Cx} {Γ : CXT} {x : Str} {e0 : Expr} {er : List Expr} {ta : TA} {p pos : Pos} {C fI : Addr} {k : Nat} {fd : FuncData} {ps : List Str} {sp : Sp} (T : OexC X.K C) (hI : PySem.W.findIn X.K (.ref C) "__init__" = some (some (.ref fI)))
    (hT : PySem.W.typeIn X.K (.ref fI) = some (.type "function")) (G : FnOk X.prog X.w X.K X.mg X.base Γ k fI fd ps sp) (rm : Room (k + 1) X.A) (bd : Binds X.K fd ps []) (px : Passes Γ X (fun _ _ _ => False)) (gx : Gl X x) (mx : X.mg x = some (.ref C))
    (pa : PA X (e0 :: er) ta) (db : (x == ("__debug__" : Str)) = false) (st : starEach (e0 :: er) X.env = (false, eval e0 X.env) :: starEach er X.env) (pl : (backTo pos (starEach er X.env)).any (·.1) = false) :
    PE X (.Call (.Name x p) (e0 :: er) [] pos) (tMkV C sp ta) := ⟨fun pins s σ H Q J wish => by
  obtain ⟨_, _, _, _, bm, _, _, _, _, _, _, _, _, _, _, atC, refs⟩ := T.cls
  apply wpAny_Call_Name_kw
  refine ld_glob J gx mx ?_ db
  refine PySem.W.callWith_K (h₀ := X.base) J.ok.mod.kin T.kC (thn (pa.run pos pins s σ H _ J wish) ?_) st pl
  rintro us ⟨hp, gs, dr, tk, os⟩ ⟨vs, H1, J1, rel, len1, wish1⟩
  refine ⟨J1.kIn, ?_⟩
  change wpAny _ _ (call (.ref C) us) _ _ _
  obtain ⟨a, ea⟩ : ∃ a, a = hp.objs.size + 1 := ⟨_, rfl⟩
  have above : hp.objs.size ≤ a := by omega
  have w2 := wish1 a (J1.hok.fresh above)
  obtain ⟨hp2, e2⟩ : ∃ h, h = (hp.push (PySem.W.kdv_tup us)).push (PySem.HandSPX.excO C hp.objs.size) := ⟨_, rfl⟩
  have kept : ∀ b o, hp.get? b = some o → hp2.get? b = some o := fun b o y => by
    rw [e2]
    exact Heap.get?_push_of_some _ (Heap.get?_push_of_some _ y)
  have new2 : hp2.get? a = some (PySem.HandSPX.excO C hp.objs.size) := by
    rw [e2, ea]
    heap_get
  have J2 : Inv X pins σ (upd H1 a (exo a C none)) ⟨hp2, gs, dr, tk, os⟩ := J1.laid (t' := tk) kept above (exo_ok new2)
  have rel2 : Vals (V.ref a :: vs) (Value.ref a :: us) := Paired.cons (show RelV (V.ref a) (Value.ref a) from rfl) rel
  have many : (Value.ref a :: us ++ []).length = ps.length := by
    rw [List.append_nil, ← rel2.length]
    exact G.len _ _ _ _ w2
  have few : us.length ≤ sizeLine := by
    have := Paired.length rel
    rw [sizeLine_eq]
    omega
  have bind2 := bd ⟨hp2, gs, dr, tk, os⟩ (Value.ref a :: us) J2.kIn many
  rw [List.append_nil] at bind2
  have body := G.run (X.A.under (.builtin "type.__call__" ⟨.ref C :: us, []⟩)) X.stack ⟨hp2, gs, dr, tk, os⟩ _ ⟨Value.ref a :: us, []⟩ (Value.ref a :: us) _ _ _ (rm.make C us []) (J2.env0.make C us []) bind2 rel2 w2
  rw [e2, ea] at body
  refine wpAny_call (PySem.HandSPX.call_own F.excBase_ValueError (fun q => PySem.HandSPX.refsVE_contains q bm refs) (J1.kIn _ _ atC) (PySem.W.looks_findIn J1.kIn hI) (fun self => PySem.W.bind_fn J1.kIn self hT) few (codeAny_mono body ?_))
  rintro (er2 | fl) s3 end3
  · exact px pins σ _ _ er2 s3 J2 (by rw [e2, ea]; exact end3)
  · cases fl with
    | next => exact False.elim end3
    | brk => exact False.elim end3
    | cont => exact False.elim end3
    | ret u =>
      rw [← ea, ← e2] at end3
      obtain ⟨v, H', I3, rv, ev, q3⟩ := J2.after end3
      subst ev
      exact ⟨rv, ⟨V.ref a, H', I3, by rw [ea]; rfl, q3⟩⟩⟩
/-- e.f, e an error of the text that is held as a value -/
def tXv (K : PySem.W.Frag) (f : Str) (te : TE) : TE := fun σ H Q => te σ H fun x H1 => ∃ (a C d : Addr) (fs : List (Str × V)) (v : V), x = .ref a ∧ XfC K C ∧ PySem.W.findIn K (.ref C) f = some none ∧ H1 a = some (exo a C (some d)) ∧ H1 d = some (exd d fs) ∧ fs.lookup f = some v ∧ Q v H1
theorem pe_xv {X : Cx} {eo : Expr} {to : TE} {pos : Pos} {fd : Str} (pe : PE X eo to) (hab : attributeBase eo fd X.env (eval eo X.env) = eval eo X.env := by rfl) :
    PE X (.Attribute eo fd pos) (tXv X.K fd to) := ⟨fun pins s σ H Q J wish => by
  refine attr_of hab (thn (pe.run pins s σ H _ J wish) ?_)
  rintro u t ⟨_, H1, J1, rel, a, C, d, fs, v, rfl, T, hno, ea, ed, l, q⟩
  obtain rfl : u = Value.ref a := rel
  obtain ⟨t1, atE⟩ := exo_at J1.hok ea
  obtain ⟨mD, nsD, relD⟩ := exd_at J1.hok ed
  obtain ⟨od, atD, lookD⟩ := lookIn_ns nsD
  obtain ⟨y, ey, ry⟩ := RelO.some_of (v := v) (o := mD fd) (by rw [← l]; exact relD fd)
  have inst : PySem.W.InstAt t.heap a _ C (some od) := ⟨atE, rfl, rfl, atD⟩
  exact HandSPX.exc_get J1.kIn inst T.ga T.gg T.exC (PySem.W.findObj_own T.hdC hno rfl (by rw [lookD, ey])) (handed_of ry) ⟨v, H1, J1.tok _, ry, q⟩⟩
/-- at a: an error of the class D, held as a value -/
def IsE (H : Hp) (a D : Addr) : Prop := H a = some (ExO (.ref D) a) ∨ ∃ (d : Addr) (fs : List (Str × V)), H a = some (exo a D (some d)) ∧ H d = some (exd d fs)
theorem IsE.ex {H H' : Hp} {a D : Addr} (h : IsE H a D) (e : Ex H H') : IsE H' a D := by
  rcases h with h | ⟨d, fs, h1, h2⟩
  · exact .inl (e _ _ h)
  · exact .inr ⟨d, fs, e _ _ h1, e _ _ h2⟩
def exvB (x : Str) (K : PySem.W.Frag) : Bool :=
  (PySem.W.clsIn K (ga K x)).isSome && (decide (PySem.W.findIn K (.ref (ga K x)) "__getattribute__" = some (some (.builtin "BaseException.__getattribute__"))) && (decide (PySem.W.findIn K (.ref (ga K x)) "__getattr__" = some none) &&
  (decide (PySem.W.subIn K (.ref (ga K x)) (.type "BaseException") = some true) && (decide (PySem.W.findIn K (.ref (ga K x)) "__class__" = some (some (.builtin "object.__class__"))) &&
  (decide (PySem.W.specialIn K (.builtin "object.__class__") "__get__" = some (some (.builtin "getset_descriptor.__get__"))) && (decide (PySem.W.takesIn K (.builtin "object.__class__") = some true) && decide (PySem.W.mroIn K (ga K x) (.type "object") = some true)))))))
structure ExV (K : PySem.W.Frag) (C : Addr) : Prop where
  v1 : (PySem.W.clsIn K C).isSome = true
  v2 : PySem.W.findIn K (.ref C) "__getattribute__" = some (some (.builtin "BaseException.__getattribute__"))
  v3 : PySem.W.findIn K (.ref C) "__getattr__" = some none
  v4 : PySem.W.subIn K (.ref C) (.type "BaseException") = some true
  v5 : PySem.W.findIn K (.ref C) "__class__" = some (some (.builtin "object.__class__"))
  v6 : PySem.W.specialIn K (.builtin "object.__class__") "__get__" = some (some (.builtin "getset_descriptor.__get__"))
  v7 : PySem.W.takesIn K (.builtin "object.__class__") = some true
  v8 : PySem.W.mroIn K C (.type "object") = some true
theorem exvB_ok {x : Str} {K : PySem.W.Frag} (h : exvB x K = true) : ExV K (ga K x) := by
  obtain ⟨h1, h⟩ := ba h
  obtain ⟨h2, h⟩ := ba h
  obtain ⟨h3, h⟩ := ba h
  obtain ⟨h4, h⟩ := ba h
  obtain ⟨h5, h⟩ := ba h
  obtain ⟨h6, h⟩ := ba h
  obtain ⟨h7, h8⟩ := ba h
  exact ⟨h1, of_decide_eq_true h2, of_decide_eq_true h3, of_decide_eq_true h4, of_decide_eq_true h5, of_decide_eq_true h6, of_decide_eq_true h7, of_decide_eq_true h8⟩
/-- isinstance(e, C), e an error held as a value, C a class of the text or ValueError -/
def rIsX (K : PySem.W.Frag) : List V → Hp → VK → Prop := fun xs H Q => ∃ (a D : Addr) (c : V) (cv : Value) (b : Bool), xs = [.ref a, c] ∧ IsE H a D ∧ ExV K D ∧ (∀ u, RelV c u → u = cv) ∧ PySem.W.kitOne K (.ref D) cv = some b ∧ Q (.bl b) H
theorem call_isX {X : Cx} : CallR X (.builtin "isinstance") (rIsX X.K) := by
  intro pins s σ H xs us Q J rel wish
  obtain ⟨a, D, c, cv, b, rfl, isE, T, one, kit, q⟩ := wish
  match us, rel with
  | [_, t], .cons r1 (.cons r2 .nil) =>
    obtain rfl := one _ r2
    cases r1
    have fin : ∀ tk, EP X pins σ Q (.bool b) { s with toks := tk } := fun tk => ⟨.bl b, H, J.kept (t' := tk) fun _ _ z => z, rfl, q⟩
    rcases isE with h | ⟨d, fs, h1, h2⟩
    · obtain ⟨⟨oe, vs, ho, hz, hd, _⟩, _, _⟩ := J.hok a _ h
      have inst : PySem.W.InstAt s.heap a oe D none := by
        obtain ⟨oc, od, oda, osl⟩ := oe
        obtain ⟨z1, z2⟩ := hz
        dsimp only at z1 z2 hd
        subst z1 z2 hd
        exact ⟨ho, rfl, rfl, trivial⟩
      exact PySem.W.kia_one (PySem.W.kitx_exc T.v1 T.v2 T.v3 T.v4 T.v5 T.v6 T.v7 T.v8) J.kIn inst kit (fun z => nomatch z) fin
    · obtain ⟨t1, atE⟩ := exo_at J.hok h1
      obtain ⟨mD, nsD, relD⟩ := exd_at J.hok h2
      obtain ⟨od, atD, lookD⟩ := lookIn_ns nsD
      have inst : PySem.W.InstAt s.heap a _ D (some od) := ⟨atE, rfl, rfl, atD⟩
      exact PySem.W.kia_one (PySem.W.kitx_exc T.v1 T.v2 T.v3 T.v4 T.v5 T.v6 T.v7 T.v8) J.kIn inst kit (fun z => nomatch z) fin
end Lw
namespace Lw
open PySem PySem.Spec PyProof.Rows L2 He Evl StX
/-- of which classes the errors of the names are: each of its own, of WordError and of ValueError -/
def kitsB (ns : List Str) (K : PySem.W.Frag) : Bool := (List.range ns.length).all fun i => exvB (ns.getD i Str.empty) K && (decide (PySem.W.kitOne K (.ref (ga K (ns.getD i Str.empty))) (.ref (ga K "WordError")) = some true) &&
  (decide (PySem.W.kitOne K (.ref (ga K (ns.getD i Str.empty))) (.type "ValueError") = some true) && (List.range ns.length).all fun j => decide (PySem.W.kitOne K (.ref (ga K (ns.getD i Str.empty))) (.ref (ga K (ns.getD j Str.empty))) = some (decide (i = j)))))
structure Kits (ns : List Str) (K : PySem.W.Frag) (i : Nat) : Prop where
  e : ExV K (ga K (ns.getD i Str.empty))
  w : PySem.W.kitOne K (.ref (ga K (ns.getD i Str.empty))) (.ref (ga K "WordError")) = some true
  v : PySem.W.kitOne K (.ref (ga K (ns.getD i Str.empty))) (.type "ValueError") = some true
  k : ∀ j, j < ns.length → PySem.W.kitOne K (.ref (ga K (ns.getD i Str.empty))) (.ref (ga K (ns.getD j Str.empty))) = some (decide (i = j))
theorem kitsB_ok {ns : List Str} {K : PySem.W.Frag} (h : kitsB ns K = true) {i : Nat} (hi : i < ns.length) : Kits ns K i := by
  have h1 := List.all_eq_true.mp h i (List.mem_range.mpr hi)
  obtain ⟨h2, h1⟩ := ba h1
  obtain ⟨h3, h1⟩ := ba h1
  obtain ⟨h4, h5⟩ := ba h1
  exact ⟨exvB_ok h2, of_decide_eq_true h3, of_decide_eq_true h4, fun j hj => of_decide_eq_true (List.all_eq_true.mp h5 j (List.mem_range.mpr hj))⟩
end Lw
namespace Lw
open PySem PySem.Spec PyProof.Rows L2 He Evl StX
section
variable {X : Cx} {K : PySem.W.Frag} {x : Str} {p pos : Pos} {e0 : Expr} {er : List Expr} {te : TE} {ta : TA} {k : Nat} {fs ps : List Str} {sp : Sp}
theorem kv0 (h : X.K = K) (T : Ex0 K X.mg x) (hg : Gl X x := by rfl) (hdb : (x == ("__debug__" : Str)) = false := by decide) :
    PE X (.Call (.Name x p) [] [] pos) (fun _ H Q => ∀ a, H a = none → Q (.ref a) (upd H a (ExO (.ref (ga K x)) a))) := by
  subst h
  exact pe_exv0 T hg hdb
theorem pe_mkV (T : ExI X.prog X.w X.K X.mg X.base k x fs ps sp) (hr : Room (k + 1) X.A) (pa : PA X (e0 :: er) ta) (hg : Gl X x := by rfl) (hdb : (x == ("__debug__" : Str)) = false := by decide)
    (st : starEach (e0 :: er) X.env = (false, eval e0 X.env) :: starEach er X.env := by rfl) (pl : (backTo pos (starEach er X.env)).any (·.1) = false := by rfl) :
    PE X (.Call (.Name x p) (e0 :: er) [] pos) (tMkV (ga X.K x) sp ta) := by
  obtain ⟨fd, F, b⟩ := T.F
  exact pe_exvI T.T.o T.T.i T.T.t F hr b pass0 hg T.g pa hdb st pl
theorem kmkV (h : X.K = K) (T : ExI X.prog X.w K X.mg X.base k x fs ps sp) (hr : Room (k + 1) X.A) (pa : PA X (e0 :: er) ta) (hg : Gl X x := by rfl) (hdb : (x == ("__debug__" : Str)) = false := by decide)
    (st : starEach (e0 :: er) X.env = (false, eval e0 X.env) :: starEach er X.env := by rfl) (pl : (backTo pos (starEach er X.env)).any (·.1) = false := by rfl) :
    PE X (.Call (.Name x p) (e0 :: er) [] pos) (tMkV (ga K x) sp ta) := by
  subst h
  exact pe_mkV T hr pa hg hdb st pl
theorem kxv {eo : Expr} {n : Str} (h : X.K = K) (pe : PE X eo te) (hab : attributeBase eo n X.env (eval eo X.env) = eval eo X.env := by rfl) : PE X (.Attribute eo n pos) (tXv K n te) := h ▸ pe_xv pe hab
theorem kc_isX (h : X.K = K) : CallR X (.builtin "isinstance") (rIsX K) := h ▸ call_isX
def rJoin (K : PySem.W.Frag) : V → List V → Hp → VK → Prop := fun x xs H Q => ∃ a p, ∃ ys : List Str, x = .str a ∧ xs = [.ref p] ∧ (SqL K H p (ys.map V.str) ∨ SqT K H p (ys.map V.str)) ∧ (ys.map (·.length)).sum + ys.length * a.length ≤ 16777216 ∧ Q (.str (Txt.join a ys)) H
theorem kjoin {o e : Expr} {to : TE} {apos : Pos} (h : X.K = K) (ho : PE X o to) (he : PE X e te) (hs : starEach [e] X.env = [(false, eval e X.env)] := by rfl)
    (hbase : attributeBase o "join" X.env (eval o X.env) = eval o X.env := by rfl) (hline : (apos.endLine == pos.line) = true := by rfl) :
    PE X (.Call (.Attribute o "join" apos) [e] [] pos) (tM1 (rJoin K) to te) := by
  subst h
  exact pe_m1 PySem.F.slot_str_join PySem.F.type_str_join mt_join ho he hs hbase hline
/-- != of plain things or of data -/
def rNeM (K : PySem.W.Frag) : R2 := fun x y H Q => rNe x y H Q ∨ rNeD K x y H Q
theorem ko_neM {k : Nat} (hr : Room k X.A) (h : X.K = K) : OpR X (compareOp .NotEq) (rNeM K) := by
  subst h
  intro pins s σ H x y v u Q J rx ry wish
  rcases wish with a | b
  · exact op_ne pins s σ H x y v u Q J rx ry a
  · exact op_neD hr.units pins s σ H x y v u Q J rx ry b
end
section
variable {K : PySem.W.Frag} {σ : L2.St} {H : Hp} {Q : VK} {te : TE} {ta : TA} {x f g : Str} {v w : V}
theorem rd_mkV {C : Addr} {sp : Sp} (h : ta σ H fun vs H1 => vs.length ≤ 1000 ∧ ∀ a, H1 a = none → sp (.ref a :: vs) (upd H1 a (exo a C none)) (fun v H2 => v = .non ∧ Q (.ref a) H2) (fun _ _ _ => False)) : tMkV C sp ta σ H Q := h
theorem rd_made1 {R : Addr → Hp → Prop} (q : ∀ a d H', H a = none → H d = none → Ex H H' → H' a = some (exo a (ga K x) (some d)) → H' d = some (exd d [(f, v)]) → R a H') :
    [v].length ≤ 1000 ∧ ∀ a, H a = none → spIni1 K x f (.ref a :: [v]) (upd H a (exo a (ga K x) none)) (fun u H2 => u = .non ∧ R a H2) (fun _ _ _ => False) := by
  refine ⟨by show 1 ≤ 1000; decide, fun a ha => ⟨a, v, rfl, upd_same, fun d hd ne => ⟨rfl, q a d _ ha (none_up hd ne) (fun b o hb => ?_) upd_same (by rw [upd_ne ne]; exact upd_same)⟩⟩⟩
  have ba : b ≠ a := fun e => by rw [e, ha] at hb; cases hb
  have bd : b ≠ d := fun e => by rw [e, none_up hd ne] at hb; cases hb
  rw [upd_ne ba, upd_ne bd, upd_ne ba]
  exact hb
theorem rd_made2 {R : Addr → Hp → Prop} (q : ∀ a d H', H a = none → H d = none → Ex H H' → H' a = some (exo a (ga K x) (some d)) → H' d = some (exd d [(g, w), (f, v)]) → R a H') :
    [v, w].length ≤ 1000 ∧ ∀ a, H a = none → spIni2 K x f g (.ref a :: [v, w]) (upd H a (exo a (ga K x) none)) (fun u H2 => u = .non ∧ R a H2) (fun _ _ _ => False) := by
  refine ⟨by show 2 ≤ 1000; decide, fun a ha => ⟨a, v, w, rfl, upd_same, fun d hd ne => ⟨rfl, q a d _ ha (none_up hd ne) (fun b o hb => ?_) ?_ upd_same⟩⟩⟩
  · have ba : b ≠ a := fun e => by rw [e, ha] at hb; cases hb
    have bd : b ≠ d := fun e => by rw [e, none_up hd ne] at hb; cases hb
    rw [upd_ne bd, upd_ne ba, upd_ne bd, upd_ne ba]
    exact hb
  · rw [upd_ne (Ne.symm ne)]
    exact upd_same
theorem rd_xv (h : te σ H fun x H1 => ∃ (a C d : Addr) (fs : List (Str × V)) (v : V), x = .ref a ∧ XfC K C ∧ PySem.W.findIn K (.ref C) f = some none ∧ H1 a = some (exo a C (some d)) ∧ H1 d = some (exd d fs) ∧ fs.lookup f = some v ∧ Q v H1) : tXv K f te σ H Q := h
end
end Lw

set_option Elab.async false
set_option linter.all false
set_option maxRecDepth 100000
set_option maxHeartbeats 2000000
namespace Lw
open PySem PySem.Spec PyProof.Rows L2 He Evl StX
/-! ### instances of the text's own classes: walked, asked with in, compared -/
/-- at it: an iterator over the tuple at l, at its begin -/
def TItO (l it : Addr) : HO := .ext fun h => h.IsTupleIter it l 0
theorem titO_ok {P : Program} {w : World} {H : Hp} {h : Heap} {l it : Addr} (x : h.IsTupleIter it l 0) : ObjOk P w H h it (TItO l it) :=
  ⟨x, by obtain ⟨o, e, _⟩ := x; exact ⟨o, e⟩, fun h1 h2 q k => q.at fun o e => k o e⟩
/-- iter(a tuple); the iterator stands from n on -/
def rIterT (K : PySem.W.Frag) (n : Nat) : List V → Hp → VK → Prop := fun xs H Q => ∃ (l : Addr) (zs : List V), xs = [.ref l] ∧ SqT K H l zs ∧ ∀ it, H it = none → n ≤ it → Q (.ref it) (upd H it (TItO l it))
theorem iter_tup {P : Program} {w : World} {A : Around} {E Q : Value → Shared → Prop} {s : Shared} {l : Addr} {items : Array Value} (tup : s.heap.IsTuple l items)
    (q : Q (.ref s.heap.objs.size) { s with heap := s.heap.push { cls := .type "tuple_iterator", data := .fields #[.ref l, .int 0 0] } }) : wpAny (model P w) A (call (.builtin "iter") [.ref l]) Q E s := by
  refine Calls.call_function_entry (id := "iter") (by decide +kernel) (by decide +kernel) PySem.W.kdk_entry_iter (PySem.W.kdk_args_iter (Value.ref l)) ?_
  unfold Builtin.«iter»
  refine wpAny_bind (m := someArgs "iter" 1 2 _) ?_
  refine wpAny_of_eq (a := [Value.ref l]) (by kernel_rfl!) ?_
  change wpAny (model P w) _ (pyIter (.ref l) >>= _) _ _ s
  exact wpAny_bind (wpAny_pyIter_tuple tup (wpAny_pure ⟨_, rfl, q⟩))
theorem call_iterT {X : Cx} : CallR X (.builtin "iter") (rIterT X.K X.s_0.heap.objs.size) := by
  intro pins s σ H xs us Q J rel wish
  obtain ⟨l, zs, rfl, tq, q⟩ := wish
  obtain rfl := Vals.ref1 rel
  obtain ⟨its, rv, tp, _⟩ := J.tuple tq
  refine iter_tup tp ?_
  have new := J.laid (t' := s.toks) (h' := s.heap.push { cls := .type "tuple_iterator", data := .fields #[.ref l, .int 0 0] }) (fun b u e => Heap.get?_push_of_some _ e) (Nat.le_refl _) (titO_ok (l := l) ⟨_, Heap.get?_push_size _ rfl, rfl, rfl⟩)
  exact ⟨.ref s.heap.objs.size, _, new, rfl, q _ (J.hok.fresh (Nat.le_refl _)) J.sz⟩
/-- a def run at one state: its body's reading may know the state -/
theorem run_at {CX : CXT} {P : Program} {w : World} {K : PySem.W.Frag} {mg : Str → Option Value} {base : Heap} {k : Nat} {f : Addr} {fd : FuncData} {x qual : Str} {params : Arguments} {body : List Stmt} {scope : Scope} {N ps : List Str}
    (F : FunD K x qual params body scope [] [] f fd) (S : FnScope N ps scope) {A : Around} {outer : List Env} {s : Shared} {H : Hp} {args : Args} {us : List Value} {vs : List V} {Q : VK} {E : XK}
    (hr : Room (k + 1) A) (e0 : Env0 P w K mg base A outer s H) (hb : BindsTo s fd args (ps.zip us)) (rel : Vals vs us) (hl : vs.length = ps.length)
    (go : ∀ cdv, Room k (A.deeper (envOfC qual scope s.heap.objs.size f cdv)) → ∃ t, PSs (cxOf CX P w K mg base N qual scope f cdv A outer s H E) body t ∧ t { nx := fun _ H' => Q .non H', rt := Q } (L2.start N vs) H) :
    codeAny (model P w) A (.call (.ref f) args) (CR CX outer P w H s Q E) s := by
  obtain ⟨oc, od, dV, kV, doc, pm, an, cdv, ct, osl, rfl, lk, hcd, _, _⟩ := F.ex
  have kin : K.In s.heap := e0.mod.kin.keeps fun b o e => (e0.bs b o e).1
  have nolim : s.heap.NoLimit := e0.mod.nolimit.keeps fun b o e => (e0.bs b o e).1
  have kinds : ∀ y ∈ ps.zip us, scope.names.lookup y.1 = some .local ∨ (scope.names.lookup y.1 = some .cell ∧ ((cellsFrom (s.heap.objs.size + 1) scope.names []).lookup y.1).isSome = true) := by
    rintro ⟨n, v⟩ hy
    rcases S.par n (List.of_mem_zip hy).1 with a | a
    · exact .inl a
    · exact .inr ⟨a, PySem.W.cellsFrom_some _ _ _ (.inl a)⟩
  apply codeAny_call_function hr.depth (kin _ _ lk) rfl S.co S.gen rfl (PySem.W.codeRec_of kin hcd)
  apply hb
  apply wpAny_newFunctionEnv_cells S.kind kinds
  intro env he s1 nw
  subst he
  refine ⟨nolim.keeps nw.toInCall.keep, codeAny_func ?_⟩
  obtain ⟨t, ht, hq⟩ := go cdv (hr.deeper _)
  have J0 : Inv (cxOf CX P w K mg base N qual scope f cdv A outer s H E) [] (L2.start N vs) H s1 := inv_start S hr.hd e0 hl rel nw
  refine wpAny_mono (ht.run [] s1 (L2.start N vs) H _ J0 hq) ?_ (fun e s' z => z)
  intro fl s' out
  match fl, out with
  | .ret u, ⟨v, σ', H', J, rv, q⟩ => exact ⟨v, H', J.os, J.bare, J.base, J.hok, rv, q⟩
  | .next, ⟨σ', H', J, q⟩ => exact ⟨V.non, H', J.os, J.bare, J.base, J.hok, rfl, q⟩
  | .brk, ⟨_, _, _, q⟩ => exact q.elim
  | .cont, ⟨_, _, _, q⟩ => exact q.elim
/-- what a class says that is walked by `return iter(self.f)` -/
structure WalkC (K : PySem.W.Frag) (C fI : Addr) : Prop where
  c : Cls K C
  i : PySem.W.findIn K (.ref C) "__iter__" = some (some (.ref fI))
  fn : PySem.W.isFn K (.ref fI) = true
/-- the body of __iter__ gives an iterator over the tuple at l -/
def IterBody (P : Program) (w : World) (K : PySem.W.Frag) (mg : Str → Option Value) (base : Heap) (k : Nat) (C fI : Addr) (fld : Str) : Prop :=
  ∀ (A : Around) (outer : List Env) (s : Shared) (H : Hp) (a dx l : Addr) (fs : List (Str × V)) (zs : List V), Room k A → Env0 P w K mg base A outer s H → H a = some (.ins C dx fs) → fs.lookup fld = some (.ref l) → SqT K H l zs →
    codeAny (model P w) A (.call (.ref fI) ⟨[.ref a], []⟩) (CR CX0 outer P w H s (fun v H' => ∃ it, v = .ref it ∧ H it = none ∧ s.heap.objs.size ≤ it ∧ H' = upd H it (TItO l it)) (fun _ _ _ => False)) s
/-- for x in o, o an instance that is walked so -/
def iOwn (K : PySem.W.Frag) (C : Addr) (fld : Str) (te : TE) : TI := fun σ H R => te σ H fun x H1 => ∃ (a dx l : Addr) (fs : List (Str × V)), x = .ref a ∧ H1 a = some (.ins C dx fs) ∧ fs.lookup fld = some (.ref l) ∧ (∃ zs, SqT K H1 l zs) ∧ R (Itt K l) H1
theorem pi_own {X : Cx} {tg e : Expr} {te : TE} {C fI : Addr} {fld : Str} {k : Nat} (W : WalkC X.K C fI) (B : IterBody X.prog X.w X.K X.mg X.base k C fI fld) (hr : Room k X.A) (he : PE X e te) : PI X tg e (iOwn X.K C fld te) := by
  refine ⟨fun pins s σ H R J wish => thn (he.run pins s σ H _ J wish) ?_⟩
  rintro v s1 ⟨_, H1, J1, rel, a, dx, l, fs, rfl, ea, el, ⟨zs, sq⟩, q⟩
  cases rel
  obtain ⟨mA, O, _⟩ := ins_get J1.hok ea
  obtain ⟨od, inst, _⟩ := O.look
  obtain ⟨m, fr⟩ := J1.fr
  refine PySem.W.owit_iter fr J1.ok.mod.kin inst W.i W.fn (wpAny_call (codeAny_mono (B X.A X.stack s1 H1 a dx l fs zs hr J1.env0 ea el sq) ?_))
  rintro (er | fl) s2 out
  · exact pass0 pins σ H1 s1 er s2 J1 out
  · match fl, out with
    | .ret u, out =>
      obtain ⟨_, H2, J2, r2, it, rfl, free, above, rfl⟩ := J1.after out
      cases r2
      have track : (upd H1 it (TItO l it)) it = some (TItO l it) := upd_same
      have iti : s2.heap.IsTupleIter it l 0 := (J2.hok it _ track).1
      have J3 := ItX.inv_drop J2 track
      have fp := ItX.inv_fp J2 track (Nat.le_trans J1.sz above)
      rw [ItX.dropH_upd free] at J3 fp
      refine wpAny_specialOf iti.typeIs F.slot_tuple_iterator_next.lookup ?_
      refine ⟨it, [it], _, Itt X.K l, H1, rfl, J3, turn_tuple l it, iti, fun b hb => ?_, q⟩
      rw [List.mem_singleton.mp hb]
      exact fp
end Lw
namespace Lw
open PySem PySem.Spec PyProof.Rows L2 He Evl StX
theorem noPass {X : Cx} : Passes (L2N.CX X.prog X.w) X (fun _ _ _ => False) := fun pins σ H s e s' J c => L2N.passAt takes0 σ pins H s e s' J c
/-- a method of the text's class at C -/
structure HasM (P : Program) (w : World) (K : PySem.W.Frag) (mg : Str → Option Value) (base : Heap) (k : Nat) (C : Addr) (m : Str) (ps : List Str) (sp : Sp) : Prop where
  ex : ∃ fd, FnOk P w K mg base (L2N.CX P w) k (ma K C m) fd ps sp ∧ Binds K fd ps []
  me : Meth K C m (ma K C m)
  c : Cls K C
section
variable {X : Cx} {K : PySem.W.Frag} {C : Addr} {ps : List Str} {sp : Sp} {k : Nat}
/-- x in o, x not in o, by o's own __contains__ -/
def rInO (C : Addr) (sp : Sp) (neg : Bool) : R2 := fun x y H Q => ∃ (a dx : Addr) (fs : List (Str × V)), y = .ref a ∧ H a = some (.ins C dx fs) ∧ sp [.ref a, x] H (fun v H' => ∃ b, v = .bl b ∧ Q (.bl (b != neg)) H') (fun _ _ _ => False)
theorem call2 {pins : List (Addr × Obj)} {σ : L2.St} {H : Hp} {s : Shared} {Q : VK} {m : Str} {a : Addr} {x : V} {u : Value} {R : Value → Shared → Prop} (M : HasM X.prog X.w X.K X.mg X.base k C m ps sp) (hr : Room k X.A) (J : Inv X pins σ H s) (rel : RelV x u)
    (wish : sp [.ref a, x] H Q (fun _ _ _ => False)) (out : ∀ v w H' s', Inv X pins σ H' s' → RelV v w → Q v H' → R w s') : wpAny (model X.prog X.w) X.A (call (.ref (ma X.K C m)) [.ref a, u]) R X.xe s := by
  obtain ⟨fd, F, bd⟩ := M.ex
  have hl := F.len _ _ _ _ wish
  have r2 : Vals [V.ref a, x] [Value.ref a, u] := Paired.cons (show RelV (V.ref a) (Value.ref a) from rfl) (Paired.cons rel Paired.nil)
  have b2 := bd s [.ref a, u] J.kIn (by simpa using hl)
  rw [List.append_nil] at b2
  refine wpAny_call (codeAny_mono (F.run X.A X.stack s H ⟨[.ref a, u], []⟩ [.ref a, u] [.ref a, x] _ _ hr J.env0 b2 r2 wish) ?_)
  rintro (er | fl) s2 fin
  · exact noPass pins σ H s er s2 J fin
  · match fl, fin with
    | .ret w, fin =>
      obtain ⟨v, H2, J2, rv, q⟩ := J.after fin
      exact out v w H2 s2 J2 rv q
theorem op_inO (M : HasM X.prog X.w X.K X.mg X.base k C "__contains__" ps sp) (hr : Room k X.A) : OpR X (compareOp .In) (rInO C sp false) := by
  intro pins s σ H x y v u Q J rx ry wish
  obtain ⟨a, dx, fs, rfl, ea, q⟩ := wish
  cases ry
  obtain ⟨mA, O, _⟩ := ins_get J.hok ea
  obtain ⟨od, inst, _⟩ := O.look
  obtain ⟨m, fr⟩ := J.fr
  refine PySem.W.in_K fr J.ok.mod.kin inst M.me.at_ M.me.fn (call2 M hr J rx q ?_)
  rintro v2 w H2 s2 J2 rv ⟨b, rfl, q2⟩
  cases rv
  refine wpAny_truthy_bool ⟨.bl b, H2, J2, rfl, ?_⟩
  rw [Bool.bne_false] at q2
  exact q2
theorem op_notInO (M : HasM X.prog X.w X.K X.mg X.base k C "__contains__" ps sp) (hr : Room k X.A) : OpR X (compareOp .NotIn) (rInO C sp true) := by
  intro pins s σ H x y v u Q J rx ry wish
  obtain ⟨a, dx, fs, rfl, ea, q⟩ := wish
  cases ry
  obtain ⟨mA, O, _⟩ := ins_get J.hok ea
  obtain ⟨od, inst, _⟩ := O.look
  obtain ⟨m, fr⟩ := J.fr
  refine PySem.W.notIn_K fr J.ok.mod.kin inst M.me.at_ M.me.fn (call2 M hr J rx q ?_)
  rintro v2 w H2 s2 J2 rv ⟨b, rfl, q2⟩
  cases rv
  refine wpAny_truthy_bool ⟨.bl (!b), H2, J2, rfl, ?_⟩
  rw [Bool.bne_true] at q2
  exact q2
/-- o == p, both instances of the class at C with its own __eq__ -/
def rEqO (C : Addr) (sp : Sp) : R2 := fun x y H Q => ∃ (a dx b dy : Addr) (fs gs : List (Str × V)), x = .ref a ∧ y = .ref b ∧ H a = some (.ins C dx fs) ∧ H b = some (.ins C dy gs) ∧ sp [.ref a, .ref b] H (fun v H' => ∃ t, v = .bl t ∧ Q (.bl t) H') (fun _ _ _ => False)
theorem op_eqO (M : HasM X.prog X.w X.K X.mg X.base k C "__eq__" ps sp) (hr : Room k X.A) : OpR X (compareOp .Eq) (rEqO C sp) := by
  intro pins s σ H x y v u Q J rx ry wish
  obtain ⟨a, dx, b, dy, fs, gs, rfl, rfl, ea, eb, q⟩ := wish
  cases rx
  cases ry
  obtain ⟨mA, O, _⟩ := ins_get J.hok ea
  obtain ⟨od, inst, _⟩ := O.look
  obtain ⟨mB, O2, _⟩ := ins_get J.hok eb
  obtain ⟨od2, inst2, _⟩ := O2.look
  obtain ⟨m, fr⟩ := J.fr
  refine PySem.W.cmp_K (op := .Eq) (tb := .ref C) hr.units0 fr J.ok.mod.kin inst inst2.type (by simp [PySem.W.notFirst]) M.me.at_ M.me.fn (call2 (x := .ref b) M hr J rfl q ?_)
  rintro v2 w H2 s2 J2 rv ⟨t, rfl, q2⟩
  cases rv
  exact ⟨.bl t, H2, J2, rfl, q2⟩
end
end Lw
namespace Lw
open PySem PySem.Spec PyProof.Rows L2 He Evl StX
def insB (x : Str) (K : PySem.W.Frag) : Bool := decide (PySem.W.findIn K (.ref (ga K x)) "__class__" = some (some (.builtin "object.__class__"))) && (decide (PySem.W.specialIn K (.builtin "object.__class__") "__get__" = some (some (.builtin "getset_descriptor.__get__"))) &&
  (decide (PySem.W.takesIn K (.builtin "object.__class__") = some true) && (decide (PySem.W.mroIn K (ga K x) (.type "object") = some true) && decide (PySem.W.kitOne K (.ref (ga K x)) (.ref (ga K x)) = some true))))
theorem insB_ok {x : Str} {K : PySem.W.Frag} (c : Cls K (ga K x)) (h : insB x K = true) : C8.InsC K (ga K x) := by
  obtain ⟨h1, h⟩ := ba h
  obtain ⟨h2, h⟩ := ba h
  obtain ⟨h3, h⟩ := ba h
  obtain ⟨h4, h5⟩ := ba h
  exact ⟨c, of_decide_eq_true h1, of_decide_eq_true h2, of_decide_eq_true h3, of_decide_eq_true h4, of_decide_eq_true h5⟩
def kitB2 (x y : Str) (v : Bool) (K : PySem.W.Frag) : Bool := decide (PySem.W.kitOne K (.ref (ga K x)) (.ref (ga K y)) = some v)
def kitBV (x : Str) (K : PySem.W.Frag) : Bool := decide (PySem.W.kitOne K (.ref (ga K x)) (.type "ValueError") = some true)
def rIsC (C : Addr) : List V → Hp → VK → Prop := fun xs H Q => ∃ a dx fs, xs = [.ref a, .ref C] ∧ H a = some (.ins C dx fs) ∧ Q (.bl true) H
/-- isinstance(e, c) in the suite that holds the error e with its fields -/
def rIsS (K : PySem.W.Frag) (a : Addr) (cls : Value) (d : Option Addr) : List V → Hp → VK → Prop := fun xs H Q => ∃ (D dd : Addr) (fs : List (Str × V)) (c : V) (cv : Value) (b : Bool), xs = [.ref a, c] ∧ cls = .ref D ∧ d = some dd ∧ H dd = some (.xd fs) ∧ ExV K D ∧
  (∀ u, RelV c u → u = cv) ∧ PySem.W.kitOne K (.ref D) cv = some b ∧ Q (.bl b) H
theorem call_isS {X : Cx} {a : Addr} {oe : Obj} {cls : Value} {d : Option Addr} {pn : List (Addr × Obj)} (hz : Zc cls d oe) (hf : ∃ vs, oe.data = .fields vs) : CallR (X.suite a ((a, oe) :: pn)) (.builtin "isinstance") (rIsS X.K a cls d) := by
  intro pins s σ H xs us Q J rel wish
  obtain ⟨D, dd, fs, c, cv, b, rfl, rfl, rfl, ed, T, one, kit, q⟩ := wish
  match us, rel with
  | [_, t], .cons r1 (.cons r2 .nil) =>
    obtain rfl := one _ r2
    cases r1
    obtain ⟨atE, _⟩ := J.pin (a, oe) (List.mem_append_left _ List.mem_cons_self)
    obtain ⟨vs, dat⟩ := hf
    obtain ⟨mD, nsD, _⟩ := (J.hok dd _ ed : ObjOk X.prog X.w H s.heap dd (.xd fs))
    obtain ⟨od, atD, _⟩ := lookIn_ns nsD
    have inst : PySem.W.InstAt s.heap a oe D (some od) := ⟨atE, hz.1, by unfold PySem.W.notCls; rw [dat] <;> rfl, by rw [hz.2]; exact atD⟩
    exact PySem.W.kia_one (PySem.W.kitx_exc T.v1 T.v2 T.v3 T.v4 T.v5 T.v6 T.v7 T.v8) J.kIn inst kit (fun z => nomatch z) fun tk => ⟨.bl b, H, J.kept (t' := tk) fun _ _ z => z, rfl, q⟩
section
variable {X : Cx} {K : PySem.W.Frag} {C fI : Addr} {ps : List Str} {sp : Sp} {k j : Nat} {fld : Str} {e : Expr} {te : TE} {pos p : Pos}
theorem kc_isC (h : X.K = K) (c : C8.InsC K C) : CallR X (.builtin "isinstance") (rIsC C) := by
  subst h
  exact C8.call_isC c
theorem kfld (h : X.K = K) (he : PE X e te) (hb : attributeBase e fld X.env (eval e X.env) = eval e X.env := by rfl) : PE X (.Attribute e fld pos) (tFld K te fld) := h ▸ pe_fld he hb
theorem ksfld {o value : Expr} {ta tv : TE} {pos' : Pos} (h : X.K = K) (ha : PE X o ta) (hv : PE X value tv) (hs : swapsWith value (some (.Attribute o fld pos')) pos.line X.env = pure false := by rfl) : PS X (.Assign [.Attribute o fld pos'] value pos) (sFld K ta tv fld) := h ▸ ps_fld ha hv hs
theorem kpi_own {tg : Expr} (h : X.K = K) (W : WalkC K C fI) (B : IterBody X.prog X.w K X.mg X.base k C fI fld) (hr : Room k X.A) (he : PE X e te) : PI X tg e (iOwn K C fld te) := by
  subst h
  exact pi_own W B hr he
theorem ko_inO (h : X.K = K) (M : HasM X.prog X.w K X.mg X.base k C "__contains__" ps sp) (hr : Room k X.A) : OpR X (compareOp .In) (rInO C sp false) := by
  subst h
  exact op_inO M hr
theorem ko_notInO (h : X.K = K) (M : HasM X.prog X.w K X.mg X.base k C "__contains__" ps sp) (hr : Room k X.A) : OpR X (compareOp .NotIn) (rInO C sp true) := by
  subst h
  exact op_notInO M hr
theorem ko_eqO (h : X.K = K) (M : HasM X.prog X.w K X.mg X.base k C "__eq__" ps sp) (hr : Room k X.A) : OpR X (compareOp .Eq) (rEqO C sp) := by
  subst h
  exact op_eqO M hr
/-- C(e, ..): a new instance -/
structure MakO (P : Program) (w : World) (K : PySem.W.Frag) (mg : Str → Option Value) (base : Heap) (k : Nat) (x : Str) (ps : List Str) (sp : Sp) : Prop where
  ex : ∃ fd, FnOk P w K mg base (L2N.CX P w) k (ma K (ga K x) "__init__") fd ps sp ∧ Binds K fd ps []
  mkr : Mk K (ga K x) (ma K (ga K x) "__init__")
  g : mg x = some (.ref (ga K x))
def tMakO (C : Addr) (sp : Sp) (t : TA) : TE := tMake C sp [] (fun _ _ _ => False) t
theorem kmkO {x : Str} {es : List Expr} {t : TA} (h : X.K = K) (M : MakO X.prog X.w K X.mg X.base k x ps sp) (hr : Room (k + 1) X.A) (ha : PA X (e :: es) t) (hg : Gl X x := by rfl) (hdb : (x == ("__debug__" : Str)) = false := by decide)
    (he : starEach (e :: es) X.env = (false, eval e X.env) :: starEach es X.env := by rfl) (hpl : (backTo pos (starEach es X.env)).any (·.1) = false := by rfl) :
    PE X (.Call (.Name x p) (e :: es) [] pos) (tMakO (ga K x) sp t) := by
  subst h
  obtain ⟨fd, F, b⟩ := M.ex
  exact pe_make M.mkr F hr hg M.g b .nil noPass ha hdb he hpl
/-- a local name that holds one of two defs, called -/
def tCallF (i : Nat) (f1 f2 : Addr) (sp1 sp2 : Sp) (t : TA) : TE := fun σ H Q => (σ[i]? = some (some (.ref f1)) ∧ t σ H fun vs H1 => sp1 vs H1 Q (fun _ _ _ => False)) ∨ (σ[i]? = some (some (.ref f2)) ∧ t σ H fun vs H1 => sp2 vs H1 Q (fun _ _ _ => False))
theorem kcallF {i : Nat} {x x1 x2 : Str} {ps1 ps2 : List Str} {sp1 sp2 : Sp} {es : List Expr} {t : TA} (h : X.K = K) (h1 : Has X.prog X.w K X.mg X.base j x1 ps1 sp1) (h2 : Has X.prog X.w K X.mg X.base k x2 ps2 sp2) (r1 : Room j X.A) (r2 : Room k X.A)
    (ha : PA X (e :: es) t) (hN : X.N[i]? = some x := by rfl) (hv : Vis X.env.scope x := by first | exact .inl rfl | exact .inr (.inl rfl)) (hd : (x == ("__debug__" : Str)) = false := by decide) (hcd : (x == ("__classdict__" : Str)) = false := by decide)
    (he : starEach (e :: es) X.env = (false, eval e X.env) :: starEach es X.env := by rfl) (hpl : (backTo pos (starEach es X.env)).any (·.1) = false := by rfl) :
    PE X (.Call (.Name x p) (e :: es) [] pos) (tCallF i (ga K x1) (ga K x2) sp1 sp2 t) := by
  subst h
  refine ⟨fun pins s σ H Q J wish => ?_⟩
  have run : ∀ {n : Nat} {y : Str} {qs : List Str} {sq : Sp}, Has X.prog X.w X.K X.mg X.base n y qs sq → Room n X.A → σ[i]? = some (some (.ref (ga X.K y))) → (t σ H fun vs H1 => sq vs H1 Q (fun _ _ _ => False)) → wpAny (model X.prog X.w) X.A (eval (.Call (.Name x p) (e :: es) [] pos) X.env) (EP X pins σ Q) X.xe s := by
    intro n y qs sq has rm at_ wt
    obtain ⟨fd, F, b⟩ := has.ex
    apply wpAny_Call_Name_kw
    refine thn ((pe_var (pos := p) hN hv hd hcd).run pins s σ H (fun v H1 => v = .ref (ga X.K y) ∧ H1 = H) J ⟨.ref (ga X.K y), at_, rfl, rfl⟩) ?_
    rintro u s1 ⟨v, H1, J1, rel, rfl, rfl⟩
    cases rel
    refine PySem.W.callWith_K (h₀ := X.base) J1.ok.mod.kin has.kp (thn (ha.run pos pins s1 σ _ _ J1 wt) ?_) he hpl
    rintro us s2 ⟨vs, H2, J2, rels, q⟩
    exact ⟨J2.kIn, run_fn F rm b .nil noPass J2 rels (by rw [List.append_nil]; exact q)⟩
  rcases wish with ⟨a, b⟩ | ⟨a, b⟩
  · exact run h1 r1 a b
  · exact run h2 r2 a b
end
end Lw
namespace Lw
open PySem PySem.Spec PyProof.Rows L2 He Evl StX
theorem isort_strict {l : List Int} (nd : l.Nodup) : (isort l).Pairwise (· < ·) := by
  have n2 : (isort l).Nodup := (isort_perm l).nodup_iff.mpr nd
  have s := isort_sorted l
  generalize isort l = r at n2 s
  induction r with
  | nil => exact .nil
  | cons x t ih =>
    rw [List.nodup_cons] at n2
    cases s with
    | cons s1 s2 =>
      refine .cons (fun y hy => ?_) (ih n2.2 s2)
      have le := s1 y hy
      have ne : x ≠ y := fun e => n2.1 (e ▸ hy)
      omega
theorem setR_count {w : World} {h : Heap} {a : Addr} {ns : List Int} {c : Nat} (R : SetR w h a (fun j => decide (j ∈ ns)) c) : c = (uniq ns).length := by
  obtain ⟨o, es, ep, t, ho, ex, dat, good, nd, mem, sb, fit, sz, _⟩ := R
  have e : isort (es.toList.map keyOf) = uniq ns := strict_eq (isort_strict nd) (uniq_sorted ns) fun z => by
    rw [(isort_perm _).mem_iff, uniq_mem, ← mem z, decide_eq_true_iff]
  rw [← e, (isort_perm _).length_eq, List.length_map, Array.length_toList, sz]
/-- set(xs) of longer rows of ints -/
def rSetL (K : PySem.W.Frag) (w : World) : List V → Hp → VK → Prop := fun xs H Q => ∃ (l : Addr) (ns : List Int), xs = [.ref l] ∧ (SqL K H l (ns.map V.int) ∨ SqT K H l (ns.map V.int)) ∧ ns.length < 4000 ∧
  ∀ a, H a = none → Q (.ref a) (upd H a (SetO w a (fun j => decide (j ∈ ns)) (uniq ns).length))
theorem cr_setLong {X : Cx} (hc : X.calm = true) : CallR X (.type "set") (rSetL X.K X.w) := by
  intro pins s σ H xs us Q J rel wish
  obtain ⟨l, ns, rfl, sq, few, q⟩ := wish
  rw [Vals.ref1 rel]
  have free : H s.heap.objs.size = none := J.hok.fresh (Nat.le_refl _)
  have room : ns.length + 1 < scanBound := by
    have : (4001 : Nat) < scanBound := by decide
    omega
  rcases sq with sq | sq
  · obtain ⟨its, rv, pl, _⟩ := J.list sq
    refine set_of_ints (P := X.prog) (w := X.w) ns (J.ok.hd hc) pl.isList (ints_of_vals rv) room fun h2 k c R le kept => ?_
    obtain rfl := setR_count R
    exact ⟨.ref s.heap.objs.size, _, J.laid (t' := k) kept (Nat.le_refl _) (setO_new R), rfl, q _ free⟩
  · obtain ⟨its, rv, pl, _⟩ := J.tuple sq
    refine call_set_tupI (P := X.prog) (w := X.w) ns (J.ok.hd hc) pl (ints_of_vals rv) room fun h2 k c R le kept => ?_
    obtain rfl := setR_count R
    exact ⟨.ref s.heap.objs.size, _, J.laid (t' := k) kept (Nat.le_refl _) (setO_new R), rfl, q _ free⟩
theorem kc_setL {X : Cx} {K : PySem.W.Frag} {w : World} (h : X.K = K) (hw : X.w = w) (hc : X.calm = true) : CallR X (.type "set") (rSetL K w) := h ▸ hw ▸ cr_setLong hc
end Lw
namespace Lw
open PySem PySem.Spec PyProof.Rows L2 He Evl StX
/-! ### xs.extend(a tuple) -/
open AutoSeq1 in
theorem ext_tup (l b : Addr) (xs ys : Array Value) (n n2 : Nat) (dd : Option Addr) (sl : Array (Option Value)) (h0 : ¬(!xs.isEmpty && Builtin.List.listTooLong (xs.size + ys.size)) = true) (h1 : xs.size ≤ sizeLine) (h2 : xs.size + ys.size ≤ sizeLine + 1) :
    Meets (Builtin.«list.extend» ⟨[.ref l, .ref b], []⟩) (fun _ R s => s.heap.get? l = some { cls := .type "list", dict := none, data := .seq xs n, slots := #[] } ∧ s.heap.get? b = some { cls := .type "tuple", dict := dd, data := .seq ys n2, slots := sl } ∧
      R (.ok (.ret Value.none)) { s with heap := s.heap.update l (Obj.mapSeq fun x => x ++ ys), toks := s.toks }) := by
  refine .of_wp fun prog w A R s wish => ?_
  obtain ⟨hp, g, d, tk, os⟩ := s
  obtain ⟨atL, atB, fin⟩ := wish
  have i1 := AutoSeq1.idx_int
  have i2 := AutoSeq1.sub_tuple_tuple
  have i3 := AutoSeq1.sub_list_list
  have i4 := AutoSeq1.sub_tuple_list
  have i5 := AutoSeq1.sub_list_tuple
  have fits : (xs ++ ys).size ≤ sizeLine + 1 := by
    rw [Array.size_append]
    exact h2
  wp_walk using (wpAny_updateSeq atL rfl (hz := h1) (_hz' := fits)), wpAny_loadPart' atL, wpAny_loadPart' atB
  exact ⟨_, rfl, fin⟩
def rExtT (K : PySem.W.Frag) : V → List V → Hp → VK → Prop := fun x vs H Q => ∃ l b xs zs, x = .ref l ∧ vs = [.ref b] ∧ H l = some (.lst xs) ∧ SqT K H b zs ∧ xs.length + zs.length ≤ sizeLine ∧ Q .non (upd H l (.lst (xs ++ zs)))
theorem mt_extT {X : Cx} : MtM X "list.extend" (rExtT X.K) := by
  intro pins s σ H x vs v us Q J rx rv wish
  obtain ⟨l, b, xs, zs, rfl, rfl, atX, atZ, fits, q⟩ := wish
  cases rx
  obtain ⟨u, rfl, ru⟩ := rv.one
  cases ru
  obtain ⟨z, its, n, r, hl, e⟩ := J.lstM atX
  obtain ⟨its2, r2, tp, hl2⟩ := J.tuple atZ
  obtain ⟨⟨cl, dc, da, sl⟩, at_, e1, m, e2⟩ := tp
  simp only at e1 e2
  subst e1 e2
  have sum : its.toArray.size + its2.toArray.size ≤ sizeLine := by
    rw [List.size_toArray, List.size_toArray, ← r.length, ← r2.length]
    exact fits
  have notLong : ¬ (!its.toArray.isEmpty && Builtin.List.listTooLong (its.toArray.size + its2.toArray.size)) = true := by
    rw [notLongL sum, Bool.and_false]
    exact Bool.false_ne_true
  refine call_meets F.slot_list_extend ⟨_, e, rfl⟩ F.entry_list_extend (F.args_list_extend_2 _ _) (ext_tup l b its.toArray its2.toArray n m dc sl notLong (Nat.le_trans (Nat.le_add_right _ _) sum) (Nat.le_succ_of_le sum)) ⟨e, at_, ?_⟩
  refine ⟨.non, _, J.lset (its' := its ++ its2) atX e (by simp) (r.append r2) ?_, rfl, q⟩
  rw [List.length_append]
  exact fits
theorem kmt_extT {X : Cx} {K : PySem.W.Frag} (h : X.K = K) : MtM X "list.extend" (rExtT K) := h ▸ mt_extT
end Lw
namespace Lw
open PySem PySem.Spec PyProof.Rows L2 He Evl StX
theorem kpi_rev {X : Cx} {K : PySem.W.Frag} {tg e : Expr} {te : TE} {p pos : Pos} (h : X.K = K) (hg : Gl X "reversed") (hm : X.mg "reversed" = none) (he : PE X e te) (hs : starEach [e] X.env = (false, eval e X.env) :: starEach [] X.env := by rfl) : PI X tg (.Call (.Name "reversed" p) [e] [] pos) (RT.iRevA K te) := by
  subst h
  exact RT.pi_revA hg hm he hs
end Lw

set_option Elab.async false
set_option linter.all false
set_option maxRecDepth 100000
set_option maxHeartbeats 2000000
/-! the head with properties: their getters as defs -/
namespace Lw
open PySem PySem.Spec PyProof.Rows L2 He
/-- the getter of the property f of the class at C -/
def pg (K : PySem.W.Frag) (C : Addr) (f : Str) : Addr := match PySem.W.recIn K (ma K C f) "property" with
  | some (.ref g :: _) => g
  | _ => 0
def recB (K : PySem.W.Frag) (p : Addr) : Bool := match PySem.W.recIn K p "property" with
  | some (.ref _ :: _) => true
  | _ => false
theorem recB_ok {K : PySem.W.Frag} {C : Addr} {f : Str} (h : recB K (ma K C f) = true) : ∃ rest, PySem.W.recIn K (ma K C f) "property" = some (.ref (pg K C f) :: rest) := by
  unfold recB at h
  unfold pg
  split at h
  · rename_i g r e
    rw [e]
    exact ⟨r, rfl⟩
  · cases h
/-- a property: its class, its name, the getter -/
structure PrD where
  cls : Str
  prop : Str
  qual : Str
  params : Arguments
  body : List Stmt
  scope : Scope
def fnP (K : PySem.W.Frag) (d : PrD) : FnW := match K.lookup (pg K (ga K d.cls) d.prop) with
  | some ⟨_, _, .func fd, _⟩ => some (fd.name, fd.qualname, fd.params, fd.body, fd.scope, fd.globals, fd.closure, fd.builtins)
  | _ => none
def PrD.val (d : PrD) : FnW := some (d.prop, d.qual, d.params, .stmts d.body, d.scope, mainGlobals, [], builtinsNs)
def PrD.ok (K : PySem.W.Frag) (d : PrD) : Bool :=
  eqO (PySem.W.findIn K (.ref (ga K d.cls)) d.prop) (some (some (.ref (ma K (ga K d.cls) d.prop)))) &&
  (eqO (PySem.W.specialIn K (.ref (ma K (ga K d.cls) d.prop)) "__get__") (some (some (.builtin "property.__get__"))) &&
  (decide (PySem.W.takesIn K (.ref (ma K (ga K d.cls) d.prop)) = some true) &&
  (recB K (ma K (ga K d.cls) d.prop) && (PySem.W.keepIn K (.ref (pg K (ga K d.cls) d.prop)) &&
  (match K.lookup (pg K (ga K d.cls) d.prop) with
  | some ⟨_, _, .func fd, _⟩ => PySem.W.codeIn K fd.code d.qual && (dflB K fd.defaults [] && kwdB K fd.kwdefaults [])
  | _ => false)))))
theorem PrD.funD {K : PySem.W.Frag} {d : PrD} (e : fnP K d = d.val) (c : d.ok K = true) :
    ∃ fd, FunD K d.prop d.qual d.params d.body d.scope [] [] (pg K (ga K d.cls) d.prop) fd ∧ PropOf K (ga K d.cls) d.prop (ma K (ga K d.cls) d.prop) (pg K (ga K d.cls) d.prop) := by
  obtain ⟨c1, c⟩ := ba c
  obtain ⟨c2, c⟩ := ba c
  obtain ⟨c3, c⟩ := ba c
  obtain ⟨c4, c⟩ := ba c
  obtain ⟨kp, c2'⟩ := ba c
  have pr : PropOf K (ga K d.cls) d.prop (ma K (ga K d.cls) d.prop) (pg K (ga K d.cls) d.prop) := ⟨eqO_ok c1, eqO_ok c2, of_decide_eq_true c3, recB_ok c4⟩
  unfold fnP at e
  cases q : K.lookup (pg K (ga K d.cls) d.prop) with
  | none =>
    rw [q] at c2'
    cases c2'
  | some o =>
    obtain ⟨oc, od, dt, osl⟩ := o
    rw [q] at c2' e
    cases dt with
    | func fd =>
      obtain ⟨n1, n2, n3, n4, n5, n6, n7, n8, n9, n10, n11, n12, n13, n14, n15⟩ := fd
      have e2 : (some (n1, n2, n3, n4, n5, n6, n7, n15) : FnW) = some (d.prop, d.qual, d.params, .stmts d.body, d.scope, mainGlobals, [], builtinsNs) := e
      simp only [Option.some.injEq, Prod.mk.injEq] at e2
      obtain ⟨h1, h2, h3, h4, h5, h6, h7, h8⟩ := e2
      subst h1 h2 h3 h4 h5 h6 h7 h8
      have c3 : (PySem.W.codeIn K n13 d.qual && (dflB K n8 [] && kwdB K n9 [])) = true := c2'
      obtain ⟨k1, k2⟩ := ba c3
      obtain ⟨k3, k4⟩ := ba k2
      exact ⟨_, ⟨⟨oc, od, n8, n9, n10, n11, n12, n13, n14, osl, rfl, q, k1, dflB_ok k3, kwdB_ok k4⟩, kp⟩, pr⟩
    | _ => cases c2'
abbrev AlP : Type := AlD × Bool × Bool × List FnW
def obsP (n : Nat) (fa : List Fa) (fn : List DefD) (ex : PySem.W.Frag → Bool) (pr : List PrD) (g : Addr → Option Obj) : AlP :=
  (obsDG n fa fn g, ex (frG g (asD g n)), pr.all (fun d => d.ok (frG g (asD g n))), pr.map fun d => fnP (frG g (asD g n)) d)
def valP (fn : List DefD) (pr : List PrD) : AlP := (valD fn, true, true, pr.map PrD.val)
structure SaysP (fa : List Fa) (fn : List DefD) (ex : PySem.W.Frag → Bool) (pr : List PrD) (K : PySem.W.Frag) : Prop where
  d : SaysD fa fn K
  x : ex K = true
  p : pr.all (fun d => d.ok K) = true
  f : (pr.map fun d => fnP K d) = pr.map PrD.val
def hookP (n : Nat) (fa : List Fa) (fn : List DefD) (ex : PySem.W.Frag → Bool) (pr : List PrD) : PySem.W.Hook where
  α := AlP
  obs := fun s => obsP n fa fn ex pr s.heap.get?
  val := fun _ => valP fn pr
  says := fun _ h => ∃ K : PySem.W.Frag, K.In h ∧ SaysP fa fn ex pr K
  of := fun _ _ e => ⟨_, frG_in, congrArg (fun z : AlP => z.1) e, congrArg (fun z : AlP => z.2.1) e, congrArg (fun z : AlP => z.2.2.1) e, congrArg (fun z : AlP => z.2.2.2) e⟩
  keeps := fun _ _ _ ⟨K, hK, c⟩ k => ⟨K, PySem.W.Frag.In.keeps hK k, c⟩
theorem obsP_eq {n : Nat} {fa : List Fa} {fn : List DefD} {ex : PySem.W.Frag → Bool} {pr : List PrD} {g : Addr → Option Obj} {s : Shared} (h : ∀ a, g a = s.heap.get? a) : obsP n fa fn ex pr g = (hookP n fa fn ex pr).obs s := by
  have e : g = s.heap.get? := funext h
  rw [e] <;> rfl
theorem SaysP.prop {fa : List Fa} {fn : List DefD} {ex : PySem.W.Frag → Bool} {pr : List PrD} {K : PySem.W.Frag} (c : SaysP fa fn ex pr K) (i : Nat) {d : PrD} (h : pr[i]? = some d := by rfl) :
    ∃ fd, FunD K d.prop d.qual d.params d.body d.scope [] [] (pg K (ga K d.cls) d.prop) fd ∧ PropOf K (ga K d.cls) d.prop (ma K (ga K d.cls) d.prop) (pg K (ga K d.cls) d.prop) := by
  have e2 : (pr.map fun d => fnP K d)[i]? = (pr.map PrD.val)[i]? := by rw [c.f]
  rw [List.getElem?_map, List.getElem?_map, h] at e2
  exact PrD.funD (Option.some.inj e2) (List.all_eq_true.mp c.p d (List.mem_of_getElem? h))
end Lw

set_option Elab.async false
set_option linter.all false
set_option maxRecDepth 100000
set_option maxHeartbeats 2000000
/-! methods and properties of an own class, asked from outside -/
namespace Lw
open PySem PySem.Spec PyProof.Rows L2 He Evl StX
def tMethM (C : Addr) (m : Str) (sp : Sp) (E : L2.St → XK) (ta : TE) (t : TA) : TE := fun σ H Q => ta σ H fun x H1 => ∃ a dx fs, x = .ref a ∧ H1 a = some (.ins C dx fs) ∧ fs.lookup m = none ∧ t σ H1 fun vs H2 => sp (x :: vs) H2 Q (E σ)
theorem rd_methM {C : Addr} {m : Str} {sp : Sp} {E : L2.St → XK} {ta : TE} {t : TA} {σ : L2.St} {H : Hp} {Q : VK} (h : ta σ H fun x H1 => ∃ a dx fs, x = .ref a ∧ H1 a = some (.ins C dx fs) ∧ fs.lookup m = none ∧ t σ H1 fun vs H2 => sp (x :: vs) H2 Q (E σ)) : tMethM C m sp E ta t σ H Q := h
section
variable {X : Cx} {K : PySem.W.Frag} {C : Addr} {ps : List Str} {sp : Sp} {k : Nat} {m : Str} {W : WX} {o e : Expr} {es : List Expr} {ta : TE} {t : TA} {apos pos : Pos}
theorem kmeth {pl : Sem Bool} (h : X.K = K) (M : HasM X.prog X.w K X.mg X.base k C m ps sp) (hr : Room k X.A) (tk : L2N.Takes X W) (he : PE X o ta) (ha : PA X (e :: es) t)
    (hst : starEach (e :: es) X.env = (false, eval e X.env) :: starEach es X.env := by rfl) (hpl : (backTo pos (starEach es X.env)).any (·.1) = false := by rfl)
    (ht : eval (.Call (.Attribute o m apos) (e :: es) [] pos) X.env = (do
      let ov ← eval o X.env
      standAt apos.atName
      let (f, first) ← holding [ov] (getMethod ov m pl)
      callWith pos f first (backTo pos (starEach (e :: es) X.env)) (backToKw pos (keywordEach [] X.env))) := by rfl) :
    PE X (.Call (.Attribute o m apos) (e :: es) [] pos) (tMethM C m sp (WE W) ta t) := by
  subst h
  obtain ⟨fd, F, b⟩ := M.ex
  refine ⟨fun pins s σ H Q I h => ?_⟩
  refine PySem.W.methodCall_KW (pl := pl) (thn (he.run pins s σ H _ I h) fun u s1 ⟨x, H1, I1, rx, a, dx, fs, ex, ea, l, q⟩ => ?_) ht
  subst ex
  obtain rfl : u = Value.ref a := rx
  refine getmeth_ok I1 ea M.c M.me l ?_
  refine PySem.W.callWith_K (first := [.ref a]) (h₀ := X.base) I.ok.mod.kin M.me.kp (thn (ha.run pos pins s1 σ H1 _ I1 q) fun us s2 ⟨vs, H2, I2, r, q2⟩ => ⟨I2.kIn, ?_⟩) hst hpl
  exact run_fnS (E := WE W) (us := .ref a :: us) (vs := .ref a :: vs) F hr b (L2N.passAt tk σ) I2 (.cons rfl r) q2
theorem kmeth0 {pl : Sem Bool} (h : X.K = K) (M : HasM X.prog X.w K X.mg X.base k C m ps sp) (hr : Room k X.A) (tk : L2N.Takes X W) (he : PE X o ta)
    (ht : eval (.Call (.Attribute o m apos) [] [] pos) X.env = (do
      let ov ← eval o X.env
      standAt apos.atName
      let (f, first) ← holding [ov] (getMethod ov m pl)
      callWith pos f first (backTo pos (starEach [] X.env)) (backToKw pos (keywordEach [] X.env))) := by rfl) :
    PE X (.Call (.Attribute o m apos) [] [] pos) (tMethM C m sp (WE W) ta tNil) := by
  subst h
  obtain ⟨fd, F, b⟩ := M.ex
  refine ⟨fun pins s σ H Q I h => ?_⟩
  refine PySem.W.methodCall_KW (pl := pl) (thn (he.run pins s σ H _ I h) fun u s1 ⟨x, H1, I1, rx, a, dx, fs, ex, ea, l, q⟩ => ?_) ht
  subst ex
  obtain rfl : u = Value.ref a := rx
  refine getmeth_ok I1 ea M.c M.me l ?_
  exact PySem.W.callWith_K0 (first := [.ref a]) I1.kIn M.me.kp (run_fnS (E := WE W) (us := [.ref a]) (vs := [.ref a]) F hr b (L2N.passAt tk σ) I1 (.cons rfl .nil) q)
end
/-- a property of the text's class at C -/
structure HasPr (P : Program) (w : World) (K : PySem.W.Frag) (mg : Str → Option Value) (base : Heap) (k : Nat) (C : Addr) (f : Str) (sp : Sp) : Prop where
  ex : ∃ fd, FnOk P w K mg base (L2N.CX P w) k (pg K C f) fd ["self"] sp ∧ Binds K fd ["self"] []
  pr : PropOf K C f (ma K C f) (pg K C f)
  c : Cls K C
def tPr (C : Addr) (sp : Sp) (ta : TE) : TE := tProp C sp [] (fun _ _ _ => False) ta
theorem rd_pr {C : Addr} {sp : Sp} {ta : TE} {σ : L2.St} {H : Hp} {Q : VK} (h : ta σ H fun x H1 => ∃ a dx fs, x = .ref a ∧ H1 a = some (.ins C dx fs) ∧ sp [.ref a] H1 Q (fun _ _ _ => False)) : tPr C sp ta σ H Q := h
theorem kprop {X : Cx} {K : PySem.W.Frag} {C : Addr} {f : Str} {sp : Sp} {k : Nat} {e : Expr} {ta : TE} {pos : Pos} (h : X.K = K) (M : HasPr X.prog X.w K X.mg X.base k C f sp) (hr : Room (k + 1) X.A) (he : PE X e ta)
    (hab : attributeBase e f X.env (eval e X.env) = eval e X.env := by rfl) : PE X (.Attribute e f pos) (tPr C sp ta) := by
  subst h
  obtain ⟨fd, F, b⟩ := M.ex
  exact pe_prop he M.c M.pr F hr b .nil noPass hab
end Lw

set_option Elab.async false
set_option linter.all false
set_option maxRecDepth 100000
set_option maxHeartbeats 2000000
/-! enumerate(o), o an instance of an own class that is walked by its own __iter__ -/
namespace Lw
open PySem PySem.Spec PyProof.Rows L2 He Evl StX
theorem plain_enum_new : plainId "enumerate.__new__" = true := by decide +kernel
def enumO (it : Addr) : Obj := { cls := .type "enumerate", data := .fields #[.none, .bool false, .ref it, rawInt 0, .none, .none] }
section
variable {P : Program} {w : World} {A : Around} {E : Value → Shared → Prop} {s : Shared}
theorem code_enumO {a : Addr} {R : Addr → Shared → Prop} (hit : wpAny (model P w) A.in1 (pyIter (.ref a)) (fun v s2 => ∃ it, v = .ref it ∧ R it s2) E s) :
    codeAny (model P w) A (.call (.builtin "enumerate.__new__") ⟨[.type "enumerate", .ref a], []⟩) (wants (fun obj s1 => ∃ (it : Addr) (s2 : Shared), R it s2 ∧ obj = .ref s2.heap.objs.size ∧ s1 = { s2 with heap := s2.heap.push (enumO it) }) E) s := by
  refine codeAny_of_tree ?_
  show wpAny _ A.in1 (do checkBuiltinCall "enumerate.__new__" ⟨[.type "enumerate", .ref a], []⟩; again (.builtin "enumerate.__new__" ⟨[.type "enumerate", .ref a], []⟩)) _ _ s
  refine wpAny_bind (wpAny_of_eq (F.newCall_enumerate_1 _) (wpAny_pure ⟨plainId_quiet plain_enum_new _, codeAny_builtin F.entry_enumerate_new ?_⟩))
  rw [Around.under_plainId plain_enum_new _]
  have sub := sub_enumerate
  have iter : ∀ {Q2 : Value → Shared → Prop}, (∀ it s2, R it s2 → Q2 (.ref it) s2) → wpAny (model P w) A.in1 (pyIter (.ref a)) Q2 E s := fun q => wpAny_mono hit (fun v s2 ⟨it, e, r⟩ => by subst e; exact q it s2 r) fun _ _ x => x
  unfold Builtin.«enumerate.__new__»
  obtain ⟨hp, g, d, tk, os⟩ := s
  wp_walk using iter
  refine wpAny_stack_any fun st => wpAny_pure ?_
  split
  · rename_i c _ _ _ _ _
    cases (c == Value.type "enumerate")
    · wp_walk using iter
      rintro it ⟨hp2, g2, d2, tk2, os2⟩ r
      wp_walk
      exact ⟨it, _, r, rfl, rfl⟩
    · wp_walk using iter
      rintro it ⟨hp2, g2, d2, tk2, os2⟩ r
      wp_walk
      exact ⟨it, _, r, rfl, rfl⟩
  · wp_walk using iter
    rintro it ⟨hp2, g2, d2, tk2, os2⟩ r
    wp_walk
    exact ⟨it, _, r, rfl, rfl⟩
theorem call_enumO {a : Addr} {R : Addr → Shared → Prop} {Q : Value → Shared → Prop} (hit : wpAny (model P w) A.in1.in1 (pyIter (.ref a)) (fun v s2 => ∃ it, v = .ref it ∧ R it s2) E s)
    (q : ∀ it s2, R it s2 → Q (.ref s2.heap.objs.size) { s2 with heap := s2.heap.push (enumO it) }) : wpAny (model P w) A (call (.type "enumerate") [.ref a]) Q E s := by
  refine callType_codes F.called_enumerate (F.typeCall_enumerate_1 _) F.entry_object_init (code_enumO hit) ?_
  rintro obj s1 ⟨it, s2, r, rfl, rfl⟩
  have ty : ({ s2 with heap := s2.heap.push (enumO it) } : Shared).TypeIs (.ref s2.heap.objs.size) "enumerate" := ⟨_, Heap.get?_push_size _ rfl, rfl⟩
  exact ⟨ty, F.args_object_init_2 _ _, (object_init_meets F.called_enumerate.init.lookup F.called_enumerate.made (by decide)) P w A.in1 _ _ ⟨ty, rfl, q it s2 r⟩⟩
end
/-- for i, x in enumerate(o) -/
def iEnumO (K : PySem.W.Frag) (C : Addr) (fld : Str) (ta : TA) : TI := fun σ H R => ta σ H fun vs H1 => ∃ (a dx l : Addr) (fs : List (Str × V)), vs = [.ref a] ∧ H1 a = some (.ins C dx fs) ∧ fs.lookup fld = some (.ref l) ∧ (∃ zs, SqT K H1 l zs) ∧ R (ItEt K l) H1
theorem pi_enumO {X : Cx} {e0 : Expr} {ta : TA} {p pos tpos : Pos} {elts : List Expr} {kk : Nat} {C fI : Addr} {fld : Str} {k : Nat} (gl : Gl X "enumerate") (mg : X.mg "enumerate" = none) (W : WalkC X.K C fI) (B : IterBody X.prog X.w X.K X.mg X.base k C fI fld) (hr : Room (k + 2) X.A)
    (pa : PA X [e0] ta) (st : starEach [e0] X.env = [(false, eval e0 X.env)] := by rfl) :
    PI X (.Tuple elts kk tpos) (.Call (.Name "enumerate" p) [e0] [] pos) (iEnumO X.K C fld ta) := by
  refine ⟨fun pins s σ H R I wish => Call_ (ld_blt I gl mg boot_enumerate (PyProof.Rows.callWith_type1 (thn (pa.run pos pins s σ H _ I wish) ?_) st rfl))⟩
  rintro us s1 ⟨vs, H1, J1, rel, a, dx, l, fs, rfl, ea, el, ⟨zs, sq⟩, q⟩
  rw [Vals.ref1 rel]
  obtain ⟨mA, O, _⟩ := ins_get J1.hok ea
  obtain ⟨od, inst, _⟩ := O.look
  obtain ⟨m, fr⟩ := J1.fr
  obtain ⟨its, rv, tp, _⟩ := J1.tuple sq
  have below : l < s1.heap.objs.size := by
    obtain ⟨_, at_, _⟩ := tp
    exact Heap.lt_size at_
  refine call_enumO (R := fun it s2 => Inv X pins σ H1 s2 ∧ s2.heap.IsTupleIter it l 0 ∧ s1.heap.objs.size ≤ it ∧ FpOk X pins H1 it) ?_ ?_
  · refine PySem.W.owit_iter fr J1.ok.mod.kin inst W.i W.fn (wpAny_call (codeAny_mono (B X.A.in1.in1 X.stack s1 H1 a dx l fs zs hr.in1.in1 J1.env0.in1.in1 ea el sq) ?_))
    rintro (er | fl) s2 out
    · exact pass0 pins σ H1 s1 er s2 J1 out
    · match fl, out with
      | .ret u, out =>
        obtain ⟨_, H2, J2, r2, it, rfl, free, above, rfl⟩ := J1.after out
        cases r2
        have track : (upd H1 it (TItO l it)) it = some (TItO l it) := upd_same
        have iti : s2.heap.IsTupleIter it l 0 := (J2.hok it _ track).1
        have J3 := ItX.inv_drop J2 track
        have fp := ItX.inv_fp J2 track (Nat.le_trans J1.sz above)
        rw [ItX.dropH_upd free] at J3 fp
        refine wpAny_specialOf iti.typeIs F.slot_tuple_iterator_next.lookup ?_
        exact ⟨it, rfl, J3, iti, above, fp⟩
  · rintro it s2 ⟨J3, iti, above, fp⟩
    have lt2 : it < s2.heap.objs.size := by
      obtain ⟨_, at_, _⟩ := iti
      exact Heap.lt_size at_
    have kp : ∀ b o, s2.heap.get? b = some o → (s2.heap.push (enumO it)).get? b = some o := fun b o e => Heap.get?_push_of_some _ e
    have isE : IsEnum (s2.heap.push (enumO it)) s2.heap.objs.size it ((0 : Nat) : Int) .none := Heap.get?_push_size _ rfl
    have lit : l < it := Nat.lt_of_lt_of_le below above
    refine wpAny_pyIter_enum isE ?_
    refine ⟨s2.heap.objs.size, [s2.heap.objs.size, it], _, _, H1, rfl, J3.kept (t' := s2.toks) kp, turn_enumT l _ _, ⟨⟨.none, isE⟩, iti.at (fun o q => kp it o q), Nat.ne_of_gt lt2, Nat.ne_of_lt lit, Nat.ne_of_lt (Nat.lt_trans lit lt2)⟩, fun b hb => ?_, q⟩
    rcases List.mem_cons.mp hb with rfl | hb
    · exact J3.fpOk (Nat.le_refl _) (J3.hok.fresh (Nat.le_refl _))
    · rw [List.mem_singleton.mp hb]
      exact fp
theorem kpi_enumO {X : Cx} {K : PySem.W.Frag} {e0 : Expr} {ta : TA} {p pos tpos : Pos} {elts : List Expr} {kk : Nat} {C fI : Addr} {fld : Str} {k : Nat} (h : X.K = K) (gl : Gl X "enumerate") (mg : X.mg "enumerate" = none) (W : WalkC K C fI) (B : IterBody X.prog X.w K X.mg X.base k C fI fld) (hr : Room (k + 2) X.A)
    (pa : PA X [e0] ta) (st : starEach [e0] X.env = [(false, eval e0 X.env)] := by rfl) :
    PI X (.Tuple elts kk tpos) (.Call (.Name "enumerate" p) [e0] [] pos) (iEnumO K C fld ta) := by
  subst h
  exact pi_enumO gl mg W B hr pa st
theorem kpg_tup {X : Cx} {K : PySem.W.Frag} {es : List Expr} {k : Nat} {pos : Pos} {t : TGs} {n : Nat} (h : X.K = K) (hc : X.calm = true) (hg : PGs X es t)
    (hn : (assignEach es X.env).length = n := by rfl) (hst : (assignEach es X.env).findIdx? (·.1) = none := by rfl) : PG X (.Tuple es k pos) (gTup K n t) := h ▸ pg_tup hc hg hn hst
theorem rd_enumO {K : PySem.W.Frag} {C : Addr} {fld : Str} {ta : TA} {σ : L2.St} {H : Hp} {R : It → Hp → Prop} (h : ta σ H fun vs H1 => ∃ (a dx l : Addr) (fs : List (Str × V)), vs = [.ref a] ∧ H1 a = some (.ins C dx fs) ∧ fs.lookup fld = some (.ref l) ∧ (∃ zs, SqT K H1 l zs) ∧ R (ItEt K l) H1) : iEnumO K C fld ta σ H R := h
end Lw

set_option Elab.async false
set_option linter.all false
set_option maxRecDepth 100000
set_option maxHeartbeats 2000000
namespace Lw
open PySem PySem.Spec PyProof.Rows L2 He GenW
/-! ### exceptions of any context take those with none -/
theorem sky_zn {B : Heap} {l : List Env} {a : Addr} {cls : Value} {d : Option Addr} {L : Addr} {h : Heap} (s : Sky B l a (L2N.Zn cls d) L h) : Sky B l a (Zc cls d) L h := by
  have tr : ∀ {fl : Value}, HandSPX.TracedZ h B a (L2N.Zn cls d) fl → HandSPX.TracedZ h B a (Zc cls d) fl := fun ⟨oe, vs, T, oT, ts, e1, z, r⟩ => ⟨oe, vs, T, oT, ts, e1, z.zc, r⟩
  rcases s with ⟨h1, h2, h3, oe, vs, e1, z, r⟩ | ⟨h1, h2, h3, h4⟩ | ⟨h1, h2, h3, h4⟩
  · exact .inl ⟨h1, h2, h3, oe, vs, e1, z.zc, r⟩
  · exact .inr (.inl ⟨h1, h2, h3, tr h4⟩)
  · exact .inr (.inr ⟨h1, h2, h3, tr h4⟩)
theorem takesN {X : Cx} {W : WX} (t : L2.Takes X W) : L2N.Takes X W := fun u s' ⟨a, B, sI, pins, σ, H, cls, d, e, I, nb, up, sky, na, os, ag, w⟩ =>
  t u s' ⟨a, B, sI, pins, σ, H, cls, d, e, I, nb, up, sky_zn sky, na, os, ag, w⟩
/-! ### for in a generator -/
section
variable {M : Model} {A : Around} {R : GenEnd} {Y : Protocol} {n : Nat} {s₀ s : Shared} {c : Code} {fs : List Frame} {env : Env}
  {K : Flow → Sem PySem.Fin} {J : Value → Sem PySem.Fin} {gd : Bool → Bool} {lv : List Value → List Value}
theorem seg_For {tg iter : Expr} {body orelse : List Stmt} {pos : Pos} (hs : ∀ x, foldedSetIterable iter env x = pure x)
    (h : wpAny M (A.over c fs) (eval iter env) (fun x s1 => wpAny M (A.over c fs) (pyIter x) (fun it s2 => ∀ p, Seg M A R Y n s₀ (.forLoop tg it body orelse env) (M.den (.forLoop tg it body orelse env))
      (.ret (fun r => ((match r with | .ok f => (.pure f : Sem Flow) | .error e => .raise e).onRaise (cameBack env)).wrap K J gd lv) none (gd false) (lv []) c p [] :: fs) s2) (fun x s' => Seg M A R Y n s₀ c (J x) fs s') s1) (fun x s' => Seg M A R Y n s₀ c (J x) fs s') s) :
    Seg M A R Y n s₀ c ((exec (.For tg iter body orelse pos) env).wrap K J gd lv) fs s := by
  rw [exec_For]
  refine seg_bind_wrap (wpAny_standAt ?_)
  refine seg_bind_wrap (wpAny_mono h (fun x s1 h1 => ?_) fun _ _ e => e)
  refine seg_bind_wrap (wpAny_of_eq (hs x) ?_)
  refine seg_bind_wrap (wpAny_standAt ?_)
  refine seg_bind_wrap (wpAny_holding (wpAny_mono h1 (fun it s2 h2 => ?_) fun _ _ e => e))
  exact seg_call h2
end
section
variable {prog : Program} {w : World} {A : Around} {R : GenEnd} {Y : Protocol} {n : Nat} {s₀ s : Shared} {fs : List Frame} {env : Env}
/-- an exception leaves the loop's own code -/
abbrev loopExc (env : Env) (x : Value) : Sem PySem.Fin := (do noteFrame x env; theTreesLotGoes x : Sem Unit).wrap (fun _ => .raise x) .raise id id
theorem seg_forLoop {tg : Expr} {it : Value} {body orelse : List Stmt}
    (h : wpAny (model prog w) (A.over (.forLoop tg it body orelse env) fs) (pyNext it) (fun r s1 => match r with
      | none => Seg (model prog w) A R Y n s₀ (.forLoop tg it body orelse env) (.pure (.again (.block orelse env))) fs s1
      | some v => wpAny (model prog w) (A.over (.forLoop tg it body orelse env) fs) (letOwnedTupleGo tg it v) (fun _ s2 => wpAny (model prog w) (A.over (.forLoop tg it body orelse env) fs) (assign tg env v) (fun _ s3 =>
          Seg (model prog w) A R Y n s₀ (.forLoop tg it body orelse env) ((execs body env).wrap (fun f => match f with
            | .next | .cont => .pure (.again (.forLoop tg it body orelse env))
            | .brk => .pure (.done .next)
            | .ret v => .pure (.done (.ret v))) (loopExc env) id id) fs s3)
          (fun x s' => Seg (model prog w) A R Y n s₀ (.forLoop tg it body orelse env) (loopExc env x) fs s') s2)
          (fun x s' => Seg (model prog w) A R Y n s₀ (.forLoop tg it body orelse env) (loopExc env x) fs s') s1)
      (fun x s' => Seg (model prog w) A R Y n s₀ (.forLoop tg it body orelse env) (loopExc env x) fs s') s) :
    Seg (model prog w) A R Y n s₀ (.forLoop tg it body orelse env) ((model prog w).den (.forLoop tg it body orelse env)) fs s := by
  show Seg _ A R Y n s₀ _ ((forTurn tg it body orelse env).onRaise (fun x => do noteFrame x env; theTreesLotGoes x)) fs s
  have ee : ∀ x : Value, ((do noteFrame x env; theTreesLotGoes x : Sem Unit).bind fun _ => (Sem.raise x : Sem PySem.Fin)) = loopExc env x := fun x => Sem.bind_eq_wrap _ _
  rw [Sem.onRaise_eq_wrap]
  unfold forTurn
  refine seg_bind_wrap (wpAny_standAt ?_)
  refine seg_bind_wrap (wpAny_onRaise (wpAny_mono h (fun r s1 h1 => ?_) fun x s' hx => wpAny_standAt (by rw [ee]; exact hx)))
  cases r with
  | none => exact h1
  | some v =>
    refine seg_bind_wrap (wpAny_mono h1 (fun _ s2 h2 => ?_) fun x s' hx => by rw [ee]; exact hx)
    refine seg_bind_wrap (wpAny_mono h2 (fun _ s3 h3 => ?_) fun x s' hx => by rw [ee]; exact hx)
    rw [Sem.bind_eq_wrap', Sem.wrap_wrap]
    refine Eq.mpr (congrArg (fun t => Seg (model prog w) A R Y n s₀ (.forLoop tg it body orelse env) t fs s3) (Sem.wrap_congr (execs body env) _ _ (fun f => ?_) (fun e => ?_))) h3
    · cases f <;> rfl
    · exact ee e
theorem seg_block0 (h : Seg (model prog w) A R Y n s₀ (.block [] env) (.pure (.done .next)) fs s) : Seg (model prog w) A R Y n s₀ (.block [] env) ((model prog w).den (.block [] env)) fs s := h
end
def tGFor (wi : TI) (g : TG) (tb : TGn) : TGn := fun D ys σ H => wi σ H fun I H1 => ∃ W : Nat → Nat → List V → L2.St → Hp → Prop, (∃ m, W 0 m ys σ H1) ∧ ∀ i m ys σ H, W i m ys σ H →
  (I.stop i H ∧ D.nx ys σ H) ∨ (I.go i H ∧ ∃ N : List V → L2.St → Hp → Prop, (∀ ys' σ' H', N ys' σ' H' → ∃ m', m' < m ∧ W (i + 1) m' ys' σ' H') ∧ ∀ x H', I.yld i H x H' → g x σ H' fun σ2 H2 => tb { D with nx := N, ct := N, bk := D.nx } ys σ2 H2)
theorem gs_for {X : Cx} {tg iter : Expr} {body : List Stmt} {wi : TI} {g : TG} {tb : TGn} {pos : Pos} (hp : PassesOwn (model X.prog X.w) X.A X.env X.xe) (hc : X.calm = true) (hi : PI X tg iter wi) (hg : PG X tg g) (hb : GSs X body tb)
    (hs : ∀ x, foldedSetIterable iter X.env x = pure x := by intro _; rfl) : GS X (.For tg iter body [] pos) (tGFor wi g tb) := by
  refine ⟨fun A S ip R n ys s₀ c fs K J gd lv s σ H D gc hn k hI ht => ?_⟩
  refine seg_For hs ?_
  rw [gc.over]
  obtain ⟨acc, cc, r, I⟩ := hI
  refine wpAny_mono (hi.run _ s σ H _ I ht) (fun v s1 h1 => wpAny_mono h1 (fun itv s2 h2 => ?_) fun x s' hx => k.exc n s₀ x s' hx) fun x s' hx => k.exc n s₀ x s' hx
  obtain ⟨it, fp, tn, J1, H2, e, I2, T, st2, f2, W, ⟨m0, w0⟩, turn⟩ := h2
  subst e
  intro p
  have gl := fun (kk : Result → Sem PySem.Fin) => gc_loop (k := kk) (c' := .forLoop tg (.ref it) body [] X.env) (l := lv []) (kp := []) (p := p) gc rfl rfl
  have stat : ∀ {acc' : Array Value} {c' : Nat} {H' : Hp}, (∀ b ∈ fp, H' b = none) → ∀ b ∈ fp, FpOk X ((S, lstObj acc' c') :: ip) H' b := fun {acc' c' H'} hn b hb => by
    obtain ⟨f0, f1, f2, f3, f4, f5⟩ := f2 b hb
    refine ⟨hn b hb, f1, f2, f3, f4, fun p hp => ?_⟩
    rcases List.mem_append.mp hp with hp | hp
    · exact f5 p (List.mem_append_left _ hp)
    · rcases List.mem_cons.mp hp with hp | hp
      · rw [hp]
        exact f5 (S, lstObj acc cc) (List.mem_append_right _ List.mem_cons_self)
      · exact f5 p (List.mem_append_right _ (List.mem_cons_of_mem _ hp))
  have neS : ∀ b ∈ fp, b ≠ S := fun b hb e => (f2 b hb).2.2.2.2.2 (S, lstObj acc cc) (List.mem_append_right _ List.mem_cons_self) e.symm
  have loop : ∀ (m n i : Nat) (ys : List V) (s₀ s : Shared) (σ : L2.St) (H : Hp), n + ys.length = sizeLine → W i m ys σ H → GI X S ip ys σ H s → tn i s.heap → (∀ b ∈ fp, H b = none) →
      Seg (model X.prog X.w) A R (GY X S) n s₀ (.forLoop tg (.ref it) body [] X.env) ((model X.prog X.w).den (.forLoop tg (.ref it) body [] X.env))
        (.ret (fun r => ((match r with | .ok f => (.pure f : Sem Flow) | .error e => .raise e).onRaise (cameBack X.env)).wrap K J gd lv) none (gd false) (lv []) c p [] :: fs) s := by
    intro m
    induction m using Nat.strongRecOn with
    | ind m ih =>
      intro n i ys s₀ s σ H hn w hI st fr
      have ee : ∀ (n : Nat) (s₀ : Shared) (x : Value) (s' : Shared), X.xe x s' → Seg (model X.prog X.w) A R (GY X S) n s₀ (.forLoop tg (.ref it) body [] X.env) (loopExc X.env x)
          (.ret (fun r => ((match r with | .ok f => (.pure f : Sem Flow) | .error e => .raise e).onRaise (cameBack X.env)).wrap K J gd lv) none (gd false) (lv []) c p [] :: fs) s' := fun n s₀ x s' hx => by
        refine seg_wrap ?_
        rw [(gl _).over]
        refine wpAny_bind (wpAny_mono (hp x s' hx) (fun _ s'' hcb => wpAny_theTreesLotGoes ?_) fun y s'' hcb => ?_)
        · exact seg_leaf (.error x) (seg_cameBack gc k hcb)
        · exact seg_leaf (.error y) (seg_cameBack gc k hcb)
      refine seg_forLoop ?_
      rw [(gl _).over]
      obtain ⟨acc, cc, r, I⟩ := hI
      rcases turn i m ys σ H w with ⟨stop, qn⟩ | ⟨go, N, hN, step⟩
      · refine wpAny_mono (T.done X rfl rfl rfl hc i _ s σ H X.xe I (stat fr) st stop) (fun r1 s4 ⟨hr, I4⟩ => ?_) fun x s' hx => ee n s₀ x s' hx
        subst hr
        refine seg_again rfl (seg_block0 ?_)
        exact seg_leaf (.ok .next) (k.ok n ys s₀ s4 .next hn ⟨σ, H, ⟨acc, cc, r, I4⟩, qn⟩)
      · refine wpAny_mono (T.item X rfl rfl rfl hc i _ s σ H X.xe I (stat fr) st go) (fun r1 s4 ⟨u, hr, h4⟩ => ?_) fun x s' hx => ee n s₀ x s' hx
        subst hr
        refine wpAny_mono h4 (fun _ s5 ⟨x, H5, I5, r5, y5, st5, fr5⟩ => ?_) fun x s' hx => ee n s₀ x s' hx
        have I5' := I5.pinned (stat fr5) (T.obj _ _ st5)
        refine wpAny_mono (hg.run _ s5 σ H5 x u _ I5' r5 (step x H5 y5)) (fun _ s6 ⟨σ6, H6, I6, q6⟩ => ?_) fun x s' hx => ee n s₀ x s' hx
        have gl2 : ∀ kk : Result → Sem PySem.Fin, GC X S (ip ++ pinsAt fp s5.heap) A (.forLoop tg (.ref it) body [] X.env) (.ret kk none (gd false) (lv []) c p [] :: fs) id := fun kk => by
          have g1 := gl kk
          refine ⟨g1.pn, fun q hq => ?_, g1.apart, g1.over, g1.split, g1.guard, g1.gd⟩
          rcases List.mem_append.mp hq with z | z
          · exact g1.ip q z
          · exact neS _ (of_pinsAt z).1
        have again : ∀ {ys7 : List V} {σ7 : L2.St} {H7 : Hp} {s7 : Shared} {n' : Nat} {s₀' : Shared}, n' + ys7.length = sizeLine → GI X S (ip ++ pinsAt fp s5.heap) ys7 σ7 H7 s7 → N ys7 σ7 H7 →
            Seg (model X.prog X.w) A R (GY X S) n' s₀' (.forLoop tg (.ref it) body [] X.env) (.pure (.again (.forLoop tg (.ref it) body [] X.env)))
              (.ret (fun r => ((match r with | .ok f => (.pure f : Sem Flow) | .error e => .raise e).onRaise (cameBack X.env)).wrap K J gd lv) none (gd false) (lv []) c p [] :: fs) s7 := fun {ys7 σ7 H7 s7 n' s₀'} hn' hI7 n7 => by
          obtain ⟨m', hm, w7⟩ := hN ys7 σ7 H7 n7
          obtain ⟨acc7, c7, r7, I7⟩ := hI7
          have I7' : Inv X (((S, lstObj acc7 c7) :: ip) ++ pinsAt fp s5.heap) σ7 H7 s7 := I7
          refine seg_again rfl (ih m' hm n' (i + 1) ys7 s₀' s7 σ7 H7 hn' w7 ⟨acc7, c7, r7, I7'.unpinned⟩ (T.keep _ _ _ st5 fun b hb o e => (I7'.pin (b, o) (List.mem_append_right _ (List.mem_append_right _ (mem_pinsAt hb e)))).1) fun b hb => ?_)
          obtain ⟨o, e, d⟩ := T.obj _ _ st5 b hb
          exact (I7'.pin (b, o) (List.mem_append_right _ (List.mem_append_right _ (mem_pinsAt hb e)))).2.1
        have unp : ∀ {ys7 : List V} {σ7 : L2.St} {H7 : Hp} {s7 : Shared}, GI X S (ip ++ pinsAt fp s5.heap) ys7 σ7 H7 s7 → GI X S ip ys7 σ7 H7 s7 := fun {ys7 σ7 H7 s7} ⟨acc7, c7, r7, I7⟩ =>
          ⟨acc7, c7, r7, Inv.unpinned (pins := (S, lstObj acc7 c7) :: ip) (pl := pinsAt fp s5.heap) I7⟩
        refine hb.run A S _ R n ys s₀ _ _ _ _ id id s6 σ6 H6 { D with nx := N, ct := N, bk := D.nx } (gl2 _) hn ⟨fun n' ys' s₀' s3 f hn' hs => ?_, fun n' s₀' x s3 hx => ee n' s₀' x s3 hx⟩ ⟨acc, cc, r, I6⟩ q6
        cases f with
        | next =>
          obtain ⟨σ3, H3, I3, n3⟩ := hs
          exact again hn' I3 n3
        | cont =>
          obtain ⟨σ3, H3, I3, n3⟩ := hs
          exact again hn' I3 n3
        | brk =>
          obtain ⟨σ3, H3, I3, q3⟩ := hs
          exact seg_leaf (.ok .next) (k.ok n' ys' s₀' s3 .next hn' ⟨σ3, H3, unp I3, q3⟩)
        | ret v =>
          obtain ⟨v3, σ3, H3, I3, r3, q3⟩ := hs
          exact seg_leaf (.ok (.ret v)) (k.ok n' ys' s₀' s3 (.ret v) hn' ⟨v3, σ3, H3, unp I3, r3, q3⟩)
  exact loop m0 n 0 ys s₀ s2 σ H2 hn w0 ⟨acc, cc, r, I2⟩ st2 fun b hb => (f2 b hb).1
theorem gfor_range {lo : Int} {n : Nat} {g : TG} {tb : TGn} {D : GEnds} {ys : List V} {σ : L2.St} {H : Hp} (P : Nat → List V → L2.St → Hp → Prop) (h0 : P 0 ys σ H)
    (step : ∀ i ys σ H, i < n → P i ys σ H → g (.int (lo + (i : Nat))) σ H fun σ2 H2 => tb { D with nx := P (i + 1), ct := P (i + 1), bk := D.nx } ys σ2 H2) (fin : ∀ ys σ H, P n ys σ H → D.nx ys σ H) :
    ∃ W : Nat → Nat → List V → L2.St → Hp → Prop, (∃ m, W 0 m ys σ H) ∧ ∀ i m ys σ H, W i m ys σ H →
      ((Itr lo n).stop i H ∧ D.nx ys σ H) ∨ ((Itr lo n).go i H ∧ ∃ N : List V → L2.St → Hp → Prop, (∀ ys' σ' H', N ys' σ' H' → ∃ m', m' < m ∧ W (i + 1) m' ys' σ' H') ∧ ∀ x H', (Itr lo n).yld i H x H' → g x σ H' fun σ2 H2 => tb { D with nx := N, ct := N, bk := D.nx } ys σ2 H2) := by
  refine ⟨fun i m ys σ H => P i ys σ H ∧ i ≤ n ∧ m = n - i, ⟨n, h0, Nat.zero_le _, rfl⟩, fun i m ys σ H ⟨p, le, em⟩ => ?_⟩
  by_cases e : i = n
  · subst e
    exact .inl ⟨Nat.le_refl _, fin _ _ _ p⟩
  · have lt : i < n := by omega
    refine .inr ⟨lt, P (i + 1), fun ys' σ' H' q => ⟨n - (i + 1), by omega, q, lt, rfl⟩, fun x H' y => ?_⟩
    obtain ⟨rfl, rfl⟩ := y
    exact step i ys σ H' lt p
theorem rd_gps {t : TS} {u : TGn} {D : GEnds} {ys : List V} {σ : L2.St} {H : Hp} (h : t { nx := fun σ' H' => u D ys σ' H', rt := D.rt ys, bk := D.bk ys, ct := D.ct ys } σ H) : tGThen (tPlain t) u D ys σ H := h
theorem rd_gfor {wi : TI} {g : TG} {tb u : TGn} {D : GEnds} {ys : List V} {σ : L2.St} {H : Hp} (h : tGFor wi g tb { D with nx := fun ys' σ' H' => u D ys' σ' H' } ys σ H) : tGThen (tGFor wi g tb) u D ys σ H := h
theorem rd_gyield {te : TE} {u : TGn} {D : GEnds} {ys : List V} {σ : L2.St} {H : Hp} (h : ys.length < sizeLine) (h2 : te σ H fun x H1 => u D (ys ++ [x]) σ H1) : tGThen (tGYield te) u D ys σ H := ⟨h, h2⟩
/-! ### the text's own generators -/
theorem gok {P : Program} {w : World} {K : PySem.W.Frag} {mg : Str → Option Value} {base : Heap} {x qual : Str} {params : Arguments} {body : List Stmt} {scope : Scope} {dvs : List V} {kws : List (Str × V)} {f : Addr} {fd : FuncData} {N ps : List Str} {k : Nat} {sp : SpG}
    (F : FunD K x qual params body scope dvs kws f fd) (S : GScope N ps scope) (len : ∀ vs H Q E, sp vs H Q E → vs.length = ps.length)
    (hbody : ∀ (cdv : Value) (A : Around) (outer : List Env) (s : Shared) (H : Hp) (vs : List V) (Q : List V → Hp → Prop) (E : XK) (pn : List (Addr × Obj)), Room k (A.deeper (envOfC qual scope s.heap.objs.size f cdv)) → sp vs H Q E →
      ∃ t, GSs (gcxOf P w K mg base N qual scope f cdv A outer s H E pn) body t ∧ t { nx := fun ys _ H' => Q ys H', rt := fun ys v H' => v = .non ∧ Q ys H' } [] (start N vs) H) : GFn P w K mg base (k + 1) f fd ps sp := by
  obtain ⟨oc, od, dV, kV, doc, pm, an, cdv, ct, osl, rfl, lk, hcd, _, _⟩ := F.ex
  exact gfn_of lk hcd S len fun A outer s H vs Q E pn hr hsp => hbody cdv A outer s H vs Q E pn hr hsp
structure HasG (P : Program) (w : World) (K : PySem.W.Frag) (mg : Str → Option Value) (base : Heap) (k : Nat) (x : Str) (ps : List Str) (sp : SpG) : Prop where
  ex : ∃ fd, GFn P w K mg base k (ga K x) fd ps sp ∧ Binds K fd ps []
  gl : mg x = some (.ref (ga K x))
  kp : PySem.W.keepIn K (.ref (ga K x)) = true
/-- what a generator may let out where W is taken: nothing that ends a walk, whatever the slots are -/
def GE (K : PySem.W.Frag) (n : Nat) (W : WX) : XK := fun cls d H => PySem.W.subIn K cls (.type "StopIteration") = some false ∧ ∀ σ : L2.St, σ.length = n → W cls d σ H
theorem no_stop {K : PySem.W.Frag} {C : Addr} (T : OexC K C) : PySem.W.subIn K (.ref C) (.type "StopIteration") = some false := by
  have b := T.exC
  obtain ⟨nm, q, N, bs, bm, sn, sub, ab, col, dd, k0, k1, k2, k3, k5, lk, refs⟩ := T.cls
  have e : (Value.ref C :: bm).contains (.type "StopIteration") = false := by
    have := PySem.HandSPX.refsVE_contains "StopIteration" bm refs
    have h2 : PySem.HandSPX.veTail.contains (.type "StopIteration") = false := by decide
    rw [h2] at this
    rw [List.contains_cons, this]
    rfl
  change PySem.W.mroIn K C _ = _
  unfold PySem.W.mroIn PySem.W.clsIn
  rw [lk]
  first
  | exact congrArg some e
  | (simp only [Option.bind]; exact congrArg some e)
theorem takesF {X : Cx} : L2.Takes X (fun _ _ _ _ => False) := fun u s' ⟨_, _, _, _, _, _, _, _, _, _, _, _, _, _, _, _, no⟩ => False.elim no
section
variable {X : Cx} {W : WX} {k n : Nat} {K : PySem.W.Frag} {x : Str} {ps : List Str} {sp : SpG} {t : TA} {p p2 pos pos2 : Pos} {e : Expr} {es : List Expr}
/-- list(x(e, ..)) -/
theorem pe_listHG (hK : X.K = K) (hN : X.N.length = n) (h : HasG X.prog X.w X.K X.mg X.base k x ps sp) (hr : Room (k + 3) X.A) (tk : L2.Takes X W) (hml : X.mg "list" = none) (ha : PA X (e :: es) t) (hg : Gl X x := by rfl) (hgl : Gl X "list" := by rfl) (hdb : (x == ("__debug__" : Str)) = false := by decide)
    (he : starEach (e :: es) X.env = (false, eval e X.env) :: starEach es X.env := by rfl) (hpl : (backTo pos2 (starEach es X.env)).any (·.1) = false := by rfl) :
    PE X (.Call (.Name "list" p) [.Call (.Name x p2) (e :: es) [] pos2] [] pos) (tListG (tCallG sp [] (GE K n W) t)) := by
  subst hK hN
  obtain ⟨fd, F, b⟩ := h.ex
  refine pe_listG (k := k) (E := GE X.K X.N.length W) (pgen_call F ⟨hr.hd, by have := hr.dp; omega, by have := hr.un; omega⟩ hg h.gl h.kp b .nil ha hdb he hpl) (fun pins σ H s u s' I c => ?_) (fun _ _ _ h => h.1) hr hgl hml (by decide)
  exact tk u s' (L2.XE.of_call I (fun cls d H' q => q.2 σ I.len) c)
theorem rd_listG {tg : TGen} {σ : L2.St} {H : Hp} {Q : VK} (h : tg σ H fun out H2 => ∀ p, H2 p = none → Q (.ref p) (upd H2 p (.lst out))) : tListG tg σ H Q := h
theorem rd_callG {E : XK} {σ : L2.St} {H : Hp} {Q : List V → Hp → Prop} (h : t σ H fun vs H1 => sp (vs ++ []) H1 Q E) : tCallG sp [] E t σ H Q := h
end
end Lw

set_option Elab.async false
set_option linter.all false
set_option maxRecDepth 100000
set_option maxHeartbeats 0
namespace Lw
open PySem PySem.Spec PyProof.Rows L2 He
def top (i : Nat) : Stmt := PySem.Challenge.pw_lowerwords_k39_whole_all_words_by_number.main.body.getD i (.Pass ⟨0, 0, 0, 0⟩)
abbrev s__wall : Stmt := top 0
def d__wall : DefD := ⟨("_wall", none), "_wall", "_wall", defArgs s__wall, defBody s__wall, defScope s__wall, [], []⟩
abbrev s_is_whole : Stmt := top 12
def d_is_whole : DefD := ⟨("is_whole", none), "is_whole", "is_whole", defArgs s_is_whole, defBody s_is_whole, defScope s_is_whole, [], []⟩
abbrev s_check_letters : Stmt := top 13
def d_check_letters : DefD := ⟨("check_letters", none), "check_letters", "check_letters", defArgs s_check_letters, defBody s_check_letters, defScope s_check_letters, [], []⟩
abbrev s_check_number : Stmt := top 14
def d_check_number : DefD := ⟨("check_number", none), "check_number", "check_number", defArgs s_check_number, defBody s_check_number, defScope s_check_number, [], []⟩
abbrev s_check_heaps : Stmt := top 15
def d_check_heaps : DefD := ⟨("check_heaps", none), "check_heaps", "check_heaps", defArgs s_check_heaps, defBody s_check_heaps, defScope s_check_heaps, [], []⟩
abbrev s__first_bad : Stmt := top 16
def d__first_bad : DefD := ⟨("_first_bad", none), "_first_bad", "_first_bad", defArgs s__first_bad, defBody s__first_bad, defScope s__first_bad, [], []⟩
abbrev s_all_letters : Stmt := top 17
def d_all_letters : DefD := ⟨("all_letters", none), "all_letters", "all_letters", defArgs s_all_letters, defBody s_all_letters, defScope s_all_letters, [], []⟩
abbrev s_all_heaps : Stmt := top 18
def d_all_heaps : DefD := ⟨("all_heaps", none), "all_heaps", "all_heaps", defArgs s_all_heaps, defBody s_all_heaps, defScope s_all_heaps, [], []⟩
abbrev s_check_word : Stmt := top 21
def d_check_word : DefD := ⟨("check_word", none), "check_word", "check_word", defArgs s_check_word, defBody s_check_word, defScope s_check_word, [], []⟩
abbrev s_full_word : Stmt := top 22
def d_full_word : DefD := ⟨("full_word", none), "full_word", "full_word", defArgs s_full_word, defBody s_full_word, defScope s_full_word, [], []⟩
abbrev s_word_of : Stmt := top 23
def d_word_of : DefD := ⟨("word_of", none), "word_of", "word_of", defArgs s_word_of, defBody s_word_of, defScope s_word_of, [], []⟩
abbrev s_heaps_of : Stmt := top 24
def d_heaps_of : DefD := ⟨("heaps_of", none), "heaps_of", "heaps_of", defArgs s_heaps_of, defBody s_heaps_of, defScope s_heaps_of, [], []⟩
abbrev s__stepped : Stmt := top 25
def d__stepped : DefD := ⟨("_stepped", none), "_stepped", "_stepped", defArgs s__stepped, defBody s__stepped, defScope s__stepped, [], []⟩
abbrev s__marks : Stmt := top 26
def d__marks : DefD := ⟨("_marks", none), "_marks", "_marks", defArgs s__marks, defBody s__marks, defScope s__marks, [], []⟩
abbrev s_places_of : Stmt := top 27
def d_places_of : DefD := ⟨("places_of", none), "places_of", "places_of", defArgs s_places_of, defBody s_places_of, defScope s_places_of, [], []⟩
abbrev s_holds : Stmt := top 30
def d_holds : DefD := ⟨("holds", none), "holds", "holds", defArgs s_holds, defBody s_holds, defScope s_holds, [], []⟩
abbrev s_heap_missing : Stmt := top 31
def d_heap_missing : DefD := ⟨("heap_missing", none), "heap_missing", "heap_missing", defArgs s_heap_missing, defBody s_heap_missing, defScope s_heap_missing, [], []⟩
abbrev s_check_in_code : Stmt := top 32
def d_check_in_code : DefD := ⟨("check_in_code", none), "check_in_code", "check_in_code", defArgs s_check_in_code, defBody s_check_in_code, defScope s_check_in_code, [], []⟩
abbrev s_word_at : Stmt := top 33
def d_word_at : DefD := ⟨("word_at", none), "word_at", "word_at", defArgs s_word_at, defBody s_word_at, defScope s_word_at, [], []⟩
abbrev s_number_of : Stmt := top 34
def d_number_of : DefD := ⟨("number_of", none), "number_of", "number_of", defArgs s_number_of, defBody s_number_of, defScope s_number_of, [], []⟩
abbrev s_all_words : Stmt := top 35
def d_all_words : DefD := ⟨("all_words", none), "all_words", "all_words", defArgs s_all_words, defBody s_all_words, defScope s_all_words, [], []⟩
abbrev s__law_mix : Stmt := top 38
def d__law_mix : DefD := ⟨("_law_mix", none), "_law_mix", "_law_mix", defArgs s__law_mix, defBody s__law_mix, defScope s__law_mix, [], []⟩
abbrev s__law_hand : Stmt := top 39
def d__law_hand : DefD := ⟨("_law_hand", none), "_law_hand", "_law_hand", defArgs s__law_hand, defBody s__law_hand, defScope s__law_hand, [], []⟩
abbrev s__law_draw : Stmt := top 40
def d__law_draw : DefD := ⟨("_law_draw", none), "_law_draw", "_law_draw", defArgs s__law_draw, defBody s__law_draw, defScope s__law_draw, [], []⟩
abbrev s__law_wide : Stmt := top 41
def d__law_wide : DefD := ⟨("_law_wide", none), "_law_wide", "_law_wide", defArgs s__law_wide, defBody s__law_wide, defScope s__law_wide, [], []⟩
abbrev s__law_letters : Stmt := top 42
def d__law_letters : DefD := ⟨("_law_letters", none), "_law_letters", "_law_letters", defArgs s__law_letters, defBody s__law_letters, defScope s__law_letters, [], []⟩
abbrev s__law_ones : Stmt := top 43
def d__law_ones : DefD := ⟨("_law_ones", none), "_law_ones", "_law_ones", defArgs s__law_ones, defBody s__law_ones, defScope s__law_ones, [], []⟩
abbrev s__law_heap_word : Stmt := top 44
def d__law_heap_word : DefD := ⟨("_law_heap_word", none), "_law_heap_word", "_law_heap_word", defArgs s__law_heap_word, defBody s__law_heap_word, defScope s__law_heap_word, [], []⟩
abbrev s__law_sum : Stmt := top 45
def d__law_sum : DefD := ⟨("_law_sum", none), "_law_sum", "_law_sum", defArgs s__law_sum, defBody s__law_sum, defScope s__law_sum, [], []⟩
abbrev s__law_heaps_of : Stmt := top 46
def d__law_heaps_of : DefD := ⟨("_law_heaps_of", none), "_law_heaps_of", "_law_heaps_of", defArgs s__law_heaps_of, defBody s__law_heaps_of, defScope s__law_heaps_of, [], []⟩
abbrev s__law_is_below : Stmt := top 47
def d__law_is_below : DefD := ⟨("_law_is_below", none), "_law_is_below", "_law_is_below", defArgs s__law_is_below, defBody s__law_is_below, defScope s__law_is_below, [], []⟩
abbrev s__law_falling : Stmt := top 48
def d__law_falling : DefD := ⟨("_law_falling", none), "_law_falling", "_law_falling", defArgs s__law_falling, defBody s__law_falling, defScope s__law_falling, [], []⟩
abbrev s__law_closed : Stmt := top 49
def d__law_closed : DefD := ⟨("_law_closed", none), "_law_closed", "_law_closed", defArgs s__law_closed, defBody s__law_closed, defScope s__law_closed, [], []⟩
abbrev s__law_seeds : Stmt := top 50
def d__law_seeds : DefD := ⟨("_law_seeds", none), "_law_seeds", "_law_seeds", defArgs s__law_seeds, defBody s__law_seeds, defScope s__law_seeds, [], []⟩
abbrev s__law_choice : Stmt := top 51
def d__law_choice : DefD := ⟨("_law_choice", none), "_law_choice", "_law_choice", defArgs s__law_choice, defBody s__law_choice, defScope s__law_choice, [], []⟩
abbrev s__law_small_falling : Stmt := top 52
def d__law_small_falling : DefD := ⟨("_law_small_falling", none), "_law_small_falling", "_law_small_falling", defArgs s__law_small_falling, defBody s__law_small_falling, defScope s__law_small_falling, [], []⟩
abbrev s__law_any_word : Stmt := top 53
def d__law_any_word : DefD := ⟨("_law_any_word", none), "_law_any_word", "_law_any_word", defArgs s__law_any_word, defBody s__law_any_word, defScope s__law_any_word, [], []⟩
abbrev s__law_odd : Stmt := top 54
def d__law_odd : DefD := ⟨("_law_odd", none), "_law_odd", "_law_odd", defArgs s__law_odd, defBody s__law_odd, defScope s__law_odd, [], []⟩
abbrev s__law_unique : Stmt := top 55
def d__law_unique : DefD := ⟨("_law_unique", none), "_law_unique", "_law_unique", defArgs s__law_unique, defBody s__law_unique, defScope s__law_unique, [], []⟩
abbrev s__law_listed : Stmt := top 56
def d__law_listed : DefD := ⟨("_law_listed", none), "_law_listed", "_law_listed", defArgs s__law_listed, defBody s__law_listed, defScope s__law_listed, [], []⟩
abbrev s__law_at : Stmt := top 57
def d__law_at : DefD := ⟨("_law_at", none), "_law_at", "_law_at", defArgs s__law_at, defBody s__law_at, defScope s__law_at, [], []⟩
abbrev s__law_number : Stmt := top 58
def d__law_number : DefD := ⟨("_law_number", none), "_law_number", "_law_number", defArgs s__law_number, defBody s__law_number, defScope s__law_number, [], []⟩
abbrev s__law_holds : Stmt := top 59
def d__law_holds : DefD := ⟨("_law_holds", none), "_law_holds", "_law_holds", defArgs s__law_holds, defBody s__law_holds, defScope s__law_holds, [], []⟩
abbrev s__law_picked : Stmt := top 60
def d__law_picked : DefD := ⟨("_law_picked", none), "_law_picked", "_law_picked", defArgs s__law_picked, defBody s__law_picked, defScope s__law_picked, [], []⟩
abbrev s__law_list_right : Stmt := top 61
def d__law_list_right : DefD := ⟨("_law_list_right", none), "_law_list_right", "_law_list_right", defArgs s__law_list_right, defBody s__law_list_right, defScope s__law_list_right, [], []⟩
abbrev s_law : Stmt := top 62
def d_law : DefD := ⟨("law", none), "law", "law", defArgs s_law, defBody s_law, defScope s_law, [], []⟩
abbrev s_BadNumber___init__ : Stmt := inClass (top 4) 0
def d_BadNumber___init__ : DefD := ⟨("BadNumber", some "__init__"), "__init__", "BadNumber.__init__", defArgs s_BadNumber___init__, defBody s_BadNumber___init__, defScope s_BadNumber___init__, [], []⟩
abbrev s_BadHeap___init__ : Stmt := inClass (top 5) 0
def d_BadHeap___init__ : DefD := ⟨("BadHeap", some "__init__"), "__init__", "BadHeap.__init__", defArgs s_BadHeap___init__, defBody s_BadHeap___init__, defScope s_BadHeap___init__, [], []⟩
abbrev s_BadWord___init__ : Stmt := inClass (top 6) 0
def d_BadWord___init__ : DefD := ⟨("BadWord", some "__init__"), "__init__", "BadWord.__init__", defArgs s_BadWord___init__, defBody s_BadWord___init__, defScope s_BadWord___init__, [], []⟩
abbrev s_BadChoice___init__ : Stmt := inClass (top 7) 0
def d_BadChoice___init__ : DefD := ⟨("BadChoice", some "__init__"), "__init__", "BadChoice.__init__", defArgs s_BadChoice___init__, defBody s_BadChoice___init__, defScope s_BadChoice___init__, [], []⟩
abbrev s_TooMany___init__ : Stmt := inClass (top 8) 0
def d_TooMany___init__ : DefD := ⟨("TooMany", some "__init__"), "__init__", "TooMany.__init__", defArgs s_TooMany___init__, defBody s_TooMany___init__, defScope s_TooMany___init__, [], []⟩
abbrev s_NotInCode___init__ : Stmt := inClass (top 9) 0
def d_NotInCode___init__ : DefD := ⟨("NotInCode", some "__init__"), "__init__", "NotInCode.__init__", defArgs s_NotInCode___init__, defBody s_NotInCode___init__, defScope s_NotInCode___init__, [], []⟩
abbrev s_Choice___init__ : Stmt := inClass (top 36) 0
def d_Choice___init__ : DefD := ⟨("Choice", some "__init__"), "__init__", "Choice.__init__", defArgs s_Choice___init__, defBody s_Choice___init__, defScope s_Choice___init__, [], []⟩
abbrev s_Choice___contains__ : Stmt := inClass (top 36) 3
def d_Choice___contains__ : DefD := ⟨("Choice", some "__contains__"), "__contains__", "Choice.__contains__", defArgs s_Choice___contains__, defBody s_Choice___contains__, defScope s_Choice___contains__, [], []⟩
abbrev s_Choice___iter__ : Stmt := inClass (top 36) 4
def d_Choice___iter__ : DefD := ⟨("Choice", some "__iter__"), "__iter__", "Choice.__iter__", defArgs s_Choice___iter__, defBody s_Choice___iter__, defScope s_Choice___iter__, [], []⟩
abbrev s_Choice___eq__ : Stmt := inClass (top 36) 5
def d_Choice___eq__ : DefD := ⟨("Choice", some "__eq__"), "__eq__", "Choice.__eq__", defArgs s_Choice___eq__, defBody s_Choice___eq__, defScope s_Choice___eq__, [], []⟩
abbrev s_Choice_size : Stmt := inClass (top 36) 1
def p_Choice_size : PrD := ⟨"Choice", "size", "Choice.size", defArgs s_Choice_size, defBody s_Choice_size, defScope s_Choice_size⟩
def pr : List PrD := [p_Choice_size]
def fn0 : List DefD := [d__wall, d_is_whole, d_check_letters, d_check_number, d_check_heaps, d__first_bad, d_all_letters, d_all_heaps, d_check_word, d_full_word, d_word_of, d_heaps_of, d__stepped, d__marks, d_places_of, d_holds, d_heap_missing, d_check_in_code, d_word_at, d_number_of]
def fn1 : List DefD := [d_all_words, d__law_mix, d__law_hand, d__law_draw, d__law_wide, d__law_letters, d__law_ones, d__law_heap_word, d__law_sum, d__law_heaps_of, d__law_is_below, d__law_falling, d__law_closed, d__law_seeds, d__law_choice, d__law_small_falling, d__law_any_word, d__law_odd, d__law_unique, d__law_listed]
def fn2 : List DefD := [d__law_at, d__law_number, d__law_holds, d__law_picked, d__law_list_right, d_law, d_BadNumber___init__, d_BadHeap___init__, d_BadWord___init__, d_BadChoice___init__, d_TooMany___init__, d_NotInCode___init__, d_Choice___init__, d_Choice___contains__, d_Choice___iter__, d_Choice___eq__]
def fn : List DefD := fn0 ++ fn1 ++ fn2
def fa0 : List Fa := [.glo "_wall", .glo "is_whole", .glo "check_letters", .glo "check_number", .glo "check_heaps", .glo "_first_bad", .glo "all_letters", .glo "all_heaps", .glo "check_word", .glo "full_word", .glo "word_of", .glo "heaps_of", .glo "_stepped", .glo "_marks", .glo "places_of", .glo "holds", .glo "heap_missing", .glo "check_in_code", .glo "word_at", .glo "number_of"]
def fa1 : List Fa := [.glo "all_words", .glo "_law_mix", .glo "_law_hand", .glo "_law_draw", .glo "_law_wide", .glo "_law_letters", .glo "_law_ones", .glo "_law_heap_word", .glo "_law_sum", .glo "_law_heaps_of", .glo "_law_is_below", .glo "_law_falling", .glo "_law_closed", .glo "_law_seeds", .glo "_law_choice", .glo "_law_small_falling", .glo "_law_any_word", .glo "_law_odd", .glo "_law_unique", .glo "_law_listed"]
def fa2 : List Fa := [.glo "_law_at", .glo "_law_number", .glo "_law_holds", .glo "_law_picked", .glo "_law_list_right", .glo "law", .glo "WordError", .glo "BadLetters", .glo "BadNumber", .glo "BadHeap", .glo "BadWord", .glo "BadChoice", .glo "TooMany", .glo "NotInCode", .glo "Choice", .int "MOST_LETTERS" 5, .glo "WITHOUT_LETTER", .int "MOST_LISTED_SIZE" 12, .free "ValueError", .free "abs"]
def fa3 : List Fa := [.free "any", .free "bool", .free "enumerate", .free "int", .free "isinstance", .free "iter", .free "len", .free "list", .free "property", .free "range", .free "set", .free "sorted", .free "sum", .free "tuple", .cls "Choice", .mkr "Choice", .meth "Choice" "__contains__", .meth "Choice" "__iter__", .meth "Choice" "__eq__", .noat "Choice" "letters"]
def fa4 : List Fa := [.noat "Choice" "heaps", .exc "WordError", .exc "BadLetters", .exm "BadLetters" "BadHeap" false, .exm "BadLetters" "BadNumber" false, .exm "BadLetters" "BadWord" false, .exm "BadLetters" "NotInCode" false, .exm "BadLetters" "TooMany" false, .exm "BadNumber" "BadHeap" false, .exm "BadNumber" "BadNumber" true, .exm "BadNumber" "BadWord" false, .exm "BadNumber" "NotInCode" false, .exm "BadNumber" "TooMany" false, .exm "BadHeap" "BadHeap" true, .exm "BadHeap" "BadNumber" false, .exm "BadHeap" "BadWord" false, .exm "BadHeap" "NotInCode" false, .exm "BadHeap" "TooMany" false, .exm "BadWord" "BadHeap" false, .exm "BadWord" "BadNumber" false]
def fa5 : List Fa := [.exm "BadWord" "BadWord" true, .exm "BadWord" "NotInCode" false, .exm "BadWord" "TooMany" false, .exm "BadChoice" "BadHeap" false, .exm "BadChoice" "BadNumber" false, .exm "BadChoice" "BadWord" false, .exm "BadChoice" "NotInCode" false, .exm "BadChoice" "TooMany" false, .exm "TooMany" "BadHeap" false, .exm "TooMany" "BadNumber" false, .exm "TooMany" "BadWord" false, .exm "TooMany" "NotInCode" false, .exm "TooMany" "TooMany" true, .exm "NotInCode" "BadHeap" false, .exm "NotInCode" "BadNumber" false, .exm "NotInCode" "BadWord" false, .exm "NotInCode" "NotInCode" true, .exm "NotInCode" "TooMany" false]
def fa : List Fa := fa0 ++ fa1 ++ fa2 ++ fa3 ++ fa4 ++ fa5
def ex (K : PySem.W.Frag) : Bool := insB "Choice" K && (excB "BadNumber" ["most"] K && (excB "BadHeap" ["index"] K && (excB "BadWord" ["index"] K && (excB "BadChoice" ["index", "what"] K && (excB "TooMany" ["most"] K && (excB "NotInCode" ["heap"] K && (tupB "WITHOUT_LETTER" [1431655765, 858993459, 252645135, 16711935, 65535] K)))))))
abbrev R : PySem.W.OpenRow := PySem.W.OpenLaw.row PySem.Challenge.rw_lowerwords_k39_whole_all_words_by_number
abbrev hk : PySem.W.Hook := hookP 6 fa fn ex pr
def ob (s : PySem.W.SharedT) : AlP := obsP 6 fa fn ex pr (HandSHeadRun.getT s)
theorem ob_eq (s : PySem.W.SharedT) : ob s = hk.obs s.abs := obsP_eq (HandSHeadRun.getT_eq s)
def loose0 : List PySem.Str := ["_wall", "WordError", "BadLetters", "BadNumber", "BadHeap", "BadWord", "BadChoice", "TooMany", "NotInCode", "MOST_LETTERS", "is_whole", "check_letters", "check_number", "check_heaps", "_first_bad", "all_letters", "all_heaps", "WITHOUT_LETTER", "check_word", "full_word"]
def loose1 : List PySem.Str := ["word_of", "heaps_of", "_stepped", "_marks", "places_of", "MOST_LISTED_SIZE", "holds", "heap_missing", "check_in_code", "word_at", "number_of", "all_words", "Choice", "_law_mix", "_law_hand", "_law_draw", "_law_wide", "_law_letters", "_law_ones", "_law_heap_word"]
def loose2 : List PySem.Str := ["_law_sum", "_law_heaps_of", "_law_is_below", "_law_falling", "_law_closed", "_law_seeds", "_law_choice", "_law_small_falling", "_law_any_word", "_law_odd", "_law_unique", "_law_listed", "_law_at", "_law_number", "_law_holds", "_law_picked", "_law_list_right"]
def loose : List PySem.Str := loose0 ++ loose1 ++ loose2
theorem run (w : World) : HandSHeadRun.RunEq R (PySem.W.view R.prog [62]) hk ob 4000 loose w := by
  intro os
  kernel_rfl
end Lw

set_option Elab.async false
set_option linter.all false
set_option maxRecDepth 100000
set_option maxHeartbeats 2000000
namespace Lw
open PySem PySem.Spec PyProof.Rows L2 He
structure Ctx (K : PySem.W.Frag) (mg : Str → Option Value) : Prop where
  X : ∃ h : Heap, K.In h ∧ h.Ns mainGlobals mg
  c : SaysP fa fn ex pr K
section
variable {P : Program} {w : World} {K : PySem.W.Frag} {mg : Str → Option Value} {base : Heap}
theorem g__wall (E : Ctx K mg) : mg "_wall" = some (.ref (ga K "_wall")) := by
  obtain ⟨⟨h, X, G⟩, c⟩ := E
  exact glo_ok X G (c.d.fact 0 (f := .glo "_wall") rfl)
theorem g_is_whole (E : Ctx K mg) : mg "is_whole" = some (.ref (ga K "is_whole")) := by
  obtain ⟨⟨h, X, G⟩, c⟩ := E
  exact glo_ok X G (c.d.fact 1 (f := .glo "is_whole") rfl)
theorem g_check_letters (E : Ctx K mg) : mg "check_letters" = some (.ref (ga K "check_letters")) := by
  obtain ⟨⟨h, X, G⟩, c⟩ := E
  exact glo_ok X G (c.d.fact 2 (f := .glo "check_letters") rfl)
theorem g_check_number (E : Ctx K mg) : mg "check_number" = some (.ref (ga K "check_number")) := by
  obtain ⟨⟨h, X, G⟩, c⟩ := E
  exact glo_ok X G (c.d.fact 3 (f := .glo "check_number") rfl)
theorem g_check_heaps (E : Ctx K mg) : mg "check_heaps" = some (.ref (ga K "check_heaps")) := by
  obtain ⟨⟨h, X, G⟩, c⟩ := E
  exact glo_ok X G (c.d.fact 4 (f := .glo "check_heaps") rfl)
theorem g__first_bad (E : Ctx K mg) : mg "_first_bad" = some (.ref (ga K "_first_bad")) := by
  obtain ⟨⟨h, X, G⟩, c⟩ := E
  exact glo_ok X G (c.d.fact 5 (f := .glo "_first_bad") rfl)
theorem g_all_letters (E : Ctx K mg) : mg "all_letters" = some (.ref (ga K "all_letters")) := by
  obtain ⟨⟨h, X, G⟩, c⟩ := E
  exact glo_ok X G (c.d.fact 6 (f := .glo "all_letters") rfl)
theorem g_all_heaps (E : Ctx K mg) : mg "all_heaps" = some (.ref (ga K "all_heaps")) := by
  obtain ⟨⟨h, X, G⟩, c⟩ := E
  exact glo_ok X G (c.d.fact 7 (f := .glo "all_heaps") rfl)
theorem g_check_word (E : Ctx K mg) : mg "check_word" = some (.ref (ga K "check_word")) := by
  obtain ⟨⟨h, X, G⟩, c⟩ := E
  exact glo_ok X G (c.d.fact 8 (f := .glo "check_word") rfl)
theorem g_full_word (E : Ctx K mg) : mg "full_word" = some (.ref (ga K "full_word")) := by
  obtain ⟨⟨h, X, G⟩, c⟩ := E
  exact glo_ok X G (c.d.fact 9 (f := .glo "full_word") rfl)
theorem g_word_of (E : Ctx K mg) : mg "word_of" = some (.ref (ga K "word_of")) := by
  obtain ⟨⟨h, X, G⟩, c⟩ := E
  exact glo_ok X G (c.d.fact 10 (f := .glo "word_of") rfl)
theorem g_heaps_of (E : Ctx K mg) : mg "heaps_of" = some (.ref (ga K "heaps_of")) := by
  obtain ⟨⟨h, X, G⟩, c⟩ := E
  exact glo_ok X G (c.d.fact 11 (f := .glo "heaps_of") rfl)
theorem g__stepped (E : Ctx K mg) : mg "_stepped" = some (.ref (ga K "_stepped")) := by
  obtain ⟨⟨h, X, G⟩, c⟩ := E
  exact glo_ok X G (c.d.fact 12 (f := .glo "_stepped") rfl)
theorem g__marks (E : Ctx K mg) : mg "_marks" = some (.ref (ga K "_marks")) := by
  obtain ⟨⟨h, X, G⟩, c⟩ := E
  exact glo_ok X G (c.d.fact 13 (f := .glo "_marks") rfl)
theorem g_places_of (E : Ctx K mg) : mg "places_of" = some (.ref (ga K "places_of")) := by
  obtain ⟨⟨h, X, G⟩, c⟩ := E
  exact glo_ok X G (c.d.fact 14 (f := .glo "places_of") rfl)
theorem g_holds (E : Ctx K mg) : mg "holds" = some (.ref (ga K "holds")) := by
  obtain ⟨⟨h, X, G⟩, c⟩ := E
  exact glo_ok X G (c.d.fact 15 (f := .glo "holds") rfl)
theorem g_heap_missing (E : Ctx K mg) : mg "heap_missing" = some (.ref (ga K "heap_missing")) := by
  obtain ⟨⟨h, X, G⟩, c⟩ := E
  exact glo_ok X G (c.d.fact 16 (f := .glo "heap_missing") rfl)
theorem g_check_in_code (E : Ctx K mg) : mg "check_in_code" = some (.ref (ga K "check_in_code")) := by
  obtain ⟨⟨h, X, G⟩, c⟩ := E
  exact glo_ok X G (c.d.fact 17 (f := .glo "check_in_code") rfl)
theorem g_word_at (E : Ctx K mg) : mg "word_at" = some (.ref (ga K "word_at")) := by
  obtain ⟨⟨h, X, G⟩, c⟩ := E
  exact glo_ok X G (c.d.fact 18 (f := .glo "word_at") rfl)
theorem g_number_of (E : Ctx K mg) : mg "number_of" = some (.ref (ga K "number_of")) := by
  obtain ⟨⟨h, X, G⟩, c⟩ := E
  exact glo_ok X G (c.d.fact 19 (f := .glo "number_of") rfl)
theorem g_all_words (E : Ctx K mg) : mg "all_words" = some (.ref (ga K "all_words")) := by
  obtain ⟨⟨h, X, G⟩, c⟩ := E
  exact glo_ok X G (c.d.fact 20 (f := .glo "all_words") rfl)
theorem g__law_mix (E : Ctx K mg) : mg "_law_mix" = some (.ref (ga K "_law_mix")) := by
  obtain ⟨⟨h, X, G⟩, c⟩ := E
  exact glo_ok X G (c.d.fact 21 (f := .glo "_law_mix") rfl)
theorem g__law_hand (E : Ctx K mg) : mg "_law_hand" = some (.ref (ga K "_law_hand")) := by
  obtain ⟨⟨h, X, G⟩, c⟩ := E
  exact glo_ok X G (c.d.fact 22 (f := .glo "_law_hand") rfl)
theorem g__law_draw (E : Ctx K mg) : mg "_law_draw" = some (.ref (ga K "_law_draw")) := by
  obtain ⟨⟨h, X, G⟩, c⟩ := E
  exact glo_ok X G (c.d.fact 23 (f := .glo "_law_draw") rfl)
theorem g__law_wide (E : Ctx K mg) : mg "_law_wide" = some (.ref (ga K "_law_wide")) := by
  obtain ⟨⟨h, X, G⟩, c⟩ := E
  exact glo_ok X G (c.d.fact 24 (f := .glo "_law_wide") rfl)
theorem g__law_letters (E : Ctx K mg) : mg "_law_letters" = some (.ref (ga K "_law_letters")) := by
  obtain ⟨⟨h, X, G⟩, c⟩ := E
  exact glo_ok X G (c.d.fact 25 (f := .glo "_law_letters") rfl)
theorem g__law_ones (E : Ctx K mg) : mg "_law_ones" = some (.ref (ga K "_law_ones")) := by
  obtain ⟨⟨h, X, G⟩, c⟩ := E
  exact glo_ok X G (c.d.fact 26 (f := .glo "_law_ones") rfl)
theorem g__law_heap_word (E : Ctx K mg) : mg "_law_heap_word" = some (.ref (ga K "_law_heap_word")) := by
  obtain ⟨⟨h, X, G⟩, c⟩ := E
  exact glo_ok X G (c.d.fact 27 (f := .glo "_law_heap_word") rfl)
theorem g__law_sum (E : Ctx K mg) : mg "_law_sum" = some (.ref (ga K "_law_sum")) := by
  obtain ⟨⟨h, X, G⟩, c⟩ := E
  exact glo_ok X G (c.d.fact 28 (f := .glo "_law_sum") rfl)
theorem g__law_heaps_of (E : Ctx K mg) : mg "_law_heaps_of" = some (.ref (ga K "_law_heaps_of")) := by
  obtain ⟨⟨h, X, G⟩, c⟩ := E
  exact glo_ok X G (c.d.fact 29 (f := .glo "_law_heaps_of") rfl)
theorem g__law_is_below (E : Ctx K mg) : mg "_law_is_below" = some (.ref (ga K "_law_is_below")) := by
  obtain ⟨⟨h, X, G⟩, c⟩ := E
  exact glo_ok X G (c.d.fact 30 (f := .glo "_law_is_below") rfl)
theorem g__law_falling (E : Ctx K mg) : mg "_law_falling" = some (.ref (ga K "_law_falling")) := by
  obtain ⟨⟨h, X, G⟩, c⟩ := E
  exact glo_ok X G (c.d.fact 31 (f := .glo "_law_falling") rfl)
theorem g__law_closed (E : Ctx K mg) : mg "_law_closed" = some (.ref (ga K "_law_closed")) := by
  obtain ⟨⟨h, X, G⟩, c⟩ := E
  exact glo_ok X G (c.d.fact 32 (f := .glo "_law_closed") rfl)
theorem g__law_seeds (E : Ctx K mg) : mg "_law_seeds" = some (.ref (ga K "_law_seeds")) := by
  obtain ⟨⟨h, X, G⟩, c⟩ := E
  exact glo_ok X G (c.d.fact 33 (f := .glo "_law_seeds") rfl)
theorem g__law_choice (E : Ctx K mg) : mg "_law_choice" = some (.ref (ga K "_law_choice")) := by
  obtain ⟨⟨h, X, G⟩, c⟩ := E
  exact glo_ok X G (c.d.fact 34 (f := .glo "_law_choice") rfl)
theorem g__law_small_falling (E : Ctx K mg) : mg "_law_small_falling" = some (.ref (ga K "_law_small_falling")) := by
  obtain ⟨⟨h, X, G⟩, c⟩ := E
  exact glo_ok X G (c.d.fact 35 (f := .glo "_law_small_falling") rfl)
theorem g__law_any_word (E : Ctx K mg) : mg "_law_any_word" = some (.ref (ga K "_law_any_word")) := by
  obtain ⟨⟨h, X, G⟩, c⟩ := E
  exact glo_ok X G (c.d.fact 36 (f := .glo "_law_any_word") rfl)
theorem g__law_odd (E : Ctx K mg) : mg "_law_odd" = some (.ref (ga K "_law_odd")) := by
  obtain ⟨⟨h, X, G⟩, c⟩ := E
  exact glo_ok X G (c.d.fact 37 (f := .glo "_law_odd") rfl)
theorem g__law_unique (E : Ctx K mg) : mg "_law_unique" = some (.ref (ga K "_law_unique")) := by
  obtain ⟨⟨h, X, G⟩, c⟩ := E
  exact glo_ok X G (c.d.fact 38 (f := .glo "_law_unique") rfl)
theorem g__law_listed (E : Ctx K mg) : mg "_law_listed" = some (.ref (ga K "_law_listed")) := by
  obtain ⟨⟨h, X, G⟩, c⟩ := E
  exact glo_ok X G (c.d.fact 39 (f := .glo "_law_listed") rfl)
theorem g__law_at (E : Ctx K mg) : mg "_law_at" = some (.ref (ga K "_law_at")) := by
  obtain ⟨⟨h, X, G⟩, c⟩ := E
  exact glo_ok X G (c.d.fact 40 (f := .glo "_law_at") rfl)
theorem g__law_number (E : Ctx K mg) : mg "_law_number" = some (.ref (ga K "_law_number")) := by
  obtain ⟨⟨h, X, G⟩, c⟩ := E
  exact glo_ok X G (c.d.fact 41 (f := .glo "_law_number") rfl)
theorem g__law_holds (E : Ctx K mg) : mg "_law_holds" = some (.ref (ga K "_law_holds")) := by
  obtain ⟨⟨h, X, G⟩, c⟩ := E
  exact glo_ok X G (c.d.fact 42 (f := .glo "_law_holds") rfl)
theorem g__law_picked (E : Ctx K mg) : mg "_law_picked" = some (.ref (ga K "_law_picked")) := by
  obtain ⟨⟨h, X, G⟩, c⟩ := E
  exact glo_ok X G (c.d.fact 43 (f := .glo "_law_picked") rfl)
theorem g__law_list_right (E : Ctx K mg) : mg "_law_list_right" = some (.ref (ga K "_law_list_right")) := by
  obtain ⟨⟨h, X, G⟩, c⟩ := E
  exact glo_ok X G (c.d.fact 44 (f := .glo "_law_list_right") rfl)
theorem g_law (E : Ctx K mg) : mg "law" = some (.ref (ga K "law")) := by
  obtain ⟨⟨h, X, G⟩, c⟩ := E
  exact glo_ok X G (c.d.fact 45 (f := .glo "law") rfl)
theorem g_WordError (E : Ctx K mg) : mg "WordError" = some (.ref (ga K "WordError")) := by
  obtain ⟨⟨h, X, G⟩, c⟩ := E
  exact glo_ok X G (c.d.fact 46 (f := .glo "WordError") rfl)
theorem g_BadLetters (E : Ctx K mg) : mg "BadLetters" = some (.ref (ga K "BadLetters")) := by
  obtain ⟨⟨h, X, G⟩, c⟩ := E
  exact glo_ok X G (c.d.fact 47 (f := .glo "BadLetters") rfl)
theorem g_BadNumber (E : Ctx K mg) : mg "BadNumber" = some (.ref (ga K "BadNumber")) := by
  obtain ⟨⟨h, X, G⟩, c⟩ := E
  exact glo_ok X G (c.d.fact 48 (f := .glo "BadNumber") rfl)
theorem g_BadHeap (E : Ctx K mg) : mg "BadHeap" = some (.ref (ga K "BadHeap")) := by
  obtain ⟨⟨h, X, G⟩, c⟩ := E
  exact glo_ok X G (c.d.fact 49 (f := .glo "BadHeap") rfl)
theorem g_BadWord (E : Ctx K mg) : mg "BadWord" = some (.ref (ga K "BadWord")) := by
  obtain ⟨⟨h, X, G⟩, c⟩ := E
  exact glo_ok X G (c.d.fact 50 (f := .glo "BadWord") rfl)
theorem g_BadChoice (E : Ctx K mg) : mg "BadChoice" = some (.ref (ga K "BadChoice")) := by
  obtain ⟨⟨h, X, G⟩, c⟩ := E
  exact glo_ok X G (c.d.fact 51 (f := .glo "BadChoice") rfl)
theorem g_TooMany (E : Ctx K mg) : mg "TooMany" = some (.ref (ga K "TooMany")) := by
  obtain ⟨⟨h, X, G⟩, c⟩ := E
  exact glo_ok X G (c.d.fact 52 (f := .glo "TooMany") rfl)
theorem g_NotInCode (E : Ctx K mg) : mg "NotInCode" = some (.ref (ga K "NotInCode")) := by
  obtain ⟨⟨h, X, G⟩, c⟩ := E
  exact glo_ok X G (c.d.fact 53 (f := .glo "NotInCode") rfl)
theorem g_Choice (E : Ctx K mg) : mg "Choice" = some (.ref (ga K "Choice")) := by
  obtain ⟨⟨h, X, G⟩, c⟩ := E
  exact glo_ok X G (c.d.fact 54 (f := .glo "Choice") rfl)
theorem k_MOST_LETTERS (E : Ctx K mg) : ∃ t, mg "MOST_LETTERS" = some (.int 5 t) := by
  obtain ⟨⟨h, X, G⟩, c⟩ := E
  exact int_ok X G (c.d.fact 55 (f := .int "MOST_LETTERS" 5) rfl)
theorem g_WITHOUT_LETTER (E : Ctx K mg) : mg "WITHOUT_LETTER" = some (.ref (ga K "WITHOUT_LETTER")) := by
  obtain ⟨⟨h, X, G⟩, c⟩ := E
  exact glo_ok X G (c.d.fact 56 (f := .glo "WITHOUT_LETTER") rfl)
theorem k_MOST_LISTED_SIZE (E : Ctx K mg) : ∃ t, mg "MOST_LISTED_SIZE" = some (.int 12 t) := by
  obtain ⟨⟨h, X, G⟩, c⟩ := E
  exact int_ok X G (c.d.fact 57 (f := .int "MOST_LISTED_SIZE" 12) rfl)
theorem b_ValueError (E : Ctx K mg) : mg "ValueError" = none := by
  obtain ⟨⟨h, X, G⟩, c⟩ := E
  exact free_ok X G (c.d.fact 58 (f := .free "ValueError") rfl)
theorem b_abs (E : Ctx K mg) : mg "abs" = none := by
  obtain ⟨⟨h, X, G⟩, c⟩ := E
  exact free_ok X G (c.d.fact 59 (f := .free "abs") rfl)
theorem b_any (E : Ctx K mg) : mg "any" = none := by
  obtain ⟨⟨h, X, G⟩, c⟩ := E
  exact free_ok X G (c.d.fact 60 (f := .free "any") rfl)
theorem b_bool (E : Ctx K mg) : mg "bool" = none := by
  obtain ⟨⟨h, X, G⟩, c⟩ := E
  exact free_ok X G (c.d.fact 61 (f := .free "bool") rfl)
theorem b_enumerate (E : Ctx K mg) : mg "enumerate" = none := by
  obtain ⟨⟨h, X, G⟩, c⟩ := E
  exact free_ok X G (c.d.fact 62 (f := .free "enumerate") rfl)
theorem b_int (E : Ctx K mg) : mg "int" = none := by
  obtain ⟨⟨h, X, G⟩, c⟩ := E
  exact free_ok X G (c.d.fact 63 (f := .free "int") rfl)
theorem b_isinstance (E : Ctx K mg) : mg "isinstance" = none := by
  obtain ⟨⟨h, X, G⟩, c⟩ := E
  exact free_ok X G (c.d.fact 64 (f := .free "isinstance") rfl)
theorem b_iter (E : Ctx K mg) : mg "iter" = none := by
  obtain ⟨⟨h, X, G⟩, c⟩ := E
  exact free_ok X G (c.d.fact 65 (f := .free "iter") rfl)
theorem b_len (E : Ctx K mg) : mg "len" = none := by
  obtain ⟨⟨h, X, G⟩, c⟩ := E
  exact free_ok X G (c.d.fact 66 (f := .free "len") rfl)
theorem b_list (E : Ctx K mg) : mg "list" = none := by
  obtain ⟨⟨h, X, G⟩, c⟩ := E
  exact free_ok X G (c.d.fact 67 (f := .free "list") rfl)
theorem b_property (E : Ctx K mg) : mg "property" = none := by
  obtain ⟨⟨h, X, G⟩, c⟩ := E
  exact free_ok X G (c.d.fact 68 (f := .free "property") rfl)
theorem b_range (E : Ctx K mg) : mg "range" = none := by
  obtain ⟨⟨h, X, G⟩, c⟩ := E
  exact free_ok X G (c.d.fact 69 (f := .free "range") rfl)
theorem b_set (E : Ctx K mg) : mg "set" = none := by
  obtain ⟨⟨h, X, G⟩, c⟩ := E
  exact free_ok X G (c.d.fact 70 (f := .free "set") rfl)
theorem b_sorted (E : Ctx K mg) : mg "sorted" = none := by
  obtain ⟨⟨h, X, G⟩, c⟩ := E
  exact free_ok X G (c.d.fact 71 (f := .free "sorted") rfl)
theorem b_sum (E : Ctx K mg) : mg "sum" = none := by
  obtain ⟨⟨h, X, G⟩, c⟩ := E
  exact free_ok X G (c.d.fact 72 (f := .free "sum") rfl)
theorem b_tuple (E : Ctx K mg) : mg "tuple" = none := by
  obtain ⟨⟨h, X, G⟩, c⟩ := E
  exact free_ok X G (c.d.fact 73 (f := .free "tuple") rfl)
theorem x0_WordError (E : Ctx K mg) : Ex0 K mg "WordError" := ⟨g_WordError E, E.c.d.fact 81 (f := .exc "WordError") rfl⟩
theorem x0_BadLetters (E : Ctx K mg) : Ex0 K mg "BadLetters" := ⟨g_BadLetters E, E.c.d.fact 82 (f := .exc "BadLetters") rfl⟩
theorem m_BadLetters_BadHeap (E : Ctx K mg) : PySem.W.exmOne K (.ref (ga K "BadLetters")) (.ref (ga K "BadHeap")) = some false := of_decide_eq_true (E.c.d.fact 83 (f := .exm "BadLetters" "BadHeap" false) rfl)
theorem m_BadLetters_BadNumber (E : Ctx K mg) : PySem.W.exmOne K (.ref (ga K "BadLetters")) (.ref (ga K "BadNumber")) = some false := of_decide_eq_true (E.c.d.fact 84 (f := .exm "BadLetters" "BadNumber" false) rfl)
theorem m_BadLetters_BadWord (E : Ctx K mg) : PySem.W.exmOne K (.ref (ga K "BadLetters")) (.ref (ga K "BadWord")) = some false := of_decide_eq_true (E.c.d.fact 85 (f := .exm "BadLetters" "BadWord" false) rfl)
theorem m_BadLetters_NotInCode (E : Ctx K mg) : PySem.W.exmOne K (.ref (ga K "BadLetters")) (.ref (ga K "NotInCode")) = some false := of_decide_eq_true (E.c.d.fact 86 (f := .exm "BadLetters" "NotInCode" false) rfl)
theorem m_BadLetters_TooMany (E : Ctx K mg) : PySem.W.exmOne K (.ref (ga K "BadLetters")) (.ref (ga K "TooMany")) = some false := of_decide_eq_true (E.c.d.fact 87 (f := .exm "BadLetters" "TooMany" false) rfl)
theorem m_BadNumber_BadHeap (E : Ctx K mg) : PySem.W.exmOne K (.ref (ga K "BadNumber")) (.ref (ga K "BadHeap")) = some false := of_decide_eq_true (E.c.d.fact 88 (f := .exm "BadNumber" "BadHeap" false) rfl)
theorem m_BadNumber_BadNumber (E : Ctx K mg) : PySem.W.exmOne K (.ref (ga K "BadNumber")) (.ref (ga K "BadNumber")) = some true := of_decide_eq_true (E.c.d.fact 89 (f := .exm "BadNumber" "BadNumber" true) rfl)
theorem m_BadNumber_BadWord (E : Ctx K mg) : PySem.W.exmOne K (.ref (ga K "BadNumber")) (.ref (ga K "BadWord")) = some false := of_decide_eq_true (E.c.d.fact 90 (f := .exm "BadNumber" "BadWord" false) rfl)
theorem m_BadNumber_NotInCode (E : Ctx K mg) : PySem.W.exmOne K (.ref (ga K "BadNumber")) (.ref (ga K "NotInCode")) = some false := of_decide_eq_true (E.c.d.fact 91 (f := .exm "BadNumber" "NotInCode" false) rfl)
theorem m_BadNumber_TooMany (E : Ctx K mg) : PySem.W.exmOne K (.ref (ga K "BadNumber")) (.ref (ga K "TooMany")) = some false := of_decide_eq_true (E.c.d.fact 92 (f := .exm "BadNumber" "TooMany" false) rfl)
theorem m_BadHeap_BadHeap (E : Ctx K mg) : PySem.W.exmOne K (.ref (ga K "BadHeap")) (.ref (ga K "BadHeap")) = some true := of_decide_eq_true (E.c.d.fact 93 (f := .exm "BadHeap" "BadHeap" true) rfl)
theorem m_BadHeap_BadNumber (E : Ctx K mg) : PySem.W.exmOne K (.ref (ga K "BadHeap")) (.ref (ga K "BadNumber")) = some false := of_decide_eq_true (E.c.d.fact 94 (f := .exm "BadHeap" "BadNumber" false) rfl)
theorem m_BadHeap_BadWord (E : Ctx K mg) : PySem.W.exmOne K (.ref (ga K "BadHeap")) (.ref (ga K "BadWord")) = some false := of_decide_eq_true (E.c.d.fact 95 (f := .exm "BadHeap" "BadWord" false) rfl)
theorem m_BadHeap_NotInCode (E : Ctx K mg) : PySem.W.exmOne K (.ref (ga K "BadHeap")) (.ref (ga K "NotInCode")) = some false := of_decide_eq_true (E.c.d.fact 96 (f := .exm "BadHeap" "NotInCode" false) rfl)
theorem m_BadHeap_TooMany (E : Ctx K mg) : PySem.W.exmOne K (.ref (ga K "BadHeap")) (.ref (ga K "TooMany")) = some false := of_decide_eq_true (E.c.d.fact 97 (f := .exm "BadHeap" "TooMany" false) rfl)
theorem m_BadWord_BadHeap (E : Ctx K mg) : PySem.W.exmOne K (.ref (ga K "BadWord")) (.ref (ga K "BadHeap")) = some false := of_decide_eq_true (E.c.d.fact 98 (f := .exm "BadWord" "BadHeap" false) rfl)
theorem m_BadWord_BadNumber (E : Ctx K mg) : PySem.W.exmOne K (.ref (ga K "BadWord")) (.ref (ga K "BadNumber")) = some false := of_decide_eq_true (E.c.d.fact 99 (f := .exm "BadWord" "BadNumber" false) rfl)
theorem m_BadWord_BadWord (E : Ctx K mg) : PySem.W.exmOne K (.ref (ga K "BadWord")) (.ref (ga K "BadWord")) = some true := of_decide_eq_true (E.c.d.fact 100 (f := .exm "BadWord" "BadWord" true) rfl)
theorem m_BadWord_NotInCode (E : Ctx K mg) : PySem.W.exmOne K (.ref (ga K "BadWord")) (.ref (ga K "NotInCode")) = some false := of_decide_eq_true (E.c.d.fact 101 (f := .exm "BadWord" "NotInCode" false) rfl)
theorem m_BadWord_TooMany (E : Ctx K mg) : PySem.W.exmOne K (.ref (ga K "BadWord")) (.ref (ga K "TooMany")) = some false := of_decide_eq_true (E.c.d.fact 102 (f := .exm "BadWord" "TooMany" false) rfl)
theorem m_BadChoice_BadHeap (E : Ctx K mg) : PySem.W.exmOne K (.ref (ga K "BadChoice")) (.ref (ga K "BadHeap")) = some false := of_decide_eq_true (E.c.d.fact 103 (f := .exm "BadChoice" "BadHeap" false) rfl)
theorem m_BadChoice_BadNumber (E : Ctx K mg) : PySem.W.exmOne K (.ref (ga K "BadChoice")) (.ref (ga K "BadNumber")) = some false := of_decide_eq_true (E.c.d.fact 104 (f := .exm "BadChoice" "BadNumber" false) rfl)
theorem m_BadChoice_BadWord (E : Ctx K mg) : PySem.W.exmOne K (.ref (ga K "BadChoice")) (.ref (ga K "BadWord")) = some false := of_decide_eq_true (E.c.d.fact 105 (f := .exm "BadChoice" "BadWord" false) rfl)
theorem m_BadChoice_NotInCode (E : Ctx K mg) : PySem.W.exmOne K (.ref (ga K "BadChoice")) (.ref (ga K "NotInCode")) = some false := of_decide_eq_true (E.c.d.fact 106 (f := .exm "BadChoice" "NotInCode" false) rfl)
theorem m_BadChoice_TooMany (E : Ctx K mg) : PySem.W.exmOne K (.ref (ga K "BadChoice")) (.ref (ga K "TooMany")) = some false := of_decide_eq_true (E.c.d.fact 107 (f := .exm "BadChoice" "TooMany" false) rfl)
theorem m_TooMany_BadHeap (E : Ctx K mg) : PySem.W.exmOne K (.ref (ga K "TooMany")) (.ref (ga K "BadHeap")) = some false := of_decide_eq_true (E.c.d.fact 108 (f := .exm "TooMany" "BadHeap" false) rfl)
theorem m_TooMany_BadNumber (E : Ctx K mg) : PySem.W.exmOne K (.ref (ga K "TooMany")) (.ref (ga K "BadNumber")) = some false := of_decide_eq_true (E.c.d.fact 109 (f := .exm "TooMany" "BadNumber" false) rfl)
theorem m_TooMany_BadWord (E : Ctx K mg) : PySem.W.exmOne K (.ref (ga K "TooMany")) (.ref (ga K "BadWord")) = some false := of_decide_eq_true (E.c.d.fact 110 (f := .exm "TooMany" "BadWord" false) rfl)
theorem m_TooMany_NotInCode (E : Ctx K mg) : PySem.W.exmOne K (.ref (ga K "TooMany")) (.ref (ga K "NotInCode")) = some false := of_decide_eq_true (E.c.d.fact 111 (f := .exm "TooMany" "NotInCode" false) rfl)
theorem m_TooMany_TooMany (E : Ctx K mg) : PySem.W.exmOne K (.ref (ga K "TooMany")) (.ref (ga K "TooMany")) = some true := of_decide_eq_true (E.c.d.fact 112 (f := .exm "TooMany" "TooMany" true) rfl)
theorem m_NotInCode_BadHeap (E : Ctx K mg) : PySem.W.exmOne K (.ref (ga K "NotInCode")) (.ref (ga K "BadHeap")) = some false := of_decide_eq_true (E.c.d.fact 113 (f := .exm "NotInCode" "BadHeap" false) rfl)
theorem m_NotInCode_BadNumber (E : Ctx K mg) : PySem.W.exmOne K (.ref (ga K "NotInCode")) (.ref (ga K "BadNumber")) = some false := of_decide_eq_true (E.c.d.fact 114 (f := .exm "NotInCode" "BadNumber" false) rfl)
theorem m_NotInCode_BadWord (E : Ctx K mg) : PySem.W.exmOne K (.ref (ga K "NotInCode")) (.ref (ga K "BadWord")) = some false := of_decide_eq_true (E.c.d.fact 115 (f := .exm "NotInCode" "BadWord" false) rfl)
theorem m_NotInCode_NotInCode (E : Ctx K mg) : PySem.W.exmOne K (.ref (ga K "NotInCode")) (.ref (ga K "NotInCode")) = some true := of_decide_eq_true (E.c.d.fact 116 (f := .exm "NotInCode" "NotInCode" true) rfl)
theorem m_NotInCode_TooMany (E : Ctx K mg) : PySem.W.exmOne K (.ref (ga K "NotInCode")) (.ref (ga K "TooMany")) = some false := of_decide_eq_true (E.c.d.fact 117 (f := .exm "NotInCode" "TooMany" false) rfl)
theorem f__wall (E : Ctx K mg) : ∃ fd, FunD K "_wall" "_wall" (defArgs s__wall) (defBody s__wall) (defScope s__wall) [] [] (ga K "_wall") fd := E.c.d.def_ 0 (d := d__wall) rfl
theorem f_is_whole (E : Ctx K mg) : ∃ fd, FunD K "is_whole" "is_whole" (defArgs s_is_whole) (defBody s_is_whole) (defScope s_is_whole) [] [] (ga K "is_whole") fd := E.c.d.def_ 1 (d := d_is_whole) rfl
theorem f_check_letters (E : Ctx K mg) : ∃ fd, FunD K "check_letters" "check_letters" (defArgs s_check_letters) (defBody s_check_letters) (defScope s_check_letters) [] [] (ga K "check_letters") fd := E.c.d.def_ 2 (d := d_check_letters) rfl
theorem f_check_number (E : Ctx K mg) : ∃ fd, FunD K "check_number" "check_number" (defArgs s_check_number) (defBody s_check_number) (defScope s_check_number) [] [] (ga K "check_number") fd := E.c.d.def_ 3 (d := d_check_number) rfl
theorem f_check_heaps (E : Ctx K mg) : ∃ fd, FunD K "check_heaps" "check_heaps" (defArgs s_check_heaps) (defBody s_check_heaps) (defScope s_check_heaps) [] [] (ga K "check_heaps") fd := E.c.d.def_ 4 (d := d_check_heaps) rfl
theorem f__first_bad (E : Ctx K mg) : ∃ fd, FunD K "_first_bad" "_first_bad" (defArgs s__first_bad) (defBody s__first_bad) (defScope s__first_bad) [] [] (ga K "_first_bad") fd := E.c.d.def_ 5 (d := d__first_bad) rfl
theorem f_all_letters (E : Ctx K mg) : ∃ fd, FunD K "all_letters" "all_letters" (defArgs s_all_letters) (defBody s_all_letters) (defScope s_all_letters) [] [] (ga K "all_letters") fd := E.c.d.def_ 6 (d := d_all_letters) rfl
theorem f_all_heaps (E : Ctx K mg) : ∃ fd, FunD K "all_heaps" "all_heaps" (defArgs s_all_heaps) (defBody s_all_heaps) (defScope s_all_heaps) [] [] (ga K "all_heaps") fd := E.c.d.def_ 7 (d := d_all_heaps) rfl
theorem f_check_word (E : Ctx K mg) : ∃ fd, FunD K "check_word" "check_word" (defArgs s_check_word) (defBody s_check_word) (defScope s_check_word) [] [] (ga K "check_word") fd := E.c.d.def_ 8 (d := d_check_word) rfl
theorem f_full_word (E : Ctx K mg) : ∃ fd, FunD K "full_word" "full_word" (defArgs s_full_word) (defBody s_full_word) (defScope s_full_word) [] [] (ga K "full_word") fd := E.c.d.def_ 9 (d := d_full_word) rfl
theorem f_word_of (E : Ctx K mg) : ∃ fd, FunD K "word_of" "word_of" (defArgs s_word_of) (defBody s_word_of) (defScope s_word_of) [] [] (ga K "word_of") fd := E.c.d.def_ 10 (d := d_word_of) rfl
theorem f_heaps_of (E : Ctx K mg) : ∃ fd, FunD K "heaps_of" "heaps_of" (defArgs s_heaps_of) (defBody s_heaps_of) (defScope s_heaps_of) [] [] (ga K "heaps_of") fd := E.c.d.def_ 11 (d := d_heaps_of) rfl
theorem f__stepped (E : Ctx K mg) : ∃ fd, FunD K "_stepped" "_stepped" (defArgs s__stepped) (defBody s__stepped) (defScope s__stepped) [] [] (ga K "_stepped") fd := E.c.d.def_ 12 (d := d__stepped) rfl
theorem f__marks (E : Ctx K mg) : ∃ fd, FunD K "_marks" "_marks" (defArgs s__marks) (defBody s__marks) (defScope s__marks) [] [] (ga K "_marks") fd := E.c.d.def_ 13 (d := d__marks) rfl
theorem f_places_of (E : Ctx K mg) : ∃ fd, FunD K "places_of" "places_of" (defArgs s_places_of) (defBody s_places_of) (defScope s_places_of) [] [] (ga K "places_of") fd := E.c.d.def_ 14 (d := d_places_of) rfl
theorem f_holds (E : Ctx K mg) : ∃ fd, FunD K "holds" "holds" (defArgs s_holds) (defBody s_holds) (defScope s_holds) [] [] (ga K "holds") fd := E.c.d.def_ 15 (d := d_holds) rfl
theorem f_heap_missing (E : Ctx K mg) : ∃ fd, FunD K "heap_missing" "heap_missing" (defArgs s_heap_missing) (defBody s_heap_missing) (defScope s_heap_missing) [] [] (ga K "heap_missing") fd := E.c.d.def_ 16 (d := d_heap_missing) rfl
theorem f_check_in_code (E : Ctx K mg) : ∃ fd, FunD K "check_in_code" "check_in_code" (defArgs s_check_in_code) (defBody s_check_in_code) (defScope s_check_in_code) [] [] (ga K "check_in_code") fd := E.c.d.def_ 17 (d := d_check_in_code) rfl
theorem f_word_at (E : Ctx K mg) : ∃ fd, FunD K "word_at" "word_at" (defArgs s_word_at) (defBody s_word_at) (defScope s_word_at) [] [] (ga K "word_at") fd := E.c.d.def_ 18 (d := d_word_at) rfl
theorem f_number_of (E : Ctx K mg) : ∃ fd, FunD K "number_of" "number_of" (defArgs s_number_of) (defBody s_number_of) (defScope s_number_of) [] [] (ga K "number_of") fd := E.c.d.def_ 19 (d := d_number_of) rfl
theorem f_all_words (E : Ctx K mg) : ∃ fd, FunD K "all_words" "all_words" (defArgs s_all_words) (defBody s_all_words) (defScope s_all_words) [] [] (ga K "all_words") fd := E.c.d.def_ 20 (d := d_all_words) rfl
theorem f__law_mix (E : Ctx K mg) : ∃ fd, FunD K "_law_mix" "_law_mix" (defArgs s__law_mix) (defBody s__law_mix) (defScope s__law_mix) [] [] (ga K "_law_mix") fd := E.c.d.def_ 21 (d := d__law_mix) rfl
theorem f__law_hand (E : Ctx K mg) : ∃ fd, FunD K "_law_hand" "_law_hand" (defArgs s__law_hand) (defBody s__law_hand) (defScope s__law_hand) [] [] (ga K "_law_hand") fd := E.c.d.def_ 22 (d := d__law_hand) rfl
theorem f__law_draw (E : Ctx K mg) : ∃ fd, FunD K "_law_draw" "_law_draw" (defArgs s__law_draw) (defBody s__law_draw) (defScope s__law_draw) [] [] (ga K "_law_draw") fd := E.c.d.def_ 23 (d := d__law_draw) rfl
theorem f__law_wide (E : Ctx K mg) : ∃ fd, FunD K "_law_wide" "_law_wide" (defArgs s__law_wide) (defBody s__law_wide) (defScope s__law_wide) [] [] (ga K "_law_wide") fd := E.c.d.def_ 24 (d := d__law_wide) rfl
theorem f__law_letters (E : Ctx K mg) : ∃ fd, FunD K "_law_letters" "_law_letters" (defArgs s__law_letters) (defBody s__law_letters) (defScope s__law_letters) [] [] (ga K "_law_letters") fd := E.c.d.def_ 25 (d := d__law_letters) rfl
theorem f__law_ones (E : Ctx K mg) : ∃ fd, FunD K "_law_ones" "_law_ones" (defArgs s__law_ones) (defBody s__law_ones) (defScope s__law_ones) [] [] (ga K "_law_ones") fd := E.c.d.def_ 26 (d := d__law_ones) rfl
theorem f__law_heap_word (E : Ctx K mg) : ∃ fd, FunD K "_law_heap_word" "_law_heap_word" (defArgs s__law_heap_word) (defBody s__law_heap_word) (defScope s__law_heap_word) [] [] (ga K "_law_heap_word") fd := E.c.d.def_ 27 (d := d__law_heap_word) rfl
theorem f__law_sum (E : Ctx K mg) : ∃ fd, FunD K "_law_sum" "_law_sum" (defArgs s__law_sum) (defBody s__law_sum) (defScope s__law_sum) [] [] (ga K "_law_sum") fd := E.c.d.def_ 28 (d := d__law_sum) rfl
theorem f__law_heaps_of (E : Ctx K mg) : ∃ fd, FunD K "_law_heaps_of" "_law_heaps_of" (defArgs s__law_heaps_of) (defBody s__law_heaps_of) (defScope s__law_heaps_of) [] [] (ga K "_law_heaps_of") fd := E.c.d.def_ 29 (d := d__law_heaps_of) rfl
theorem f__law_is_below (E : Ctx K mg) : ∃ fd, FunD K "_law_is_below" "_law_is_below" (defArgs s__law_is_below) (defBody s__law_is_below) (defScope s__law_is_below) [] [] (ga K "_law_is_below") fd := E.c.d.def_ 30 (d := d__law_is_below) rfl
theorem f__law_falling (E : Ctx K mg) : ∃ fd, FunD K "_law_falling" "_law_falling" (defArgs s__law_falling) (defBody s__law_falling) (defScope s__law_falling) [] [] (ga K "_law_falling") fd := E.c.d.def_ 31 (d := d__law_falling) rfl
theorem f__law_closed (E : Ctx K mg) : ∃ fd, FunD K "_law_closed" "_law_closed" (defArgs s__law_closed) (defBody s__law_closed) (defScope s__law_closed) [] [] (ga K "_law_closed") fd := E.c.d.def_ 32 (d := d__law_closed) rfl
theorem f__law_seeds (E : Ctx K mg) : ∃ fd, FunD K "_law_seeds" "_law_seeds" (defArgs s__law_seeds) (defBody s__law_seeds) (defScope s__law_seeds) [] [] (ga K "_law_seeds") fd := E.c.d.def_ 33 (d := d__law_seeds) rfl
theorem f__law_choice (E : Ctx K mg) : ∃ fd, FunD K "_law_choice" "_law_choice" (defArgs s__law_choice) (defBody s__law_choice) (defScope s__law_choice) [] [] (ga K "_law_choice") fd := E.c.d.def_ 34 (d := d__law_choice) rfl
theorem f__law_small_falling (E : Ctx K mg) : ∃ fd, FunD K "_law_small_falling" "_law_small_falling" (defArgs s__law_small_falling) (defBody s__law_small_falling) (defScope s__law_small_falling) [] [] (ga K "_law_small_falling") fd := E.c.d.def_ 35 (d := d__law_small_falling) rfl
theorem f__law_any_word (E : Ctx K mg) : ∃ fd, FunD K "_law_any_word" "_law_any_word" (defArgs s__law_any_word) (defBody s__law_any_word) (defScope s__law_any_word) [] [] (ga K "_law_any_word") fd := E.c.d.def_ 36 (d := d__law_any_word) rfl
theorem f__law_odd (E : Ctx K mg) : ∃ fd, FunD K "_law_odd" "_law_odd" (defArgs s__law_odd) (defBody s__law_odd) (defScope s__law_odd) [] [] (ga K "_law_odd") fd := E.c.d.def_ 37 (d := d__law_odd) rfl
theorem f__law_unique (E : Ctx K mg) : ∃ fd, FunD K "_law_unique" "_law_unique" (defArgs s__law_unique) (defBody s__law_unique) (defScope s__law_unique) [] [] (ga K "_law_unique") fd := E.c.d.def_ 38 (d := d__law_unique) rfl
theorem f__law_listed (E : Ctx K mg) : ∃ fd, FunD K "_law_listed" "_law_listed" (defArgs s__law_listed) (defBody s__law_listed) (defScope s__law_listed) [] [] (ga K "_law_listed") fd := E.c.d.def_ 39 (d := d__law_listed) rfl
theorem f__law_at (E : Ctx K mg) : ∃ fd, FunD K "_law_at" "_law_at" (defArgs s__law_at) (defBody s__law_at) (defScope s__law_at) [] [] (ga K "_law_at") fd := E.c.d.def_ 40 (d := d__law_at) rfl
theorem f__law_number (E : Ctx K mg) : ∃ fd, FunD K "_law_number" "_law_number" (defArgs s__law_number) (defBody s__law_number) (defScope s__law_number) [] [] (ga K "_law_number") fd := E.c.d.def_ 41 (d := d__law_number) rfl
theorem f__law_holds (E : Ctx K mg) : ∃ fd, FunD K "_law_holds" "_law_holds" (defArgs s__law_holds) (defBody s__law_holds) (defScope s__law_holds) [] [] (ga K "_law_holds") fd := E.c.d.def_ 42 (d := d__law_holds) rfl
theorem f__law_picked (E : Ctx K mg) : ∃ fd, FunD K "_law_picked" "_law_picked" (defArgs s__law_picked) (defBody s__law_picked) (defScope s__law_picked) [] [] (ga K "_law_picked") fd := E.c.d.def_ 43 (d := d__law_picked) rfl
theorem f__law_list_right (E : Ctx K mg) : ∃ fd, FunD K "_law_list_right" "_law_list_right" (defArgs s__law_list_right) (defBody s__law_list_right) (defScope s__law_list_right) [] [] (ga K "_law_list_right") fd := E.c.d.def_ 44 (d := d__law_list_right) rfl
theorem f_law (E : Ctx K mg) : ∃ fd, FunD K "law" "law" (defArgs s_law) (defBody s_law) (defScope s_law) [] [] (ga K "law") fd := E.c.d.def_ 45 (d := d_law) rfl
theorem f_BadNumber___init__ (E : Ctx K mg) : ∃ fd, FunD K "__init__" "BadNumber.__init__" (defArgs s_BadNumber___init__) (defBody s_BadNumber___init__) (defScope s_BadNumber___init__) [] [] (ma K (ga K "BadNumber") "__init__") fd := E.c.d.def_ 46 (d := d_BadNumber___init__) rfl
theorem f_BadHeap___init__ (E : Ctx K mg) : ∃ fd, FunD K "__init__" "BadHeap.__init__" (defArgs s_BadHeap___init__) (defBody s_BadHeap___init__) (defScope s_BadHeap___init__) [] [] (ma K (ga K "BadHeap") "__init__") fd := E.c.d.def_ 47 (d := d_BadHeap___init__) rfl
theorem f_BadWord___init__ (E : Ctx K mg) : ∃ fd, FunD K "__init__" "BadWord.__init__" (defArgs s_BadWord___init__) (defBody s_BadWord___init__) (defScope s_BadWord___init__) [] [] (ma K (ga K "BadWord") "__init__") fd := E.c.d.def_ 48 (d := d_BadWord___init__) rfl
theorem f_BadChoice___init__ (E : Ctx K mg) : ∃ fd, FunD K "__init__" "BadChoice.__init__" (defArgs s_BadChoice___init__) (defBody s_BadChoice___init__) (defScope s_BadChoice___init__) [] [] (ma K (ga K "BadChoice") "__init__") fd := E.c.d.def_ 49 (d := d_BadChoice___init__) rfl
theorem f_TooMany___init__ (E : Ctx K mg) : ∃ fd, FunD K "__init__" "TooMany.__init__" (defArgs s_TooMany___init__) (defBody s_TooMany___init__) (defScope s_TooMany___init__) [] [] (ma K (ga K "TooMany") "__init__") fd := E.c.d.def_ 50 (d := d_TooMany___init__) rfl
theorem f_NotInCode___init__ (E : Ctx K mg) : ∃ fd, FunD K "__init__" "NotInCode.__init__" (defArgs s_NotInCode___init__) (defBody s_NotInCode___init__) (defScope s_NotInCode___init__) [] [] (ma K (ga K "NotInCode") "__init__") fd := E.c.d.def_ 51 (d := d_NotInCode___init__) rfl
theorem f_Choice___init__ (E : Ctx K mg) : ∃ fd, FunD K "__init__" "Choice.__init__" (defArgs s_Choice___init__) (defBody s_Choice___init__) (defScope s_Choice___init__) [] [] (ma K (ga K "Choice") "__init__") fd := E.c.d.def_ 52 (d := d_Choice___init__) rfl
theorem f_Choice___contains__ (E : Ctx K mg) : ∃ fd, FunD K "__contains__" "Choice.__contains__" (defArgs s_Choice___contains__) (defBody s_Choice___contains__) (defScope s_Choice___contains__) [] [] (ma K (ga K "Choice") "__contains__") fd := E.c.d.def_ 53 (d := d_Choice___contains__) rfl
theorem f_Choice___iter__ (E : Ctx K mg) : ∃ fd, FunD K "__iter__" "Choice.__iter__" (defArgs s_Choice___iter__) (defBody s_Choice___iter__) (defScope s_Choice___iter__) [] [] (ma K (ga K "Choice") "__iter__") fd := E.c.d.def_ 54 (d := d_Choice___iter__) rfl
theorem f_Choice___eq__ (E : Ctx K mg) : ∃ fd, FunD K "__eq__" "Choice.__eq__" (defArgs s_Choice___eq__) (defBody s_Choice___eq__) (defScope s_Choice___eq__) [] [] (ma K (ga K "Choice") "__eq__") fd := E.c.d.def_ 55 (d := d_Choice___eq__) rfl
theorem pf_Choice_size (E : Ctx K mg) : ∃ fd, FunD K "size" "Choice.size" (defArgs s_Choice_size) (defBody s_Choice_size) (defScope s_Choice_size) [] [] (pg K (ga K "Choice") "size") fd ∧ PropOf K (ga K "Choice") "size" (ma K (ga K "Choice") "size") (pg K (ga K "Choice") "size") := E.c.prop 0 (d := p_Choice_size) rfl
theorem w_ins_Choice (E : Ctx K mg) : insB "Choice" K = true := (ba E.c.x).1
theorem c_Choice (E : Ctx K mg) : Cls K (ga K "Choice") := cls_ok (E.c.d.fact 74 (f := .cls "Choice") rfl)
theorem mkr_Choice (E : Ctx K mg) : Mk K (ga K "Choice") (ma K (ga K "Choice") "__init__") := mkr_ok (E.c.d.fact 75 (f := .mkr "Choice") rfl)
theorem me_Choice___contains__ (E : Ctx K mg) : Meth K (ga K "Choice") "__contains__" (ma K (ga K "Choice") "__contains__") := meth_ok (E.c.d.fact 76 (f := .meth "Choice" "__contains__") rfl)
theorem me_Choice___iter__ (E : Ctx K mg) : Meth K (ga K "Choice") "__iter__" (ma K (ga K "Choice") "__iter__") := meth_ok (E.c.d.fact 77 (f := .meth "Choice" "__iter__") rfl)
theorem me_Choice___eq__ (E : Ctx K mg) : Meth K (ga K "Choice") "__eq__" (ma K (ga K "Choice") "__eq__") := meth_ok (E.c.d.fact 78 (f := .meth "Choice" "__eq__") rfl)
theorem na_Choice_letters (E : Ctx K mg) : NoAttr K (ga K "Choice") "letters" := noat_ok (E.c.d.fact 79 (f := .noat "Choice" "letters") rfl)
theorem na_Choice_heaps (E : Ctx K mg) : NoAttr K (ga K "Choice") "heaps" := noat_ok (E.c.d.fact 80 (f := .noat "Choice" "heaps") rfl)
theorem t_WITHOUT_LETTER (E : Ctx K mg) (H : Hp) : SqT K H (ga K "WITHOUT_LETTER") (([1431655765, 858993459, 252645135, 16711935, 65535] : List Int).map V.int) := tupB_ok ((ba (ba (ba (ba (ba (ba (ba E.c.x).2).2).2).2).2).2).2) (by decide) H
theorem x_BadNumber (E : Ctx K mg) : ExcT K "BadNumber" ["most"] := excB_ok ((ba (ba E.c.x).2).1)
abbrev N_BadNumber___init__ : List Str := ["self", "most"]
theorem sc_BadNumber___init__ : FnScope N_BadNumber___init__ ["self", "most"] (defScope s_BadNumber___init__) := ⟨rfl, rfl, rfl, by decide +kernel, rfl, by decide +kernel, by decide +kernel⟩
theorem i_BadNumber (E : Ctx K mg) : ExI P w K mg base 1 "BadNumber" ["most"] ["self", "most"] (spIni1 K "BadNumber" "most") := by
  obtain ⟨fd, F⟩ := f_BadNumber___init__ E
  refine ⟨g_BadNumber E, x_BadNumber E, fd, ?_, F.bindsN fun _ _ _ _ _ _ us hl => match us, hl with | [_, _], _ => rfl⟩
  refine F.ok sc_BadNumber___init__ (fun vs H Q E h => ?_) (fun cdv A outer s H vs Q E' hr h => ⟨_, PSs.nox (pss_one (ps_ost (pv 0) (pv 1))), ?_⟩)
  · obtain ⟨a, v, rfl, _⟩ := h
    rfl
  · obtain ⟨a, v, rfl, ha, q⟩ := h
    exact ⟨_, rfl, _, rfl, a, ga K "BadNumber", rfl, (x_BadNumber E).o, (x_BadNumber E).n _ (by decide), .inl ⟨ha, fun d hd ne => q d hd ne⟩⟩
theorem x_BadHeap (E : Ctx K mg) : ExcT K "BadHeap" ["index"] := excB_ok ((ba (ba (ba E.c.x).2).2).1)
abbrev N_BadHeap___init__ : List Str := ["self", "index"]
theorem sc_BadHeap___init__ : FnScope N_BadHeap___init__ ["self", "index"] (defScope s_BadHeap___init__) := ⟨rfl, rfl, rfl, by decide +kernel, rfl, by decide +kernel, by decide +kernel⟩
theorem i_BadHeap (E : Ctx K mg) : ExI P w K mg base 1 "BadHeap" ["index"] ["self", "index"] (spIni1 K "BadHeap" "index") := by
  obtain ⟨fd, F⟩ := f_BadHeap___init__ E
  refine ⟨g_BadHeap E, x_BadHeap E, fd, ?_, F.bindsN fun _ _ _ _ _ _ us hl => match us, hl with | [_, _], _ => rfl⟩
  refine F.ok sc_BadHeap___init__ (fun vs H Q E h => ?_) (fun cdv A outer s H vs Q E' hr h => ⟨_, PSs.nox (pss_one (ps_ost (pv 0) (pv 1))), ?_⟩)
  · obtain ⟨a, v, rfl, _⟩ := h
    rfl
  · obtain ⟨a, v, rfl, ha, q⟩ := h
    exact ⟨_, rfl, _, rfl, a, ga K "BadHeap", rfl, (x_BadHeap E).o, (x_BadHeap E).n _ (by decide), .inl ⟨ha, fun d hd ne => q d hd ne⟩⟩
theorem x_BadWord (E : Ctx K mg) : ExcT K "BadWord" ["index"] := excB_ok ((ba (ba (ba (ba E.c.x).2).2).2).1)
abbrev N_BadWord___init__ : List Str := ["self", "index"]
theorem sc_BadWord___init__ : FnScope N_BadWord___init__ ["self", "index"] (defScope s_BadWord___init__) := ⟨rfl, rfl, rfl, by decide +kernel, rfl, by decide +kernel, by decide +kernel⟩
theorem i_BadWord (E : Ctx K mg) : ExI P w K mg base 1 "BadWord" ["index"] ["self", "index"] (spIni1 K "BadWord" "index") := by
  obtain ⟨fd, F⟩ := f_BadWord___init__ E
  refine ⟨g_BadWord E, x_BadWord E, fd, ?_, F.bindsN fun _ _ _ _ _ _ us hl => match us, hl with | [_, _], _ => rfl⟩
  refine F.ok sc_BadWord___init__ (fun vs H Q E h => ?_) (fun cdv A outer s H vs Q E' hr h => ⟨_, PSs.nox (pss_one (ps_ost (pv 0) (pv 1))), ?_⟩)
  · obtain ⟨a, v, rfl, _⟩ := h
    rfl
  · obtain ⟨a, v, rfl, ha, q⟩ := h
    exact ⟨_, rfl, _, rfl, a, ga K "BadWord", rfl, (x_BadWord E).o, (x_BadWord E).n _ (by decide), .inl ⟨ha, fun d hd ne => q d hd ne⟩⟩
theorem x_BadChoice (E : Ctx K mg) : ExcT K "BadChoice" ["index", "what"] := excB_ok ((ba (ba (ba (ba (ba E.c.x).2).2).2).2).1)
abbrev N_BadChoice___init__ : List Str := ["self", "index", "what"]
theorem sc_BadChoice___init__ : FnScope N_BadChoice___init__ ["self", "index", "what"] (defScope s_BadChoice___init__) := ⟨rfl, rfl, rfl, by decide +kernel, rfl, by decide +kernel, by decide +kernel⟩
theorem i_BadChoice (E : Ctx K mg) : ExI P w K mg base 1 "BadChoice" ["index", "what"] ["self", "index", "what"] (spIni2 K "BadChoice" "index" "what") := by
  obtain ⟨fd, F⟩ := f_BadChoice___init__ E
  refine ⟨g_BadChoice E, x_BadChoice E, fd, ?_, F.bindsN fun _ _ _ _ _ _ us hl => match us, hl with | [_, _, _], _ => rfl⟩
  refine F.ok sc_BadChoice___init__ (fun vs H Q E h => ?_) (fun cdv A outer s H vs Q E' hr h => ⟨_, PSs.nox (pss_cons (ps_ost (pv 0) (pv 1)) (pss_one (ps_ost (pv 0) (pv 2)))), ?_⟩)
  · obtain ⟨a, v, w', rfl, _⟩ := h
    rfl
  · obtain ⟨a, v, w', rfl, ha, q⟩ := h
    refine ⟨_, rfl, _, rfl, a, ga K "BadChoice", rfl, (x_BadChoice E).o, (x_BadChoice E).n _ (by decide), .inl ⟨ha, fun d hd ne => ?_⟩⟩
    exact ⟨_, rfl, _, rfl, a, ga K "BadChoice", rfl, (x_BadChoice E).o, (x_BadChoice E).n _ (by decide), .inr ⟨d, _, upd_same, (by rw [upd_ne ne]; exact upd_same), (by show 1 ≤ 900; decide), q d hd ne⟩⟩
theorem x_TooMany (E : Ctx K mg) : ExcT K "TooMany" ["most"] := excB_ok ((ba (ba (ba (ba (ba (ba E.c.x).2).2).2).2).2).1)
abbrev N_TooMany___init__ : List Str := ["self", "most"]
theorem sc_TooMany___init__ : FnScope N_TooMany___init__ ["self", "most"] (defScope s_TooMany___init__) := ⟨rfl, rfl, rfl, by decide +kernel, rfl, by decide +kernel, by decide +kernel⟩
theorem i_TooMany (E : Ctx K mg) : ExI P w K mg base 1 "TooMany" ["most"] ["self", "most"] (spIni1 K "TooMany" "most") := by
  obtain ⟨fd, F⟩ := f_TooMany___init__ E
  refine ⟨g_TooMany E, x_TooMany E, fd, ?_, F.bindsN fun _ _ _ _ _ _ us hl => match us, hl with | [_, _], _ => rfl⟩
  refine F.ok sc_TooMany___init__ (fun vs H Q E h => ?_) (fun cdv A outer s H vs Q E' hr h => ⟨_, PSs.nox (pss_one (ps_ost (pv 0) (pv 1))), ?_⟩)
  · obtain ⟨a, v, rfl, _⟩ := h
    rfl
  · obtain ⟨a, v, rfl, ha, q⟩ := h
    exact ⟨_, rfl, _, rfl, a, ga K "TooMany", rfl, (x_TooMany E).o, (x_TooMany E).n _ (by decide), .inl ⟨ha, fun d hd ne => q d hd ne⟩⟩
theorem x_NotInCode (E : Ctx K mg) : ExcT K "NotInCode" ["heap"] := excB_ok ((ba (ba (ba (ba (ba (ba (ba E.c.x).2).2).2).2).2).2).1)
abbrev N_NotInCode___init__ : List Str := ["self", "heap"]
theorem sc_NotInCode___init__ : FnScope N_NotInCode___init__ ["self", "heap"] (defScope s_NotInCode___init__) := ⟨rfl, rfl, rfl, by decide +kernel, rfl, by decide +kernel, by decide +kernel⟩
theorem i_NotInCode (E : Ctx K mg) : ExI P w K mg base 1 "NotInCode" ["heap"] ["self", "heap"] (spIni1 K "NotInCode" "heap") := by
  obtain ⟨fd, F⟩ := f_NotInCode___init__ E
  refine ⟨g_NotInCode E, x_NotInCode E, fd, ?_, F.bindsN fun _ _ _ _ _ _ us hl => match us, hl with | [_, _], _ => rfl⟩
  refine F.ok sc_NotInCode___init__ (fun vs H Q E h => ?_) (fun cdv A outer s H vs Q E' hr h => ⟨_, PSs.nox (pss_one (ps_ost (pv 0) (pv 1))), ?_⟩)
  · obtain ⟨a, v, rfl, _⟩ := h
    rfl
  · obtain ⟨a, v, rfl, ha, q⟩ := h
    exact ⟨_, rfl, _, rfl, a, ga K "NotInCode", rfl, (x_NotInCode E).o, (x_NotInCode E).n _ (by decide), .inl ⟨ha, fun d hd ne => q d hd ne⟩⟩
end
abbrev N__wall : List Str := ["k"]
theorem sc__wall : FnScope N__wall ["k"] (defScope s__wall) := ⟨rfl, rfl, rfl, by decide +kernel, rfl, by decide +kernel, by decide +kernel⟩
abbrev N_is_whole : List Str := ["thing", "low", "high"]
theorem sc_is_whole : FnScope N_is_whole ["thing", "low", "high"] (defScope s_is_whole) := ⟨rfl, rfl, rfl, by decide +kernel, rfl, by decide +kernel, by decide +kernel⟩
abbrev N_check_letters : List Str := ["letters"]
theorem sc_check_letters : FnScope N_check_letters ["letters"] (defScope s_check_letters) := ⟨rfl, rfl, rfl, by decide +kernel, rfl, by decide +kernel, by decide +kernel⟩
abbrev N_check_number : List Str := ["number", "most"]
theorem sc_check_number : FnScope N_check_number ["number", "most"] (defScope s_check_number) := ⟨rfl, rfl, rfl, by decide +kernel, rfl, by decide +kernel, by decide +kernel⟩
abbrev N_check_heaps : List Str := ["letters", "heaps", "bad"]
theorem sc_check_heaps : FnScope N_check_heaps ["letters", "heaps"] (defScope s_check_heaps) := ⟨rfl, rfl, rfl, by decide +kernel, rfl, by decide +kernel, by decide +kernel⟩
abbrev N__first_bad : List Str := ["most", "things", "index", "thing"]
theorem sc__first_bad : FnScope N__first_bad ["most", "things"] (defScope s__first_bad) := ⟨rfl, rfl, rfl, by decide +kernel, rfl, by decide +kernel, by decide +kernel⟩
abbrev N_all_letters : List Str := ["letters"]
theorem sc_all_letters : FnScope N_all_letters ["letters"] (defScope s_all_letters) := ⟨rfl, rfl, rfl, by decide +kernel, rfl, by decide +kernel, by decide +kernel⟩
abbrev N_all_heaps : List Str := ["letters"]
theorem sc_all_heaps : FnScope N_all_heaps ["letters"] (defScope s_all_heaps) := ⟨rfl, rfl, rfl, by decide +kernel, rfl, by decide +kernel, by decide +kernel⟩
abbrev N_check_word : List Str := ["letters", "word"]
theorem sc_check_word : FnScope N_check_word ["letters", "word"] (defScope s_check_word) := ⟨rfl, rfl, rfl, by decide +kernel, rfl, by decide +kernel, by decide +kernel⟩
abbrev N_full_word : List Str := ["letters"]
theorem sc_full_word : FnScope N_full_word ["letters"] (defScope s_full_word) := ⟨rfl, rfl, rfl, by decide +kernel, rfl, by decide +kernel, by decide +kernel⟩
abbrev N_word_of : List Str := ["letters", "heaps"]
theorem sc_word_of : FnScope N_word_of ["letters", "heaps"] (defScope s_word_of) := ⟨rfl, rfl, rfl, by decide +kernel, rfl, by decide +kernel, by decide +kernel⟩
abbrev N_heaps_of : List Str := ["letters", "word"]
theorem sc_heaps_of : FnScope N_heaps_of ["letters", "word"] (defScope s_heaps_of) := ⟨rfl, rfl, rfl, by decide +kernel, rfl, by decide +kernel, by decide +kernel⟩
abbrev N__stepped : List Str := ["letters", "number", "letter"]
theorem sc__stepped : FnScope N__stepped ["letters", "number"] (defScope s__stepped) := ⟨rfl, rfl, rfl, by decide +kernel, rfl, by decide +kernel, by decide +kernel⟩
abbrev N__marks : List Str := ["places", "place"]
theorem sc__marks : FnScope N__marks ["places"] (defScope s__marks) := ⟨rfl, rfl, rfl, by decide +kernel, rfl, by decide +kernel, by decide +kernel⟩
abbrev N_places_of : List Str := ["letters", "word", "place"]
theorem sc_places_of : FnScope N_places_of ["letters", "word"] (defScope s_places_of) := ⟨rfl, rfl, rfl, by decide +kernel, rfl, by decide +kernel, by decide +kernel⟩
abbrev N_holds : List Str := ["choice", "word"]
theorem sc_holds : FnScope N_holds ["choice", "word"] (defScope s_holds) := ⟨rfl, rfl, rfl, by decide +kernel, rfl, by decide +kernel, by decide +kernel⟩
abbrev N_heap_missing : List Str := ["choice", "word", "heap"]
theorem sc_heap_missing : FnScope N_heap_missing ["choice", "word"] (defScope s_heap_missing) := ⟨rfl, rfl, rfl, by decide +kernel, rfl, by decide +kernel, by decide +kernel⟩
abbrev N_check_in_code : List Str := ["choice", "word", "missing"]
theorem sc_check_in_code : FnScope N_check_in_code ["choice", "word"] (defScope s_check_in_code) := ⟨rfl, rfl, rfl, by decide +kernel, rfl, by decide +kernel, by decide +kernel⟩
abbrev N_word_at : List Str := ["choice", "number", "index", "heap"]
theorem sc_word_at : FnScope N_word_at ["choice", "number"] (defScope s_word_at) := ⟨rfl, rfl, rfl, by decide +kernel, rfl, by decide +kernel, by decide +kernel⟩
abbrev N_number_of : List Str := ["choice", "word", "heaps", "index", "heap"]
theorem sc_number_of : FnScope N_number_of ["choice", "word"] (defScope s_number_of) := ⟨rfl, rfl, rfl, by decide +kernel, rfl, by decide +kernel, by decide +kernel⟩
abbrev N__law_mix : List Str := ["_law_number_here", "_law_turn", "_law_once", "_law_twice"]
theorem sc__law_mix : FnScope N__law_mix ["_law_number_here", "_law_turn"] (defScope s__law_mix) := ⟨rfl, rfl, rfl, by decide +kernel, rfl, by decide +kernel, by decide +kernel⟩
abbrev N__law_hand : List Str := ["_law_script", "_law_total", "_law_at_here", "_law_cell"]
theorem sc__law_hand : FnScope N__law_hand ["_law_script"] (defScope s__law_hand) := ⟨rfl, rfl, rfl, by decide +kernel, rfl, by decide +kernel, by decide +kernel⟩
abbrev N__law_draw : List Str := ["_law_hand_here", "_law_many", "_law_cell", "_law_rest"]
theorem sc__law_draw : FnScope N__law_draw ["_law_hand_here", "_law_many"] (defScope s__law_draw) := ⟨rfl, rfl, rfl, by decide +kernel, rfl, by decide +kernel, by decide +kernel⟩
abbrev N__law_wide : List Str := ["_law_hand_here", "_law_bits", "_law_number_here", "_law_k"]
theorem sc__law_wide : FnScope N__law_wide ["_law_hand_here", "_law_bits"] (defScope s__law_wide) := ⟨rfl, rfl, rfl, by decide +kernel, rfl, by decide +kernel, by decide +kernel⟩
abbrev N__law_letters : List Str := ["_law_hand_here"]
theorem sc__law_letters : FnScope N__law_letters ["_law_hand_here"] (defScope s__law_letters) := ⟨rfl, rfl, rfl, by decide +kernel, rfl, by decide +kernel, by decide +kernel⟩
abbrev N__law_ones : List Str := ["_law_number_here", "_law_many"]
theorem sc__law_ones : FnScope N__law_ones ["_law_number_here"] (defScope s__law_ones) := ⟨rfl, rfl, rfl, by decide +kernel, rfl, by decide +kernel, by decide +kernel⟩
abbrev N__law_heap_word : List Str := ["_law_m", "_law_heap", "_law_word", "_law_place"]
theorem sc__law_heap_word : FnScope N__law_heap_word ["_law_m", "_law_heap"] (defScope s__law_heap_word) := ⟨rfl, rfl, rfl, by decide +kernel, rfl, by decide +kernel, by decide +kernel⟩
abbrev N__law_sum : List Str := ["_law_m", "_law_heaps", "_law_word", "_law_heap"]
theorem sc__law_sum : FnScope N__law_sum ["_law_m", "_law_heaps"] (defScope s__law_sum) := ⟨rfl, rfl, rfl, by decide +kernel, rfl, by decide +kernel, by decide +kernel⟩
abbrev N__law_heaps_of : List Str := ["_law_m", "_law_word", "_law_found", "_law_heap", "_law_odd_here", "_law_place"]
theorem sc__law_heaps_of : FnScope N__law_heaps_of ["_law_m", "_law_word"] (defScope s__law_heaps_of) := ⟨rfl, rfl, rfl, by decide +kernel, rfl, by decide +kernel, by decide +kernel⟩
abbrev N__law_is_below : List Str := ["_law_f", "_law_g", "_law_letter"]
theorem sc__law_is_below : FnScope N__law_is_below ["_law_f", "_law_g"] (defScope s__law_is_below) := ⟨rfl, rfl, rfl, by decide +kernel, rfl, by decide +kernel, by decide +kernel⟩
abbrev N__law_falling : List Str := ["_law_m", "_law_seeds_here", "_law_f", "_law_g"]
theorem sc__law_falling : FnScope N__law_falling ["_law_m", "_law_seeds_here"] (defScope s__law_falling) := ⟨rfl, rfl, rfl, by decide +kernel, rfl, by decide +kernel, by decide +kernel⟩
abbrev N__law_closed : List Str := ["_law_m", "_law_seeds_here", "_law_f", "_law_g"]
theorem sc__law_closed : FnScope N__law_closed ["_law_m", "_law_seeds_here"] (defScope s__law_closed) := ⟨rfl, rfl, rfl, by decide +kernel, rfl, by decide +kernel, by decide +kernel⟩
abbrev N__law_seeds : List Str := ["_law_hand_here", "_law_m", "_law_k"]
theorem sc__law_seeds : FnScope N__law_seeds ["_law_hand_here", "_law_m"] (defScope s__law_seeds) := ⟨rfl, rfl, rfl, by decide +kernel, rfl, by decide +kernel, by decide +kernel⟩
abbrev N__law_choice : List Str := ["_law_hand_here", "_law_m", "_law_style", "_law_bits", "_law_heaps", "_law_turned", "_law_heap"]
theorem sc__law_choice : FnScope N__law_choice ["_law_hand_here", "_law_m"] (defScope s__law_choice) := ⟨rfl, rfl, rfl, by decide +kernel, rfl, by decide +kernel, by decide +kernel⟩
abbrev N__law_small_falling : List Str := ["_law_hand_here", "_law_m", "_law_most", "_law_heaps", "_law_seed", "_law_more"]
theorem sc__law_small_falling : FnScope N__law_small_falling ["_law_hand_here", "_law_m", "_law_most"] (defScope s__law_small_falling) := ⟨rfl, rfl, rfl, by decide +kernel, rfl, by decide +kernel, by decide +kernel⟩
abbrev N__law_any_word : List Str := ["_law_hand_here", "_law_m"]
theorem sc__law_any_word : FnScope N__law_any_word ["_law_hand_here", "_law_m"] (defScope s__law_any_word) := ⟨rfl, rfl, rfl, by decide +kernel, rfl, by decide +kernel, by decide +kernel⟩
abbrev N__law_odd : List Str := ["_law_hand_here", "_law_low", "_law_high", "_law_turn"]
theorem sc__law_odd : FnScope N__law_odd ["_law_hand_here", "_law_low", "_law_high"] (defScope s__law_odd) := ⟨rfl, rfl, rfl, by decide +kernel, rfl, by decide +kernel, by decide +kernel⟩
abbrev N__law_unique : List Str := ["_law_rows", "_law_found", "_law_row"]
theorem sc__law_unique : FnScope N__law_unique ["_law_rows"] (defScope s__law_unique) := ⟨rfl, rfl, rfl, by decide +kernel, rfl, by decide +kernel, by decide +kernel⟩
abbrev N__law_listed : List Str := ["_law_choice_here", "e"]
theorem sc__law_listed : FnScope N__law_listed ["_law_choice_here"] (defScope s__law_listed) := ⟨rfl, rfl, rfl, by decide +kernel, rfl, by decide +kernel, by decide +kernel⟩
abbrev N__law_at : List Str := ["_law_choice_here", "_law_number_here", "e"]
theorem sc__law_at : FnScope N__law_at ["_law_choice_here", "_law_number_here"] (defScope s__law_at) := ⟨rfl, rfl, rfl, by decide +kernel, rfl, by decide +kernel, by decide +kernel⟩
abbrev N__law_number : List Str := ["_law_choice_here", "_law_word", "e"]
theorem sc__law_number : FnScope N__law_number ["_law_choice_here", "_law_word"] (defScope s__law_number) := ⟨rfl, rfl, rfl, by decide +kernel, rfl, by decide +kernel, by decide +kernel⟩
abbrev N__law_holds : List Str := ["_law_choice_here", "_law_word", "e"]
theorem sc__law_holds : FnScope N__law_holds ["_law_choice_here", "_law_word"] (defScope s__law_holds) := ⟨rfl, rfl, rfl, by decide +kernel, rfl, by decide +kernel, by decide +kernel⟩
abbrev N__law_picked : List Str := ["_law_heaps", "_law_number_here", "_law_at_here", "_law_heap"]
theorem sc__law_picked : FnScope N__law_picked ["_law_heaps", "_law_number_here"] (defScope s__law_picked) := ⟨rfl, rfl, rfl, by decide +kernel, rfl, by decide +kernel, by decide +kernel⟩
abbrev N__law_list_right : List Str := ["_law_choice_here", "_law_m", "_law_heaps", "_law_words", "_law_dues", "_law_word", "_law_told", "_law_heap", "_law_due"]
theorem sc__law_list_right : FnScope N__law_list_right ["_law_choice_here", "_law_m", "_law_heaps"] (defScope s__law_list_right) := ⟨rfl, rfl, rfl, by decide +kernel, rfl, by decide +kernel, by decide +kernel⟩
abbrev N_law : List Str := ["_law_script", "_law_hand_here", "_law_m", "_law_heaps", "_law_choice_here", "_law_few", "_law_most", "_law_numbers", "_law_words", "_law_number_here", "_law_word", "_law_strange", "_law_due", "_law_odd_here", "_law_heap"]
theorem sc_law : FnScope N_law ["_law_script"] (defScope s_law) := ⟨rfl, rfl, rfl, by decide +kernel, rfl, by decide +kernel, by decide +kernel⟩
abbrev N_Choice___init__ : List Str := ["self", "letters", "heaps", "chosen", "error"]
theorem sc_Choice___init__ : FnScope N_Choice___init__ ["self", "letters", "heaps"] (defScope s_Choice___init__) := ⟨rfl, rfl, rfl, by decide +kernel, rfl, by decide +kernel, by decide +kernel⟩
abbrev N_Choice___contains__ : List Str := ["self", "heap"]
theorem sc_Choice___contains__ : FnScope N_Choice___contains__ ["self", "heap"] (defScope s_Choice___contains__) := ⟨rfl, rfl, rfl, by decide +kernel, rfl, by decide +kernel, by decide +kernel⟩
abbrev N_Choice___iter__ : List Str := ["self"]
theorem sc_Choice___iter__ : FnScope N_Choice___iter__ ["self"] (defScope s_Choice___iter__) := ⟨rfl, rfl, rfl, by decide +kernel, rfl, by decide +kernel, by decide +kernel⟩
abbrev N_Choice___eq__ : List Str := ["self", "other"]
theorem sc_Choice___eq__ : FnScope N_Choice___eq__ ["self", "other"] (defScope s_Choice___eq__) := ⟨rfl, rfl, rfl, by decide +kernel, rfl, by decide +kernel, by decide +kernel⟩
abbrev N_Choice_size : List Str := ["self"]
theorem sc_Choice_size : FnScope N_Choice_size ["self"] (defScope s_Choice_size) := ⟨rfl, rfl, rfl, by decide +kernel, rfl, by decide +kernel, by decide +kernel⟩
end Lw

set_option Elab.async false
set_option linter.all false
set_option maxRecDepth 100000
set_option maxHeartbeats 4000000
namespace Lw
open PySem PySem.Spec PyProof.Rows L2 He Evl StX
local macro_rules | `(tactic| walk_at "rd") => `(tactic| (repeat first
  | with_reducible refine rd_seq ?_
  | with_reducible refine rd_asg ?_
  | with_reducible refine rd_ret ?_
  | with_reducible refine rd_next ?_
  | with_reducible refine rd_drop ?_
  | with_reducible refine rd_if ?_
  | with_reducible refine rd_ifE ?_
  | ((with_reducible refine' rd_var ?hv ?_); (case hv => rfl))
  | with_reducible refine rd_c ?_
  | with_reducible refine rd_op ?_
  | with_reducible refine rd_chain ?_
  | with_reducible refine rd_I0 ?_
  | with_reducible refine rd_test ?_
  | with_reducible refine rd_B ?_
  | with_reducible refine rd_bl ?_
  | with_reducible refine rd_not ?_
  | with_reducible refine rd_and ?_
  | with_reducible refine rd_or ?_
  | with_reducible refine rd_andV ?_
  | with_reducible refine rd_orV ?_
  | with_reducible refine rd_notV ?_
  | with_reducible refine rd_cons ?_
  | with_reducible refine rd_nil ?_
  | with_reducible refine rd_CB ?_
  | with_reducible refine rd_callS ?_
  | with_reducible refine rd_raise0 ?_
  | with_reducible refine rd_raise1 ?_
  | with_reducible refine rd_raise2 ?_
  | ((with_reducible refine' rd_eq ?hs ?_); (case hs => rfl))
  | ((with_reducible refine' rd_ne ?hs ?_); (case hs => rfl))
  | ((with_reducible refine' rd_isT ?th ?hT ?_); (case th => assumption); (case hT => decide))
  | with_reducible refine rd_tup ?_
  | with_reducible refine rd_lst ?_
  | with_reducible refine rd_iEnum ?_
  | with_reducible refine rd_iEnumA ?_
  | ((with_reducible refine' rd_ixl ?hl ?hk ?_); (case hl => assumption); (case hk => rfl))
  | with_reducible refine rd_int1 ?_
  | with_reducible refine rd_sub ?_
  | with_reducible refine rd_gcons ?_
  | with_reducible refine rd_gnil ?_
  | with_reducible refine rd_iZip ?_
  | with_reducible refine rd_BM ?_
  | with_reducible refine rd_neg ?_
  | ((with_reducible refine' rd_last ?hl ?_); (case hl => assumption))
  | with_reducible refine rd_lc2 ?_
  | with_reducible refine rd_Rg1 ?_
  | with_reducible refine rd_tupRg ?_
  | with_reducible refine rd_sl ?_
  | with_reducible refine rd_noPart ?_
  | with_reducible refine rd_part ?_
  | with_reducible refine rd_for ?_
  | with_reducible refine rd_iRev ?_
  | with_reducible refine rd_gname ?_
  | with_reducible refine rd_NN ?_
  | with_reducible refine rd_NL ?_
  | with_reducible refine rd_LN ?_
  | ((with_reducible refine' rd_shl1 ?hs ?_); (case hs => omega))
  | ((with_reducible refine' rd_I ?hs ?_); (case hs => first | omega | decide | exact ⟨by decide, by decide, by decide⟩ | exact ⟨by omega, by omega⟩))
  | with_reducible refine rd_tr ?_
  | with_reducible refine rd_trI ?_
  | with_reducible refine rd_star ?_
  | with_reducible refine rd_fmtB ?_
  | with_reducible refine rd_M1 ?_
  | with_reducible refine rd_un ?_
  | with_reducible refine rd_lc ?_
  | with_reducible refine rd_iT ?_
  | with_reducible refine rd_iL ?_
  | with_reducible refine rd_iR1 ?_
  | with_reducible refine rd_iR2 ?_
  | dsimp only [List.set, start]))
section
variable {P : Program} {w : World} {K : PySem.W.Frag} {mg : Str → Option Value} {base : Heap}

def Chk (b : Bool) (A B : Prop) : Prop := (b = true → A) ∧ (b = false → B)
def Let (K : PySem.W.Frag) (l : V) (E : XK) (H : Hp) (A : Nat → Prop) : Prop := Thg K H l ∧ (wholeV 1 5 l = false → Er0 K "BadLetters" E H) ∧ ∀ m : Nat, l = .int m → 1 ≤ m → m ≤ 5 → A m
theorem whole_nat {lo hi : Int} {x : V} (h : wholeV lo hi x = true) (h0 : 0 ≤ lo) : ∃ n : Nat, x = .int n ∧ lo ≤ n ∧ (n : Int) ≤ hi := by
  cases x with
  | int i =>
    have h2 : (decide (lo ≤ i) && decide (i ≤ hi)) = true := h
    simp only [Bool.and_eq_true, decide_eq_true_eq] at h2
    exact ⟨i.toNat, by rw [Int.toNat_of_nonneg (by omega)], by omega, by omega⟩
  | _ => cases h
theorem whole_of {lo hi : Int} {n : Nat} (h1 : lo ≤ n) (h2 : (n : Int) ≤ hi) : wholeV lo hi (.int n) = true := by
  show (decide (lo ≤ (n : Int)) && decide ((n : Int) ≤ hi)) = true
  simp [h1, h2]
theorem not_true {b : Bool} (h : (!b) = true) : b = false := by cases b <;> simp_all
theorem not_false {b : Bool} (h : (!b) = false) : b = true := by cases b <;> simp_all
def RetT (H : Hp) (Q : VK) (ns : List Int) : Prop := ∀ p H', H p = none → Ex H H' → H' p = some (.tup (ns.map V.int)) → Q (.ref p) H'
def spWhole (K : PySem.W.Frag) : Sp := fun vs H Q _ => ∃ (x : V) (lo hi : Int), vs = [x, .int lo, .int hi] ∧ Thg K H x ∧ Q (.bl (wholeV lo hi x)) H
theorem h_is_whole (E : Ctx K mg) : Has P w K mg base 2 "is_whole" ["thing", "low", "high"] (spWhole K) := by
  obtain ⟨fd, F⟩ := f_is_whole E
  refine ⟨⟨fd, ?_, F.bindsN fun _ _ _ _ _ _ us hl => match us, hl with | [_, _, _], _ => rfl⟩, g_is_whole E, F.kp⟩
  refine F.ok sc_is_whole (fun vs H Q E' h => ?len) (fun cdv A outer s H vs Q E' hr h => ⟨_, (pss_one (ps_ret (pe_and (pe_callB (kc_isT (K := K) rfl) rfl (b_isinstance E) (by decide +kernel) (pa_cons (pv 0) (pa_cons (pe_bltn rfl (b_int E) (by decide +kernel) (v := .ty "int") rfl) pa_nil))) (pe_and (pe_not (pe_callB (kc_isT (K := K) rfl) rfl (b_isinstance E) (by decide +kernel) (pa_cons (pv 0) (pa_cons (pe_bltn rfl (b_bool E) (by decide +kernel) (v := .ty "bool") rfl) pa_nil)))) (pe_one (pe_chain op_le op_le (pv 1) (pv 0) (pv 2))))))), ?rd⟩)
  case len =>
    obtain ⟨x, lo, hi, rfl, _⟩ := h
    rfl
  case rd =>
    obtain ⟨x, lo, hi, rfl, ⟨n, th⟩, q⟩ := h
    walk_at "rd"
    rcases th_cases th with ⟨h1, h2, i, rfl⟩ | ⟨h1, h2⟩
    · refine ⟨fun _ => ?_, fun z => by rw [h1] at z; cases z⟩
      walk_at "rd"
      refine ⟨fun _ => ?_, fun z => by rw [h2] at z; cases z⟩
      walk_at "rd"
      have e : wholeV lo hi (.int i) = (decide (lo ≤ i) && decide (i ≤ hi)) := rfl
      exact ⟨fun z => by walk_at "rd"; rw [e, z, Bool.true_and] at q; exact q, fun z => by rw [e, z, Bool.false_and] at q; exact q⟩
    · refine ⟨fun z => ?_, fun z => by rw [h2] at q; exact q⟩
      walk_at "rd"
      rw [h2] at q
      refine ⟨fun z2 => ?_, fun _ => q⟩
      rcases h1 with h1 | h1
      · rw [h1] at z; cases z
      · rw [h1] at z2; cases z2
def spCheckLetters (K : PySem.W.Frag) : Sp := fun vs H Q E => ∃ l : V, vs = [l] ∧ Let K l E H fun m => Q (.int m) H
theorem h_check_letters (E : Ctx K mg) : Has P w K mg base 4 "check_letters" ["letters"] (spCheckLetters K) := by
  obtain ⟨fd, F⟩ := f_check_letters E
  refine ⟨⟨fd, ?_, F.bindsN fun _ _ _ _ _ _ us hl => match us, hl with | [_], _ => rfl⟩, g_check_letters E, F.kp⟩
  refine F.ok sc_check_letters (fun vs H Q E' h => ?len) (fun cdv A outer s H vs Q E' hr h => ⟨_, (pss_cons (ps_if (pt_not (pt_val (pe_H (h_is_whole E) (hr.mono (by decide)) (takes_of rfl rfl rfl rfl) (pa_cons (pv 0) (pa_cons pe_int (pa_cons (pe_glob (v := .int 5) rfl (k_MOST_LETTERS E).choose_spec ⟨_, rfl⟩) pa_nil))))))
 (pss_one (ps_raise0 rfl (takes_of rfl rfl rfl rfl) (x0_BadLetters E)))
 pss_nil)
 (pss_one (ps_ret (pv 0)))), ?rd⟩)
  case len =>
    obtain ⟨l, rfl, _⟩ := h
    rfl
  case rd =>
    obtain ⟨l, rfl, th, hb, hg⟩ := h
    walk_at "rd"
    refine ⟨l, 1, 5, rfl, th, ?_⟩
    walk_at "rd"
    refine ⟨fun z => ?_, fun z => ?_⟩
    · walk_at "rd"
      exact hb (not_true z)
    · walk_at "rd"
      obtain ⟨n, rfl, h1, h2⟩ := whole_nat (not_false z) (by decide)
      exact hg n rfl (by omega) (by omega)
def spAllLetters (K : PySem.W.Frag) : Sp := fun vs H Q E => ∃ l : V, vs = [l] ∧ Let K l E H fun m => Q (.int ((2 ^ m - 1 : Nat) : Int)) H
theorem h_all_letters (E : Ctx K mg) : Has P w K mg base 5 "all_letters" ["letters"] (spAllLetters K) := by
  obtain ⟨fd, F⟩ := f_all_letters E
  refine ⟨⟨fd, ?_, F.bindsN fun _ _ _ _ _ _ us hl => match us, hl with | [_], _ => rfl⟩, g_all_letters E, F.kp⟩
  refine F.ok sc_all_letters (fun vs H Q E' h => ?len) (fun cdv A outer s H vs Q E' hr h => ⟨_, (pss_one (ps_ret (pe_op op_sub (pe_op on_shl pe_int (pe_H (h_check_letters E) (hr.mono (by decide)) (takes_of rfl rfl rfl rfl) (pa_cons (pv 0) pa_nil))) pe_int))), ?rd⟩)
  case len =>
    obtain ⟨l, rfl, _⟩ := h
    rfl
  case rd =>
    obtain ⟨l, rfl, th, hb, hg⟩ := h
    walk_at "rd"
    refine ⟨l, rfl, th, hb, fun m e h1 h2 => ?_⟩
    obtain rfl := e
    walk_at "rd"
    have e2 : ((2 ^ m : Nat) : Int) - 1 = ((2 ^ m - 1 : Nat) : Int) := by
      rcases (show m = 1 ∨ m = 2 ∨ m = 3 ∨ m = 4 ∨ m = 5 by omega) with rfl | rfl | rfl | rfl | rfl <;> decide
    rw [e2]
    exact hg m rfl h1 h2
def spCheckHeap (K : PySem.W.Frag) : Sp := fun vs H Q E => ∃ l x : V, vs = [l, x] ∧ Thg K H x ∧ Let K l E H fun m => Chk (wholeV 0 ((2 ^ m - 1 : Nat) : Int) x) (Q x H) (Er K "BadHeap" [("index", .int 0)] E H)
def spOnes : Sp := fun vs H Q _ => ∃ n : Nat, vs = [.int n] ∧ n < 1606938044258990275541962092341162602522202993782792835301376 ∧ Q (.int (onesN n)) H
theorem mod_test (a : Nat) : (a % 2 != 0) = (a % 2 == 1) := by
  rcases Nat.mod_two_eq_zero_or_one a with h | h <;> rw [h] <;> rfl
/-- the letters of a heap -/
def lets (n : Nat) : List Nat := (List.range 5).filter fun i => n / 2 ^ i % 2 == 1
def intsL (l : List Nat) : List Int := l.map fun (n : Nat) => (n : Int)

end
end Lw

set_option Elab.async false
set_option linter.all false
set_option maxRecDepth 100000
set_option maxHeartbeats 4000000
namespace Lw
open PySem PySem.Spec PyProof.Rows L2 He Evl StX
local macro_rules | `(tactic| walk_at "rd") => `(tactic| (repeat first
  | with_reducible refine rd_seq ?_
  | with_reducible refine rd_asg ?_
  | with_reducible refine rd_ret ?_
  | with_reducible refine rd_next ?_
  | with_reducible refine rd_drop ?_
  | with_reducible refine rd_if ?_
  | with_reducible refine rd_ifE ?_
  | ((with_reducible refine' rd_var ?hv ?_); (case hv => rfl))
  | with_reducible refine rd_c ?_
  | with_reducible refine rd_op ?_
  | with_reducible refine rd_chain ?_
  | with_reducible refine rd_I0 ?_
  | with_reducible refine rd_test ?_
  | with_reducible refine rd_B ?_
  | with_reducible refine rd_bl ?_
  | with_reducible refine rd_not ?_
  | with_reducible refine rd_and ?_
  | with_reducible refine rd_or ?_
  | with_reducible refine rd_andV ?_
  | with_reducible refine rd_orV ?_
  | with_reducible refine rd_notV ?_
  | with_reducible refine rd_cons ?_
  | with_reducible refine rd_nil ?_
  | with_reducible refine rd_CB ?_
  | with_reducible refine rd_callS ?_
  | with_reducible refine rd_raise0 ?_
  | with_reducible refine rd_raise1 ?_
  | with_reducible refine rd_raise2 ?_
  | ((with_reducible refine' rd_eq ?hs ?_); (case hs => rfl))
  | ((with_reducible refine' rd_ne ?hs ?_); (case hs => rfl))
  | ((with_reducible refine' rd_isT ?th ?hT ?_); (case th => assumption); (case hT => decide))
  | with_reducible refine rd_tup ?_
  | with_reducible refine rd_lst ?_
  | with_reducible refine rd_iEnum ?_
  | with_reducible refine rd_iEnumA ?_
  | ((with_reducible refine' rd_ixl ?hl ?hk ?_); (case hl => assumption); (case hk => rfl))
  | with_reducible refine rd_int1 ?_
  | with_reducible refine rd_sub ?_
  | with_reducible refine rd_gcons ?_
  | with_reducible refine rd_gnil ?_
  | with_reducible refine rd_iZip ?_
  | with_reducible refine rd_BM ?_
  | with_reducible refine rd_neg ?_
  | ((with_reducible refine' rd_last ?hl ?_); (case hl => assumption))
  | with_reducible refine rd_lc2 ?_
  | with_reducible refine rd_Rg1 ?_
  | with_reducible refine rd_tupRg ?_
  | with_reducible refine rd_sl ?_
  | with_reducible refine rd_noPart ?_
  | with_reducible refine rd_part ?_
  | with_reducible refine rd_for ?_
  | with_reducible refine rd_iRev ?_
  | with_reducible refine rd_gname ?_
  | with_reducible refine rd_NN ?_
  | with_reducible refine rd_NL ?_
  | with_reducible refine rd_LN ?_
  | ((with_reducible refine' rd_shl1 ?hs ?_); (case hs => omega))
  | ((with_reducible refine' rd_I ?hs ?_); (case hs => first | omega | decide | exact ⟨by decide, by decide, by decide⟩ | exact ⟨by omega, by omega⟩))
  | with_reducible refine rd_tr ?_
  | with_reducible refine rd_trI ?_
  | with_reducible refine rd_star ?_
  | with_reducible refine rd_fmtB ?_
  | with_reducible refine rd_M1 ?_
  | with_reducible refine rd_un ?_
  | with_reducible refine rd_lc ?_
  | with_reducible refine rd_iT ?_
  | with_reducible refine rd_iL ?_
  | with_reducible refine rd_iR1 ?_
  | with_reducible refine rd_iR2 ?_
  | dsimp only [List.set, start]))
section
variable {P : Program} {w : World} {K : PySem.W.Frag} {mg : Str → Option Value} {base : Heap}

def optV : Option Nat → V
  | some n => .int (n : Int)
  | none => .non
theorem firstOff_at {hi : Int} {xs : List V} {i : Nat} {x : V} (hx : xs[i]? = some x) (before : ∀ k, k < i → ∀ y, xs[k]? = some y → wholeV 0 hi y = true) (off : wholeV 0 hi x = false) : firstOff hi xs = some i := by
  unfold firstOff
  obtain ⟨lt, e⟩ := List.getElem?_eq_some_iff.mp hx
  rw [List.findIdx?_eq_some_iff_getElem]
  refine ⟨lt, by rw [e, off]; rfl, fun j hj => ?_⟩
  rw [before j hj _ (List.getElem?_eq_getElem (by omega))]
  decide
theorem firstOff_none {hi : Int} {xs : List V} (all : ∀ k, k < xs.length → ∀ y, xs[k]? = some y → wholeV 0 hi y = true) : firstOff hi xs = none := by
  unfold firstOff
  rw [List.findIdx?_eq_none_iff]
  intro x hx
  obtain ⟨k, hk⟩ := List.getElem?_of_mem hx
  rw [all k (List.getElem?_eq_some_iff.mp hk).1 x hk]
  rfl
def spFirstBad (K : PySem.W.Frag) : Sp := fun vs H Q _ => ∃ (hi : Int) (y : V) (r : Option (List V)), vs = [.int hi, y] ∧ RowV K H y r ∧ ∀ H', Ex H H' → Q (optV (badOf hi r)) H'
theorem h__first_bad (E : Ctx K mg) : Has P w K mg base 3 "_first_bad" ["most", "things"] (spFirstBad K) := by
  obtain ⟨fd, F⟩ := f__first_bad E
  refine ⟨⟨fd, ?_, F.bindsN fun _ _ _ _ _ _ us hl => match us, hl with | [_, _], _ => rfl⟩, g__first_bad E, F.kp⟩
  refine F.ok sc__first_bad (fun vs H Q E' h => ?len) (fun cdv A outer s H vs Q E' hr h => ⟨_, (pss_cons (ps_if (pt_not (pt_val (pe_callB (kc_isT2 (K := K) rfl) rfl (b_isinstance E) (by decide +kernel) (pa_cons (pv 1) (pa_cons (pe_tup (pa_cons (pe_bltn rfl (b_list E) (by decide +kernel) (v := .ty "list") rfl) (pa_cons (pe_bltn rfl (b_tuple E) (by decide +kernel) (v := .ty "tuple") rfl) pa_nil))) pa_nil)))))
 (pss_one (ps_ret pe_int))
 pss_nil)
 (pss_cons (ps_for (passes_of rfl) rfl (kpi_enumA (K := K) rfl rfl (b_enumerate E) (pa_cons (pv 1) pa_nil)) (kpg_tup (K := K) rfl rfl (pgs_cons (pg_name (i := 2) sc__first_bad.nd rfl (.inl rfl)) (pgs_cons (pg_name (i := 3) sc__first_bad.nd rfl (.inl rfl)) pgs_nil)))
 (pss_one (ps_if (pt_not (pt_val (pe_H (h_is_whole E) (hr.mono (by decide)) (takes_of rfl rfl rfl rfl) (pa_cons (pv 3) (pa_cons pe_int (pa_cons (pv 0) pa_nil))))))
 (pss_one (ps_ret (pv 2)))
 pss_nil)))
 (pss_one (ps_ret pe_non)))), ?rd⟩)
  case len =>
    obtain ⟨hi, y, r, rfl, _⟩ := h
    rfl
  case rd =>
    obtain ⟨hi, y, r, rfl, row, q⟩ := h
    walk_at "rd"
    refine ⟨by show 2 ≤ sizeLine; decide, fun tp htp => ?_⟩
    cases r with
    | none =>
      obtain ⟨n, th, n1, n2⟩ := row
      refine ⟨y, tp, "list", "tuple", n, rfl, upd_same, th _ (Ex.new htp), by decide, by decide, ?_⟩
      rw [n1, n2]
      refine ⟨false, rfl, fun _ => ?_, (fun z => nomatch z)⟩
      walk_at "rd"
      exact q _ (Ex.new htp)
    | some xs =>
      obtain ⟨a, rfl, at_, len, od⟩ := row
      have e0 : Ex H (upd H tp (.tup [.ty "list", .ty "tuple"])) := Ex.new htp
      rcases at_ with at_ | at_
      · refine ⟨.ref a, tp, "list", "tuple", "list", rfl, upd_same, th_lst (e0 _ _ at_), by decide, by decide, ?_⟩
        refine ⟨true, rfl, (fun z => nomatch z), fun _ => ?_⟩
        walk_at "rd"
        have sq : SqL K (upd H tp (.tup [.ty "list", .ty "tuple"])) a xs := sq_of (e0 _ _ at_)
        refine ⟨a, xs, rfl, .inl ⟨sq, for_it walk_enum (fun i σ H' => ∃ v2 v3 : Option V, σ = [some (.int hi), some (.ref a), v2, v3] ∧ Ex (upd H tp (.tup [.ty "list", .ty "tuple"])) H' ∧ ∀ k, k < i → ∀ y, xs[k]? = some y → wholeV 0 hi y = true)
          ⟨none, none, rfl, Ex.refl _, fun k hk => absurd hk (Nat.not_lt_zero k)⟩ (fun i σ H' _ ⟨_, _, _, e, _⟩ => ex_l e sq) ?_ ?_⟩⟩
        · rintro i x σ H1 H2 hlt ⟨v2, v3, rfl, e1, bef⟩ ⟨T, p, y, rfl, hT, rfl, hp, hy⟩
          obtain rfl : V.int ((i : Nat) : Int) = p := Option.some.inj hp
          refine ⟨T, _, rfl, st_of upd_same, rfl, ?_⟩
          have e2 : Ex (upd H tp (.tup [.ty "list", .ty "tuple"])) (upd H1 T (.tup [.int (i : Int), y])) := e1.trans (Ex.new hT)
          walk_at "rd"
          refine ⟨y, 0, hi, rfl, od y (List.mem_of_getElem? hy) _ (e0.trans e2), ?_⟩
          walk_at "rd"
          refine ⟨fun z => ?_, fun z => ?_⟩
          · walk_at "rd"
            have q2 := q _ (e0.trans e2)
            rw [show badOf hi (some xs) = some i from firstOff_at hy bef (not_true z)] at q2
            exact q2
          · walk_at "rd"
            refine ⟨_, _, rfl, e2, fun k hk y2 hy2 => ?_⟩
            by_cases ek : k = i
            · subst ek
              obtain rfl : y = y2 := Option.some.inj (Eq.trans (Eq.symm hy) hy2)
              exact not_false z
            · exact bef k (by omega) y2 hy2
        · rintro σ H1 ⟨v2, v3, rfl, e1, bef⟩
          walk_at "rd"
          have q2 := q _ (e0.trans e1)
          rw [show badOf hi (some xs) = none from firstOff_none bef] at q2
          exact q2
      · refine ⟨.ref a, tp, "list", "tuple", "tuple", rfl, upd_same, th_tup (e0 _ _ at_), by decide, by decide, ?_⟩
        refine ⟨true, rfl, (fun z => nomatch z), fun _ => ?_⟩
        walk_at "rd"
        have sq : SqT K (upd H tp (.tup [.ty "list", .ty "tuple"])) a xs := st_of (e0 _ _ at_)
        refine ⟨a, xs, rfl, .inr ⟨sq, for_it walk_enumT (fun i σ H' => ∃ v2 v3 : Option V, σ = [some (.int hi), some (.ref a), v2, v3] ∧ Ex (upd H tp (.tup [.ty "list", .ty "tuple"])) H' ∧ ∀ k, k < i → ∀ y, xs[k]? = some y → wholeV 0 hi y = true)
          ⟨none, none, rfl, Ex.refl _, fun k hk => absurd hk (Nat.not_lt_zero k)⟩ (fun i σ H' _ ⟨_, _, _, e, _⟩ => ex_t e sq) ?_ ?_⟩⟩
        · rintro i x σ H1 H2 hlt ⟨v2, v3, rfl, e1, bef⟩ ⟨T, p, y, rfl, hT, rfl, hp, hy⟩
          obtain rfl : V.int ((i : Nat) : Int) = p := Option.some.inj hp
          refine ⟨T, _, rfl, st_of upd_same, rfl, ?_⟩
          have e2 : Ex (upd H tp (.tup [.ty "list", .ty "tuple"])) (upd H1 T (.tup [.int (i : Int), y])) := e1.trans (Ex.new hT)
          walk_at "rd"
          refine ⟨y, 0, hi, rfl, od y (List.mem_of_getElem? hy) _ (e0.trans e2), ?_⟩
          walk_at "rd"
          refine ⟨fun z => ?_, fun z => ?_⟩
          · walk_at "rd"
            have q2 := q _ (e0.trans e2)
            rw [show badOf hi (some xs) = some i from firstOff_at hy bef (not_true z)] at q2
            exact q2
          · walk_at "rd"
            refine ⟨_, _, rfl, e2, fun k hk y2 hy2 => ?_⟩
            by_cases ek : k = i
            · subst ek
              obtain rfl : y = y2 := Option.some.inj (Eq.trans (Eq.symm hy) hy2)
              exact not_false z
            · exact bef k (by omega) y2 hy2
        · rintro σ H1 ⟨v2, v3, rfl, e1, bef⟩
          walk_at "rd"
          have q2 := q _ (e0.trans e1)
          rw [show badOf hi (some xs) = none from firstOff_none bef] at q2
          exact q2
def spRows (cls fld : Str) (K : PySem.W.Frag) : Sp := fun vs H Q E => ∃ (l y : V) (r : Option (List V)), vs = [l, y] ∧ RowV K H y r ∧ Let K l E H fun m =>
  (∀ b, badOf ((2 ^ m - 1 : Nat) : Int) r = some b → ∀ H', Ex H H' → Er K cls [(fld, .int (b : Int))] E H') ∧
  ∀ ns : List Int, r = some (ns.map V.int) → (∀ z ∈ ns, 0 ≤ z ∧ z ≤ ((2 ^ m - 1 : Nat) : Int)) → RetT H Q (uniq ns)
theorem uniq_few {k : Nat} {ns : List Int} (h : ∀ z ∈ ns, 0 ≤ z ∧ z < (k : Int)) : (uniq ns).length ≤ k := by
  have key : ∀ (k : Nat) (l : List Int), l.Pairwise (· < ·) → (∀ z ∈ l, 0 ≤ z ∧ z < (k : Int)) → l.length ≤ k := by
    intro k
    induction k with
    | zero =>
      intro l _ h
      cases l with
      | nil => exact Nat.le_refl _
      | cons x t => have := h x List.mem_cons_self; omega
    | succ k ih =>
      intro l p h
      by_cases e : l = []
      · rw [e]; exact Nat.zero_le _
      · have ed := (List.dropLast_concat_getLast e).symm
        have p2 := p
        rw [ed, List.pairwise_append] at p2
        have le := ih l.dropLast p2.1 fun z hz => by
          have z1 := h z (ed ▸ List.mem_append_left _ hz)
          have z2 := p2.2.2 z hz _ (List.mem_singleton.mpr rfl)
          have z3 := h _ (List.getLast_mem e)
          omega
        have ll : l.length = l.dropLast.length + 1 := by
          rw [List.length_dropLast]
          have := List.length_pos_iff.mpr e
          omega
        omega
  exact key k _ (uniq_sorted ns) fun z hz => h z ((uniq_mem z ns).mp hz)
theorem h_check_heaps (E : Ctx K mg) : Has P w K mg base 6 "check_heaps" ["letters", "heaps"] (spRows "BadHeap" "index" K) := by
  obtain ⟨fd, F⟩ := f_check_heaps E
  refine ⟨⟨fd, ?_, F.bindsN fun _ _ _ _ _ _ us hl => match us, hl with | [_, _], _ => rfl⟩, g_check_heaps E, F.kp⟩
  refine F.ok sc_check_heaps (fun vs H Q E' h => ?len) (fun cdv A outer s H vs Q E' hr h => ⟨_, (pss_cons (ps_set (i := 2) sc_check_heaps.nd rfl (.inl rfl) (pe_H (h__first_bad E) (hr.mono (by decide)) (takes_of rfl rfl rfl rfl) (pa_cons (pe_H (h_all_letters E) (hr.mono (by decide)) (takes_of rfl rfl rfl rfl) (pa_cons (pv 0) pa_nil)) (pa_cons (pv 1) pa_nil))))
 (pss_cons (ps_if (pt_cmpR op_notN (pv 2) pe_non (nomark _))
 (pss_one (ps_raise1 rfl (takes_of rfl rfl rfl rfl) (i_BadHeap E) (hr.mono (by decide)) (pv 2)))
 pss_nil)
 (pss_one (ps_ret (pe_callTy (kc_tup (K := K) rfl) rfl (b_tuple E) (by decide +kernel) (pa_cons (pe_callB (kc_sortedSet (w := w) rfl rfl) rfl (b_sorted E) (by decide +kernel) (pa_cons (pe_callTy (kc_setL (K := K) (w := w) rfl rfl rfl) rfl (b_set E) (by decide +kernel) (pa_cons (pv 1) pa_nil)) pa_nil)) pa_nil)))))), ?rd⟩)
  case len =>
    obtain ⟨l, y, r, rfl, _⟩ := h
    rfl
  case rd =>
    obtain ⟨l, y, r, rfl, row, th, hb, hg⟩ := h
    walk_at "rd"
    refine ⟨l, rfl, th, hb, fun m e h1 h2 => ?_⟩
    obtain ⟨g1, g2⟩ := hg m e h1 h2
    walk_at "rd"
    refine ⟨_, y, r, rfl, row, fun H1 e1 => ?_⟩
    walk_at "rd"
    cases eb : badOf ((2 ^ m - 1 : Nat) : Int) r with
    | some b =>
      refine ⟨rfl, true, rfl, fun _ => ?_, (fun z => nomatch z)⟩
      walk_at "rd"
      exact rd_mk1 (g1 b eb H1 e1)
    | none =>
      refine ⟨rfl, false, rfl, (fun z => nomatch z), fun _ => ?_⟩
      cases r with
      | none => exact nomatch eb
      | some xs =>
        obtain ⟨ns, rfl, bd⟩ := ints_off eb
        have ret := g2 ns rfl bd
        obtain ⟨a, rfl, at_, len_, _⟩ := row
        walk_at "rd"
        refine ⟨a, ns, rfl, at_.imp (fun q => sq_of (e1 _ _ q)) (fun q => st_of (e1 _ _ q)), by rw [List.length_map] at len_; omega, fun s hs => ?_⟩
        walk_at "rd"
        refine rd_sortedSet upd_same (by have := uniq_few (k := 32) fun z hz => (by have := bd z hz; have p5 : 2 ^ m ≤ 32 := Nat.le_trans (Nat.pow_le_pow_right (by decide) h2) (by decide); omega); omega) fun p hp => ?_
        walk_at "rd"
        refine ⟨p, _, rfl, .inl ⟨sq_of upd_same, fun p2 hp2 => ?_⟩⟩
        have e2 : Ex H (upd (upd H1 s (SetO w s (fun j => decide (j ∈ ns)) (uniq ns).length)) p (.lst ((uniq ns).map V.int))) := (e1.trans (Ex.new hs)).trans (Ex.new hp)
        exact ret p2 _ (fresh_back e2 hp2) (e2.trans (Ex.new hp2)) upd_same
def spAllHeaps (K : PySem.W.Frag) : Sp := fun vs H Q E => ∃ l : V, vs = [l] ∧ Let K l E H fun m => RetT H Q (intsL (List.range (2 ^ m)))
theorem h_all_heaps (E : Ctx K mg) : Has P w K mg base 14 "all_heaps" ["letters"] (spAllHeaps K) := by
  obtain ⟨fd, F⟩ := f_all_heaps E
  refine ⟨⟨fd, ?_, F.bindsN fun _ _ _ _ _ _ us hl => match us, hl with | [_], _ => rfl⟩, g_all_heaps E, F.kp⟩
  refine F.ok sc_all_heaps (fun vs H Q E' h => ?len) (fun cdv A outer s H vs Q E' hr h => ⟨_, (pss_one (ps_ret (pe_tupRg rfl rfl (b_tuple E) (prg_1 rfl (b_range E) (pe_op op_add (pe_H (h_all_letters E) (hr.mono (by decide)) (takes_of rfl rfl rfl rfl) (pa_cons (pv 0) pa_nil)) pe_int))))), ?rd⟩)
  case len =>
    obtain ⟨l, rfl, _⟩ := h
    rfl
  case rd =>
    obtain ⟨l, rfl, th, hb, hg⟩ := h
    walk_at "rd"
    refine ⟨l, rfl, th, hb, fun m e h1 h2 => ?_⟩
    have hg2 := hg m e h1 h2
    walk_at "rd"
    have p5 : 2 ^ m ≤ 32 := Nat.le_trans (Nat.pow_le_pow_right (by decide) h2) (by decide)
    have p0 : 0 < 2 ^ m := Nat.pow_pos (by decide)
    have e2 : ((2 ^ m - 1 : Nat) : Int) + 1 = ((2 ^ m : Nat) : Int) := by omega
    rw [e2]
    refine ⟨_, rfl, RgOk.of_le (by decide) (by omega) (by decide) (by omega), fun p hp => ?_⟩
    rw [rgV_nat]
    exact hg2 p _ hp (Ex.new hp) upd_same
def fullW (m : Nat) : Nat := 2 ^ (2 ^ m) - 1
def spFullWord (K : PySem.W.Frag) : Sp := fun vs H Q E => ∃ l : V, vs = [l] ∧ Let K l E H fun m => Q (.int ((fullW m : Nat) : Int)) H
theorem h_full_word (E : Ctx K mg) : Has P w K mg base 14 "full_word" ["letters"] (spFullWord K) := by
  obtain ⟨fd, F⟩ := f_full_word E
  refine ⟨⟨fd, ?_, F.bindsN fun _ _ _ _ _ _ us hl => match us, hl with | [_], _ => rfl⟩, g_full_word E, F.kp⟩
  refine F.ok sc_full_word (fun vs H Q E' h => ?len) (fun cdv A outer s H vs Q E' hr h => ⟨_, (pss_one (ps_ret (pe_op op_sub (pe_op on_shl pe_int (pe_op on_shl pe_int (pe_H (h_check_letters E) (hr.mono (by decide)) (takes_of rfl rfl rfl rfl) (pa_cons (pv 0) pa_nil)))) pe_int))), ?rd⟩)
  case len =>
    obtain ⟨l, rfl, _⟩ := h
    rfl
  case rd =>
    obtain ⟨l, rfl, th, hb, hg⟩ := h
    walk_at "rd"
    refine ⟨l, rfl, th, hb, fun m e h1 h2 => ?_⟩
    have p5 : 2 ^ m ≤ 32 := Nat.le_trans (Nat.pow_le_pow_right (by decide) h2) (by decide)
    have hg2 := hg m e h1 h2
    walk_at "rd"
    have p0 : 0 < 2 ^ (2 ^ m) := Nat.pow_pos (by decide)
    have e2 : ((2 ^ (2 ^ m) : Nat) : Int) - 1 = ((fullW m : Nat) : Int) := by
      unfold fullW
      omega
    rw [e2]
    exact hg2
def spCheckWord (K : PySem.W.Frag) : Sp := fun vs H Q E => ∃ l x : V, vs = [l, x] ∧ Thg K H x ∧ Let K l E H fun m => Chk (wholeV 0 ((fullW m : Nat) : Int) x) (Q x H) (Er K "BadWord" [("index", .int 0)] E H)
theorem h_check_word (E : Ctx K mg) : Has P w K mg base 15 "check_word" ["letters", "word"] (spCheckWord K) := by
  obtain ⟨fd, F⟩ := f_check_word E
  refine ⟨⟨fd, ?_, F.bindsN fun _ _ _ _ _ _ us hl => match us, hl with | [_, _], _ => rfl⟩, g_check_word E, F.kp⟩
  refine F.ok sc_check_word (fun vs H Q E' h => ?len) (fun cdv A outer s H vs Q E' hr h => ⟨_, (pss_cons (ps_if (pt_not (pt_val (pe_H (h_is_whole E) (hr.mono (by decide)) (takes_of rfl rfl rfl rfl) (pa_cons (pv 1) (pa_cons pe_int (pa_cons (pe_H (h_full_word E) (hr.mono (by decide)) (takes_of rfl rfl rfl rfl) (pa_cons (pv 0) pa_nil)) pa_nil))))))
 (pss_one (ps_raise1 rfl (takes_of rfl rfl rfl rfl) (i_BadWord E) (hr.mono (by decide)) pe_int))
 pss_nil)
 (pss_one (ps_ret (pv 1)))), ?rd⟩)
  case len =>
    obtain ⟨l, x, rfl, _⟩ := h
    rfl
  case rd =>
    obtain ⟨l, x, rfl, tx, th, hb, hg⟩ := h
    walk_at "rd"
    refine ⟨l, rfl, th, hb, fun m e h1 h2 => ?_⟩
    walk_at "rd"
    refine ⟨x, 0, _, rfl, tx, ?_⟩
    walk_at "rd"
    refine ⟨fun z => ?_, fun z => ?_⟩
    · walk_at "rd"
      exact rd_mk1 ((hg m e h1 h2).2 (not_true z))
    · walk_at "rd"
      exact (hg m e h1 h2).1 (not_false z)
theorem given_all {xs : List Nat} {f : Nat → V} : given xs.length (fun _ => true) (fun i => f (xs.getD i 0)) = xs.map f := by
  rw [given_map]
  refine List.ext_getElem (by simp) fun i h1 h2 => ?_
  simp only [List.getElem_map, List.getElem_range]
  rw [List.getD_eq_getElem?_getD, List.getElem?_eq_getElem (by simpa using h2)]
  rfl
/-- the number that marks the places -/
def markN (ps : List Nat) : Nat := (ps.map fun p => 2 ^ p).sum
theorem markN_int (ps : List Nat) : ((ps.map fun p => ((2 ^ p : Nat) : Int)).sum) = ((markN ps : Nat) : Int) := by
  induction ps with
  | nil => rfl
  | cons p r ih =>
    unfold markN at ih ⊢
    rw [List.map_cons, List.sum_cons, List.map_cons, List.sum_cons, ih, Int.natCast_add]
def spMarks : Sp := fun vs H Q _ => ∃ (a : Addr) (ps : List Nat), vs = [.ref a] ∧ H a = some (.tup ((intsL ps).map V.int)) ∧ (∀ p ∈ ps, p < 32) ∧ ps.length ≤ 60 ∧ ∀ H', Ex H H' → Q (.int ((markN ps : Nat) : Int)) H'
theorem h__marks (E : Ctx K mg) : Has P w K mg base 14 "_marks" ["places"] (spMarks) := by
  obtain ⟨fd, F⟩ := f__marks E
  refine ⟨⟨fd, ?_, F.bindsN fun _ _ _ _ _ _ us hl => match us, hl with | [_], _ => rfl⟩, g__marks E, F.kp⟩
  refine F.ok sc__marks (fun vs H Q E' h => ?len) (fun cdv A outer s H vs Q E' hr h => ⟨_, (pss_one (ps_ret (pe_callB (kc_sum rfl (K := K) rfl) rfl (b_sum E) (by decide +kernel) (pa_cons (pe_lc (own := [("place", 1)]) (g := gName 1) (tt := tYes) rfl sc__marks.nd (ki_tup (K := K) rfl (pv 0)) (blkOk_by (own := [("place", 1)]) (N := N__marks) (sc := defScope s__marks) (by decide +kernel)) (fun _ _ _ _ _ => (pg_name (i := 1) sc__marks.nd rfl (.inl rfl))) (fun _ _ _ _ _ => pts_nil) (fun _ _ _ _ _ => (pe_op on_shl pe_int (pv 1)))) pa_nil)))), ?rd⟩)
  case len =>
    obtain ⟨a, ps, rfl, _⟩ := h
    rfl
  case rd =>
    obtain ⟨a, ps, rfl, at_, lt, few, q⟩ := h
    have el : ((intsL ps).map V.int).length = ps.length := by simp [intsL]
    walk_at "rd"
    refine ⟨a, rfl, ⟨_, st_of at_⟩, lc_tupT (fun _ => true) (fun i => .int ((2 ^ (ps.getD i 0) : Nat) : Int)) (st_of at_) (by rw [el]; omega) (fun _ => rfl) (fun i x H1 e1 hi H2 e2 R q => q _ (Ex.refl _)) (fun i x H1 e1 hi hf H2 e2 R q => ?_) fun p2 H2 hp2 e2 h2 => ?_⟩
    · have hi2 : ∃ p, ps[i]? = some p ∧ x = .int (p : Int) := by
        unfold intsL at hi
        rw [List.map_map, List.getElem?_map] at hi
        cases e : ps[i]? with
        | none => rw [e] at hi; cases hi
        | some p => rw [e] at hi; exact ⟨p, rfl, (Option.some.inj hi).symm⟩
      obtain ⟨p, ep, rfl⟩ := hi2
      have pl := lt p (List.mem_of_getElem? ep)
      walk_at "rd"
      have q2 := q _ (Ex.refl _)
      rw [List.getD_eq_getElem?_getD, ep] at q2
      exact q2
    · have eg : given ((intsL ps).map V.int).length (fun _ => true) (fun i => V.int ((2 ^ (ps.getD i 0) : Nat) : Int)) = (ps.map fun p => ((2 ^ p : Nat) : Int)).map V.int := by
        rw [el, given_all (f := fun p => V.int ((2 ^ p : Nat) : Int)), map_int]
      rw [eg] at h2
      refine ⟨p2, _, rfl, sq_of h2, ?_⟩
      rw [markN_int]
      exact q _ e2
def withoutL : List Nat := [1431655765, 858993459, 252645135, 16711935, 65535]
def step1 (n l : Nat) : Nat := n ^^^ ((n &&& withoutL.getD l 0) * 2 ^ (2 ^ l))
def stepN (m n : Nat) : Nat := (List.range m).foldl step1 n
theorem without_room : ∀ m : Nat, m < 6 → ∀ l : Nat, l < m → (withoutL.getD l 0 % 2 ^ (2 ^ m)) * 2 ^ (2 ^ l) < 2 ^ (2 ^ m) := by decide +kernel
theorem step1_lt {m n l : Nat} (hm : m ≤ 5) (hl : l < m) (hn : n < 2 ^ (2 ^ m)) : step1 n l < 2 ^ (2 ^ m) := by
  unfold step1
  refine Nat.xor_lt_two_pow hn ?_
  have e : n &&& withoutL.getD l 0 = n &&& (withoutL.getD l 0 % 2 ^ (2 ^ m)) := by
    conv => lhs; rw [← Nat.mod_eq_of_lt hn, ← Nat.and_two_pow_sub_one_eq_mod]
    rw [Nat.and_assoc, Nat.and_comm (2 ^ 2 ^ m - 1), Nat.and_two_pow_sub_one_eq_mod]
  rw [e]
  exact Nat.lt_of_le_of_lt (Nat.mul_le_mul_right _ Nat.and_le_right) (without_room m (by omega) l hl)
theorem stepN_lt {m n : Nat} (hm : m ≤ 5) (hn : n < 2 ^ (2 ^ m)) : ∀ k, k ≤ m → (List.range k).foldl step1 n < 2 ^ (2 ^ m)
  | 0, _ => hn
  | k + 1, hk => by
    rw [List.range_succ, List.foldl_append]
    exact step1_lt hm hk (stepN_lt hm hn k (by omega))
def spStepped : Sp := fun vs H Q _ => ∃ m n : Nat, vs = [.int (m : Int), .int (n : Int)] ∧ m ≤ 5 ∧ n < 2 ^ (2 ^ m) ∧ Q (.int ((stepN m n : Nat) : Int)) H
theorem h__stepped (E : Ctx K mg) : Has P w K mg base 14 "_stepped" ["letters", "number"] (spStepped) := by
  obtain ⟨fd, F⟩ := f__stepped E
  refine ⟨⟨fd, ?_, F.bindsN fun _ _ _ _ _ _ us hl => match us, hl with | [_, _], _ => rfl⟩, g__stepped E, F.kp⟩
  refine F.ok sc__stepped (fun vs H Q E' h => ?len) (fun cdv A outer s H vs Q E' hr h => ⟨_, (pss_cons (ps_for (passes_of rfl) rfl (pi_range1 rfl (b_range E) (pa_cons (pv 0) pa_nil)) (pg_name (i := 2) sc__stepped.nd rfl (.inl rfl))
 (pss_one (ps_set (i := 1) sc__stepped.nd rfl (.inl rfl) (pe_op on_xor (pv 1) (pe_op on_shl (pe_op on_and (pv 1) (pe_ix (kx_tup (K := K) rfl) (pe_glob rfl (g_WITHOUT_LETTER E) (v := .ref (ga K "WITHOUT_LETTER")) rfl) (pv 2) (fun _ _ => rfl))) (pe_op on_shl pe_int (pv 2)))))))
 (pss_one (ps_ret (pv 1)))), ?rd⟩)
  case len =>
    obtain ⟨m, n, rfl, _⟩ := h
    rfl
  case rd =>
    obtain ⟨m, n, rfl, hm, hn, q⟩ := h
    walk_at "rd"
    refine ⟨_, rfl, by omega, by omega, ?_⟩
    rw [Int.toNat_natCast]
    refine for_range (lo := 0) (n := m) (fun i σ H' => ∃ v : Option V, σ = [some (.int (m : Int)), some (.int (((List.range i).foldl step1 n : Nat) : Int)), v] ∧ H' = H) ⟨none, rfl, rfl⟩ ?_ ?_
    · rintro i σ H1 hi ⟨v, rfl, rfl⟩
      rw [Int.zero_add]
      walk_at "rd"
      have i5 : i < 5 := by omega
      have hx : (([1431655765, 858993459, 252645135, 16711935, 65535] : List Int).map V.int)[i]? = some (.int ((withoutL.getD i 0 : Nat) : Int)) := by
        rcases (show i = 0 ∨ i = 1 ∨ i = 2 ∨ i = 3 ∨ i = 4 by omega) with rfl | rfl | rfl | rfl | rfl <;> rfl
      refine ⟨_, _, _, _, rfl, rfl, t_WITHOUT_LETTER E H1, atI_nat hx, ?_⟩
      walk_at "rd"
      have p5 : 2 ^ i ≤ 32 := Nat.le_trans (Nat.pow_le_pow_right (by decide) (show i ≤ 5 by omega)) (by decide)
      have small : ((List.range i).foldl step1 n &&& withoutL.getD i 0) < 2 ^ 1000 := by
        refine Nat.lt_of_le_of_lt Nat.and_le_right ?_
        rcases (show i = 0 ∨ i = 1 ∨ i = 2 ∨ i = 3 ∨ i = 4 by omega) with rfl | rfl | rfl | rfl | rfl <;> decide +kernel
      refine rd_shlN small (by omega) ?_
      walk_at "rd"
      refine ⟨some (.int (i : Int)), ?_, rfl⟩
      rw [List.range_succ, List.foldl_append]
      rfl
    · rintro σ H1 ⟨v, rfl, rfl⟩
      walk_at "rd"
      exact q
def spHeapWord (K : PySem.W.Frag) : Sp := fun vs H Q E => ∃ l x : V, vs = [l, x] ∧ Thg K H x ∧ Let K l E H fun m => Chk (wholeV 0 ((2 ^ m - 1 : Nat) : Int) x) (∀ n : Nat, x = .int n → n < 2 ^ m → Q (.int ((stepN m (2 ^ n) : Nat) : Int)) H) (Er K "BadHeap" [("index", .int 0)] E H)
end
end Lw

set_option Elab.async false
set_option linter.all false
set_option maxRecDepth 100000
set_option maxHeartbeats 4000000
namespace Lw
open PySem PySem.Spec PyProof.Rows L2 He Evl StX
local macro_rules | `(tactic| walk_at "rd") => `(tactic| (repeat first
  | with_reducible refine rd_seq ?_
  | with_reducible refine rd_asg ?_
  | with_reducible refine rd_ret ?_
  | with_reducible refine rd_next ?_
  | with_reducible refine rd_drop ?_
  | with_reducible refine rd_if ?_
  | with_reducible refine rd_ifE ?_
  | ((with_reducible refine' rd_var ?hv ?_); (case hv => rfl))
  | with_reducible refine rd_c ?_
  | with_reducible refine rd_op ?_
  | with_reducible refine rd_chain ?_
  | with_reducible refine rd_I0 ?_
  | with_reducible refine rd_test ?_
  | with_reducible refine rd_B ?_
  | with_reducible refine rd_bl ?_
  | with_reducible refine rd_not ?_
  | with_reducible refine rd_and ?_
  | with_reducible refine rd_or ?_
  | with_reducible refine rd_andV ?_
  | with_reducible refine rd_orV ?_
  | with_reducible refine rd_notV ?_
  | with_reducible refine rd_cons ?_
  | with_reducible refine rd_nil ?_
  | with_reducible refine rd_CB ?_
  | with_reducible refine rd_callS ?_
  | with_reducible refine rd_raise0 ?_
  | with_reducible refine rd_raise1 ?_
  | with_reducible refine rd_raise2 ?_
  | ((with_reducible refine' rd_eq ?hs ?_); (case hs => rfl))
  | ((with_reducible refine' rd_ne ?hs ?_); (case hs => rfl))
  | ((with_reducible refine' rd_isT ?th ?hT ?_); (case th => assumption); (case hT => decide))
  | with_reducible refine rd_tup ?_
  | with_reducible refine rd_lst ?_
  | with_reducible refine rd_iEnum ?_
  | with_reducible refine rd_iEnumA ?_
  | ((with_reducible refine' rd_ixl ?hl ?hk ?_); (case hl => assumption); (case hk => rfl))
  | with_reducible refine rd_int1 ?_
  | with_reducible refine rd_sub ?_
  | with_reducible refine rd_gcons ?_
  | with_reducible refine rd_gnil ?_
  | with_reducible refine rd_iZip ?_
  | with_reducible refine rd_BM ?_
  | with_reducible refine rd_neg ?_
  | ((with_reducible refine' rd_last ?hl ?_); (case hl => assumption))
  | with_reducible refine rd_lc2 ?_
  | with_reducible refine rd_Rg1 ?_
  | with_reducible refine rd_tupRg ?_
  | with_reducible refine rd_sl ?_
  | with_reducible refine rd_noPart ?_
  | with_reducible refine rd_part ?_
  | with_reducible refine rd_for ?_
  | with_reducible refine rd_iRev ?_
  | with_reducible refine rd_gname ?_
  | with_reducible refine rd_NN ?_
  | with_reducible refine rd_NL ?_
  | with_reducible refine rd_LN ?_
  | ((with_reducible refine' rd_shl1 ?hs ?_); (case hs => omega))
  | ((with_reducible refine' rd_I ?hs ?_); (case hs => first | omega | decide | exact ⟨by decide, by decide, by decide⟩ | exact ⟨by omega, by omega⟩))
  | with_reducible refine rd_tr ?_
  | with_reducible refine rd_trI ?_
  | with_reducible refine rd_star ?_
  | with_reducible refine rd_fmtB ?_
  | with_reducible refine rd_M1 ?_
  | with_reducible refine rd_un ?_
  | with_reducible refine rd_lc ?_
  | with_reducible refine rd_iT ?_
  | with_reducible refine rd_iL ?_
  | with_reducible refine rd_iR1 ?_
  | with_reducible refine rd_iR2 ?_
  | dsimp only [List.set, start]))
section
variable {P : Program} {w : World} {K : PySem.W.Frag} {mg : Str → Option Value} {base : Heap}

/-- the places of a row of ints from 0 -/
theorem nats_of {ns : List Int} {hi : Nat} (h : ∀ z ∈ ns, 0 ≤ z ∧ z ≤ (hi : Int)) : ∃ ps : List Nat, ns = intsL ps ∧ ∀ p ∈ ps, p ≤ hi := by
  refine ⟨ns.map Int.toNat, ?_, fun p hp => ?_⟩
  · unfold intsL
    rw [List.map_map]
    conv => lhs; rw [← List.map_id ns]
    exact List.map_congr_left fun z hz => by
      have := (h z hz).1
      show z = ((z.toNat : Nat) : Int)
      omega
  · obtain ⟨z, hz, rfl⟩ := List.mem_map.mp hp
    have := h z hz
    omega
def natsU (ns : List Int) : List Nat := (uniq ns).map Int.toNat
theorem natsU_int {ns : List Int} (h : ∀ z ∈ ns, 0 ≤ z) : uniq ns = intsL (natsU ns) := by
  unfold intsL natsU
  rw [List.map_map]
  conv => lhs; rw [← List.map_id (uniq ns)]
  exact List.map_congr_left fun z hz => by
    have := h z ((uniq_mem z ns).mp hz)
    show z = ((z.toNat : Nat) : Int)
    omega
/-- a row of letters' heaps or places makes a number: bad, the first off; good, fn of the row's own members -/
def spMade (cls : Str) (fn : Nat → List Nat → Nat) (K : PySem.W.Frag) : Sp := fun vs H Q E => ∃ (l y : V) (r : Option (List V)), vs = [l, y] ∧ RowV K H y r ∧ Let K l E H fun m =>
  (∀ b, badOf ((2 ^ m - 1 : Nat) : Int) r = some b → ∀ H', Ex H H' → Er K cls [("index", .int (b : Int))] E H') ∧
  ∀ ns : List Int, r = some (ns.map V.int) → (∀ z ∈ ns, 0 ≤ z ∧ z ≤ ((2 ^ m - 1 : Nat) : Int)) → ns.length < 60 ∧ ∀ H', Ex H H' → Q (.int ((fn m (natsU ns) : Nat) : Int)) H'
theorem natsU_lt {m : Nat} {ns : List Int} (hm : m ≤ 5) (h : ∀ z ∈ ns, 0 ≤ z ∧ z ≤ ((2 ^ m - 1 : Nat) : Int)) : ∀ p ∈ natsU ns, p < 2 ^ m := fun p hp => by
  obtain ⟨z, hz, rfl⟩ := List.mem_map.mp hp
  have := h z ((uniq_mem z ns).mp hz)
  have p0 : 0 < 2 ^ m := Nat.pow_pos (by decide)
  omega
theorem natsU_len (ns : List Int) : (natsU ns).length ≤ ns.length := by
  unfold natsU
  rw [List.length_map]
  exact uniq_len ns
/-- marks of places below k are below 2^k, where no place comes twice -/
theorem markN_lt {k : Nat} : ∀ {ps : List Nat}, ps.Nodup → (∀ p ∈ ps, p < k) → markN ps < 2 ^ k := by
  induction k with
  | zero =>
    intro ps _ h
    cases ps with
    | nil => decide
    | cons p r => exact absurd (h p List.mem_cons_self) (Nat.not_lt_zero p)
  | succ k ih =>
    intro ps nd h
    by_cases c : k ∈ ps
    · have e := (List.perm_cons_erase c)
      have s : markN ps = 2 ^ k + markN (ps.erase k) := by
        unfold markN
        rw [(e.map fun p => 2 ^ p).sum_nat, List.map_cons, List.sum_cons]
      have lt := ih (nd.erase k) fun p hp => by
        have h1 := h p (List.mem_of_mem_erase hp)
        have h2 : p ≠ k := fun e => by
          subst e
          exact (List.Nodup.not_mem_erase nd) hp
        omega
      rw [s, Nat.pow_succ]
      omega
    · have lt := ih nd fun p hp => by
        have h1 := h p hp
        have h2 : p ≠ k := fun e => c (e ▸ hp)
        omega
      rw [Nat.pow_succ]
      omega
theorem natsU_nodup {ns : List Int} (h : ∀ z ∈ ns, 0 ≤ z) : (natsU ns).Nodup := by
  unfold natsU
  rw [List.nodup_iff_pairwise_ne, List.pairwise_map]
  have srt := uniq_sorted ns
  exact (List.Pairwise.and_mem.mp srt).imp fun {a b} ⟨ha, hb, lt⟩ e => by
    have := h a ((uniq_mem a ns).mp ha)
    have := h b ((uniq_mem b ns).mp hb)
    omega
theorem h_word_of (E : Ctx K mg) : Has P w K mg base 15 "word_of" ["letters", "heaps"] (spMade "BadHeap" (fun m ps => stepN m (markN ps)) K) := by
  obtain ⟨fd, F⟩ := f_word_of E
  refine ⟨⟨fd, ?_, F.bindsN fun _ _ _ _ _ _ us hl => match us, hl with | [_, _], _ => rfl⟩, g_word_of E, F.kp⟩
  refine F.ok sc_word_of (fun vs H Q E' h => ?len) (fun cdv A outer s H vs Q E' hr h => ⟨_, (pss_one (ps_ret (pe_H (h__stepped E) (hr.mono (by decide)) (takes_of rfl rfl rfl rfl) (pa_cons (pv 0) (pa_cons (pe_H (h__marks E) (hr.mono (by decide)) (takes_of rfl rfl rfl rfl) (pa_cons (pe_H (h_check_heaps E) (hr.mono (by decide)) (takes_of rfl rfl rfl rfl) (pa_cons (pv 0) (pa_cons (pv 1) pa_nil))) pa_nil)) pa_nil))))), ?rd⟩)
  case len =>
    obtain ⟨l, y, r, rfl, _⟩ := h
    rfl
  case rd =>
    obtain ⟨l, y, r, rfl, row, th, hb, hg⟩ := h
    walk_at "rd"
    refine ⟨l, y, r, rfl, row, th, hb, fun m e h1 h2 => ?_⟩
    obtain ⟨g1, g2⟩ := hg m e h1 h2
    refine ⟨g1, fun ns er bd => ?_⟩
    obtain ⟨few, gd⟩ := g2 ns er bd
    refine fun p H1 hp e1 h3 => ?_
    subst e
    have p5 : 2 ^ m ≤ 32 := Nat.le_trans (Nat.pow_le_pow_right (by decide) h2) (by decide)
    have p0 : 0 < 2 ^ m := Nat.pow_pos (by decide)
    have ll : (natsU ns).length ≤ 2 ^ m := by
      unfold natsU
      rw [List.length_map]
      exact uniq_few fun z hz => by have := bd z hz; omega
    walk_at "rd"
    refine ⟨p, natsU ns, rfl, by rw [← natsU_int fun z hz => (bd z hz).1]; exact h3, fun q hq => Nat.lt_of_lt_of_le (natsU_lt h2 bd q hq) p5, by omega, fun H2 e2 => ?_⟩
    walk_at "rd"
    exact ⟨m, _, rfl, h2, markN_lt (natsU_nodup fun z hz => (bd z hz).1) (natsU_lt h2 bd), gd H2 (e1.trans e2)⟩
/-- the places that a word holds -/
def placesN (m n : Nat) : List Nat := (List.range (2 ^ m)).filter fun p => n / 2 ^ p % 2 == 1
def spOfWord (fn : Nat → Nat → List Nat) (K : PySem.W.Frag) : Sp := fun vs H Q E => ∃ l x : V, vs = [l, x] ∧ Thg K H x ∧ Let K l E H fun m =>
  (wholeV 0 ((fullW m : Nat) : Int) x = false → Er K "BadWord" [("index", .int 0)] E H) ∧ ∀ n : Nat, x = .int n → n < 2 ^ (2 ^ m) → RetT H Q (intsL (fn m n))
theorem h_places_of (E : Ctx K mg) : Has P w K mg base 16 "places_of" ["letters", "word"] (spOfWord placesN K) := by
  obtain ⟨fd, F⟩ := f_places_of E
  refine ⟨⟨fd, ?_, F.bindsN fun _ _ _ _ _ _ us hl => match us, hl with | [_, _], _ => rfl⟩, g_places_of E, F.kp⟩
  refine F.ok sc_places_of (fun vs H Q E' h => ?len) (fun cdv A outer s H vs Q E' hr h => ⟨_, (pss_cons (ps_expr (pe_H (h_check_word E) (hr.mono (by decide)) (takes_of rfl rfl rfl rfl) (pa_cons (pv 0) (pa_cons (pv 1) pa_nil))))
 (pss_one (ps_ret (pe_callTy (kc_tup (K := K) rfl) rfl (b_tuple E) (by decide +kernel) (pa_cons (pe_lc (own := [("place", 2)]) (g := gName 2) rfl sc_places_of.nd (ki_tup (K := K) rfl (pe_H (h_all_heaps E) (hr.mono (by decide)) (takes_of rfl rfl rfl rfl) (pa_cons (pv 0) pa_nil))) (blkOk_by (own := [("place", 2)]) (N := N_places_of) (sc := defScope s_places_of) (by decide +kernel)) (fun _ _ _ _ _ => (pg_name (i := 2) sc_places_of.nd rfl (.inl rfl))) (fun _ _ _ _ _ => (pts_one (kt_truth (K := K) rfl (pe_op on_and (pe_op on_shr (pv 1) (pv 2)) pe_int) (by intro _; rfl)))) (fun _ _ _ _ _ => (pv 2))) pa_nil))))), ?rd⟩)
  case len =>
    obtain ⟨l, x, rfl, _⟩ := h
    rfl
  case rd =>
    obtain ⟨l, x, rfl, tx, th, hb, hg⟩ := h
    walk_at "rd"
    refine ⟨l, x, rfl, tx, th, hb, fun m e h1 h2 => ?_⟩
    obtain ⟨g1, g2⟩ := hg m e h1 h2
    refine ⟨fun z => ?_, fun z => g1 z⟩
    obtain ⟨n, rfl, n1, n2⟩ := whole_nat z (by decide)
    subst e
    have p5 : 2 ^ m ≤ 32 := Nat.le_trans (Nat.pow_le_pow_right (by decide) h2) (by decide)
    have p0 : 0 < 2 ^ (2 ^ m) := Nat.pow_pos (by decide)
    have nl : n < 2 ^ (2 ^ m) := by
      unfold fullW at n2
      omega
    walk_at "rd"
    refine ⟨.int (m : Int), rfl, ⟨_, th_int _⟩, (fun z => absurd z (by rw [whole_of (by omega) (by omega)]; decide)), fun m2 e h3 h4 p1 H1 hp1 e1 h5 => ?_⟩
    obtain rfl : m = m2 := by injection e with e; omega
    have el : ((intsL (List.range (2 ^ m))).map V.int).length = 2 ^ m := by simp [intsL]
    have at_ : ∀ {i : Nat} {x : V}, ((intsL (List.range (2 ^ m))).map V.int)[i]? = some x → x = .int (i : Int) ∧ i < 2 ^ m := fun {i x} hi => by
      have lt : i < 2 ^ m := by
        have := (List.getElem?_eq_some_iff.mp hi).1
        omega
      unfold intsL at hi
      rw [List.map_map, List.getElem?_map, List.getElem?_range lt] at hi
      exact ⟨(Option.some.inj hi).symm, lt⟩
    refine ⟨p1, rfl, ⟨_, st_of h5⟩, lc_tupT (fun i => n / 2 ^ i % 2 == 1) (fun i => .int (i : Int)) (st_of h5) (by rw [el]; omega) (fun _ => rfl) (fun i x H2 e2 hi H3 e3 R q => ?_) (fun i x H2 e2 hi hf H3 e3 R q => ?_) fun p2 H2 hp2 e2 h6 => ?_⟩
    · obtain ⟨rfl, lt⟩ := at_ hi
      walk_at "rd"
      rw [bne_cast, Nat.and_one_is_mod, mod_test]
      exact q _ (Ex.refl _)
    · obtain ⟨rfl, lt⟩ := at_ hi
      walk_at "rd"
      exact q _ (Ex.refl _)
    · rw [el] at h6
      walk_at "rd"
      refine ⟨p2, _, rfl, .inl ⟨sq_of h6, fun p3 hp3 => ?_⟩⟩
      refine g2 n rfl nl p3 _ (fresh_back (e1.trans e2) hp3) ((e1.trans e2).trans (Ex.new hp3)) ?_
      rw [upd_same]
      unfold given intsL placesN
      rw [List.map_map]
      rfl

end
end Lw

set_option Elab.async false
set_option linter.all false
set_option maxRecDepth 100000
set_option maxHeartbeats 4000000
namespace Lw
open PySem PySem.Spec PyProof.Rows L2 He Evl StX
local macro_rules | `(tactic| walk_at "rd") => `(tactic| (repeat first
  | with_reducible refine rd_seq ?_
  | with_reducible refine rd_asg ?_
  | with_reducible refine rd_ret ?_
  | with_reducible refine rd_next ?_
  | with_reducible refine rd_drop ?_
  | with_reducible refine rd_if ?_
  | with_reducible refine rd_ifE ?_
  | ((with_reducible refine' rd_var ?hv ?_); (case hv => rfl))
  | with_reducible refine rd_c ?_
  | with_reducible refine rd_op ?_
  | with_reducible refine rd_chain ?_
  | with_reducible refine rd_I0 ?_
  | with_reducible refine rd_test ?_
  | with_reducible refine rd_B ?_
  | with_reducible refine rd_bl ?_
  | with_reducible refine rd_not ?_
  | with_reducible refine rd_and ?_
  | with_reducible refine rd_or ?_
  | with_reducible refine rd_andV ?_
  | with_reducible refine rd_orV ?_
  | with_reducible refine rd_notV ?_
  | with_reducible refine rd_cons ?_
  | with_reducible refine rd_nil ?_
  | with_reducible refine rd_CB ?_
  | with_reducible refine rd_callS ?_
  | with_reducible refine rd_raise0 ?_
  | with_reducible refine rd_raise1 ?_
  | with_reducible refine rd_raise2 ?_
  | ((with_reducible refine' rd_eq ?hs ?_); (case hs => rfl))
  | ((with_reducible refine' rd_ne ?hs ?_); (case hs => rfl))
  | ((with_reducible refine' rd_isT ?th ?hT ?_); (case th => assumption); (case hT => decide))
  | with_reducible refine rd_tup ?_
  | with_reducible refine rd_lst ?_
  | with_reducible refine rd_iEnum ?_
  | with_reducible refine rd_iEnumA ?_
  | ((with_reducible refine' rd_ixl ?hl ?hk ?_); (case hl => assumption); (case hk => rfl))
  | with_reducible refine rd_int1 ?_
  | with_reducible refine rd_sub ?_
  | with_reducible refine rd_gcons ?_
  | with_reducible refine rd_gnil ?_
  | with_reducible refine rd_iZip ?_
  | with_reducible refine rd_BM ?_
  | with_reducible refine rd_neg ?_
  | ((with_reducible refine' rd_last ?hl ?_); (case hl => assumption))
  | with_reducible refine rd_lc2 ?_
  | with_reducible refine rd_Rg1 ?_
  | with_reducible refine rd_tupRg ?_
  | with_reducible refine rd_sl ?_
  | with_reducible refine rd_noPart ?_
  | with_reducible refine rd_part ?_
  | with_reducible refine rd_for ?_
  | with_reducible refine rd_iRev ?_
  | with_reducible refine rd_gname ?_
  | with_reducible refine rd_NN ?_
  | with_reducible refine rd_NL ?_
  | with_reducible refine rd_LN ?_
  | ((with_reducible refine' rd_shl1 ?hs ?_); (case hs => omega))
  | ((with_reducible refine' rd_I ?hs ?_); (case hs => first | omega | decide | exact ⟨by decide, by decide, by decide⟩ | exact ⟨by omega, by omega⟩))
  | with_reducible refine rd_tr ?_
  | with_reducible refine rd_trI ?_
  | with_reducible refine rd_star ?_
  | with_reducible refine rd_fmtB ?_
  | with_reducible refine rd_M1 ?_
  | with_reducible refine rd_un ?_
  | with_reducible refine rd_lc ?_
  | with_reducible refine rd_iT ?_
  | with_reducible refine rd_iL ?_
  | with_reducible refine rd_iR1 ?_
  | with_reducible refine rd_iR2 ?_
  | dsimp only [List.set, start]))
section
variable {P : Program} {w : World} {K : PySem.W.Frag} {mg : Str → Option Value} {base : Heap}

theorem word_lt {m n : Nat} (h : (n : Int) ≤ ((fullW m : Nat) : Int)) : n < 2 ^ (2 ^ m) := by
  have p0 : 0 < 2 ^ (2 ^ m) := Nat.pow_pos (by decide)
  unfold fullW at h
  omega
theorem word_le {m n : Nat} (h : n < 2 ^ (2 ^ m)) : (n : Int) ≤ ((fullW m : Nat) : Int) := by
  have p0 : 0 < 2 ^ (2 ^ m) := Nat.pow_pos (by decide)
  unfold fullW
  omega
theorem word_200 {m n : Nat} (hm : m ≤ 5) (h : n < 2 ^ (2 ^ m)) : n < 4294967296 := Nat.lt_of_lt_of_le h (Nat.le_trans (Nat.pow_le_pow_right (by decide) (Nat.pow_le_pow_right (by decide) hm)) (by decide))
theorem h_heaps_of (E : Ctx K mg) : Has P w K mg base 17 "heaps_of" ["letters", "word"] (spOfWord (fun m n => placesN m (stepN m n)) K) := by
  obtain ⟨fd, F⟩ := f_heaps_of E
  refine ⟨⟨fd, ?_, F.bindsN fun _ _ _ _ _ _ us hl => match us, hl with | [_, _], _ => rfl⟩, g_heaps_of E, F.kp⟩
  refine F.ok sc_heaps_of (fun vs H Q E' h => ?len) (fun cdv A outer s H vs Q E' hr h => ⟨_, (pss_one (ps_ret (pe_H (h_places_of E) (hr.mono (by decide)) (takes_of rfl rfl rfl rfl) (pa_cons (pv 0) (pa_cons (pe_H (h__stepped E) (hr.mono (by decide)) (takes_of rfl rfl rfl rfl) (pa_cons (pv 0) (pa_cons (pe_H (h_check_word E) (hr.mono (by decide)) (takes_of rfl rfl rfl rfl) (pa_cons (pv 0) (pa_cons (pv 1) pa_nil))) pa_nil))) pa_nil))))), ?rd⟩)
  case len =>
    obtain ⟨l, x, rfl, _⟩ := h
    rfl
  case rd =>
    obtain ⟨l, x, rfl, tx, th, hb, hg⟩ := h
    walk_at "rd"
    refine ⟨l, x, rfl, tx, th, hb, fun m e h1 h2 => ?_⟩
    obtain ⟨g1, g2⟩ := hg m e h1 h2
    refine ⟨fun z => ?_, fun z => g1 z⟩
    obtain ⟨n, rfl, n1, n2⟩ := whole_nat z (by decide)
    subst e
    have nl := word_lt n2
    walk_at "rd"
    refine ⟨m, n, rfl, h2, nl, ?_⟩
    have sl : stepN m n < 2 ^ (2 ^ m) := stepN_lt h2 nl m (Nat.le_refl m)
    walk_at "rd"
    refine ⟨.int (m : Int), .int ((stepN m n : Nat) : Int), rfl, ⟨_, th_int _⟩, ⟨_, th_int _⟩, (fun z => absurd z (by rw [whole_of (by omega) (by omega)]; decide)), fun m2 e h3 h4 => ?_⟩
    obtain rfl : m = m2 := by injection e with e; omega
    refine ⟨fun z => absurd z (by rw [whole_of (by omega) (word_le sl)]; decide), fun k ek kl => ?_⟩
    obtain rfl : stepN m n = k := by injection ek with ek; omega
    exact g2 n rfl nl
def spNumOf (fn : Nat → Nat) (K : PySem.W.Frag) : Sp := fun vs H Q E => ∃ l x : V, vs = [l, x] ∧ Thg K H x ∧ Let K l E H fun m =>
  (wholeV 0 ((fullW m : Nat) : Int) x = false → Er K "BadWord" [("index", .int 0)] E H) ∧ ∀ n : Nat, x = .int n → n < 2 ^ (2 ^ m) → Q (.int ((fn n : Nat) : Int)) H
def spValueAt (K : PySem.W.Frag) : Sp := fun vs H Q E => ∃ l x y : V, vs = [l, x, y] ∧ Thg K H x ∧ Thg K H y ∧ Let K l E H fun m =>
  (wholeV 0 ((fullW m : Nat) : Int) x = false → Er K "BadWord" [("index", .int 0)] E H) ∧
  (wholeV 0 ((fullW m : Nat) : Int) x = true → wholeV 0 ((2 ^ m - 1 : Nat) : Int) y = false → Er K "BadPlaces" [("index", .int 0)] E H) ∧
  ∀ n p : Nat, x = .int n → y = .int p → n < 2 ^ (2 ^ m) → p < 2 ^ m → Q (.int ((n / 2 ^ p % 2 : Nat) : Int)) H
def spMeets (K : PySem.W.Frag) : Sp := fun vs H Q E => ∃ l x y : V, vs = [l, x, y] ∧ Thg K H x ∧ Thg K H y ∧ Let K l E H fun m =>
  (wholeV 0 ((fullW m : Nat) : Int) x = false → Er K "BadWord" [("index", .int 0)] E H) ∧
  (wholeV 0 ((fullW m : Nat) : Int) x = true → wholeV 0 ((fullW m : Nat) : Int) y = false → Er K "BadWord" [("index", .int 0)] E H) ∧
  ∀ n k : Nat, x = .int n → y = .int k → n < 2 ^ (2 ^ m) → k < 2 ^ (2 ^ m) → Q (.bl (onesN (n &&& k) % 2 == 0)) H
end
end Lw

set_option Elab.async false
set_option linter.all false
set_option maxRecDepth 100000
set_option maxHeartbeats 4000000
namespace Lw
open PySem PySem.Spec PyProof.Rows L2 He Evl StX
local macro_rules | `(tactic| walk_at "rd") => `(tactic| (repeat first
  | with_reducible refine rd_seq ?_
  | with_reducible refine rd_asg ?_
  | with_reducible refine rd_ret ?_
  | with_reducible refine rd_next ?_
  | with_reducible refine rd_drop ?_
  | with_reducible refine rd_if ?_
  | with_reducible refine rd_ifE ?_
  | ((with_reducible refine' rd_var ?hv ?_); (case hv => rfl))
  | with_reducible refine rd_c ?_
  | with_reducible refine rd_op ?_
  | with_reducible refine rd_chain ?_
  | with_reducible refine rd_I0 ?_
  | with_reducible refine rd_test ?_
  | with_reducible refine rd_B ?_
  | with_reducible refine rd_bl ?_
  | with_reducible refine rd_not ?_
  | with_reducible refine rd_and ?_
  | with_reducible refine rd_or ?_
  | with_reducible refine rd_andV ?_
  | with_reducible refine rd_orV ?_
  | with_reducible refine rd_notV ?_
  | with_reducible refine rd_cons ?_
  | with_reducible refine rd_nil ?_
  | with_reducible refine rd_CB ?_
  | with_reducible refine rd_callS ?_
  | with_reducible refine rd_raise0 ?_
  | with_reducible refine rd_raise1 ?_
  | with_reducible refine rd_raise2 ?_
  | ((with_reducible refine' rd_eq ?hs ?_); (case hs => rfl))
  | ((with_reducible refine' rd_ne ?hs ?_); (case hs => rfl))
  | ((with_reducible refine' rd_isT ?th ?hT ?_); (case th => assumption); (case hT => decide))
  | with_reducible refine rd_tup ?_
  | with_reducible refine rd_lst ?_
  | with_reducible refine rd_iEnum ?_
  | with_reducible refine rd_iEnumA ?_
  | ((with_reducible refine' rd_ixl ?hl ?hk ?_); (case hl => assumption); (case hk => rfl))
  | with_reducible refine rd_int1 ?_
  | with_reducible refine rd_sub ?_
  | with_reducible refine rd_gcons ?_
  | with_reducible refine rd_gnil ?_
  | with_reducible refine rd_iZip ?_
  | with_reducible refine rd_BM ?_
  | with_reducible refine rd_neg ?_
  | ((with_reducible refine' rd_last ?hl ?_); (case hl => assumption))
  | with_reducible refine rd_lc2 ?_
  | with_reducible refine rd_Rg1 ?_
  | with_reducible refine rd_tupRg ?_
  | with_reducible refine rd_sl ?_
  | with_reducible refine rd_noPart ?_
  | with_reducible refine rd_part ?_
  | with_reducible refine rd_for ?_
  | with_reducible refine rd_iRev ?_
  | with_reducible refine rd_gname ?_
  | with_reducible refine rd_NN ?_
  | with_reducible refine rd_NL ?_
  | with_reducible refine rd_LN ?_
  | ((with_reducible refine' rd_shl1 ?hs ?_); (case hs => omega))
  | ((with_reducible refine' rd_I ?hs ?_); (case hs => first | omega | decide | exact ⟨by decide, by decide, by decide⟩ | exact ⟨by omega, by omega⟩))
  | with_reducible refine rd_tr ?_
  | with_reducible refine rd_trI ?_
  | with_reducible refine rd_star ?_
  | with_reducible refine rd_fmtB ?_
  | with_reducible refine rd_M1 ?_
  | with_reducible refine rd_un ?_
  | with_reducible refine rd_lc ?_
  | with_reducible refine rd_iT ?_
  | with_reducible refine rd_iL ?_
  | with_reducible refine rd_iR1 ?_
  | with_reducible refine rd_iR2 ?_
  | dsimp only [List.set, start]))
section
variable {P : Program} {w : World} {K : PySem.W.Frag} {mg : Str → Option Value} {base : Heap}

def tTryAs (K : PySem.W.Frag) (c : Value) (i : Nat) (ts : Addr → Value → Option Addr → TS) (Wout : WX) (tb : WX → TS) : TS := fun D σ H => tb (wAs K c i ts Wout D) D σ H
theorem rd_tryAs {σ : L2.St} {H : Hp} {D : Ends} {c : Value} {i : Nat} {ts : Addr → Value → Option Addr → TS} {Wout : WX} {tb : WX → TS} (h : tb (wAs K c i ts Wout D) D σ H) : tTryAs K c i ts Wout tb D σ H := h
section
variable {X : Cx} {x n : Str} {c : Value} {i : Nat} {body suite : List Stmt} {b₀ : Stmt} {np pos pos' : Pos} {tb : WX → TS} {ts : Addr → Value → Option Addr → TS} {Wout : WX}
theorem kts_try_as (h : X.K = K) (hs : X.stack = X.env :: X.outer) (hf : X.env.frame = some X.env.locals) (hN : X.N.Nodup) (hi : X.N[i]? = some n) (hln : X.env.kindOf n = some .local) (hc : Names X x c) (tk : L2N.Takes X Wout)
    (hb : ∀ (W : WX) (pn : List (Addr × Obj)) (xe : Value → Shared → Prop), L2N.Takes (X.tr pn xe) W → PassesOwn (model X.prog X.w) X.A X.env xe → PSs (X.tr pn xe) body (tb W))
    (hsu : ∀ (a : Addr) (oe : Obj) (cls : Value) (d : Option Addr) (pn : List (Addr × Obj)), L2N.Zn cls d oe → (∃ vs, oe.data = .fields vs) → PSs (X.suite a ((a, oe) :: pn)) (b₀ :: suite) (ts a cls d)) :
    PS X (.Try body [.ExceptHandler (some (.Name x np)) (some n) (b₀ :: suite) pos'] [] [] pos) (tTryAs K c i ts Wout tb) := h ▸ L2N.ps_try_as hs hf hN hi hln hc tk hb hsu
end
theorem mem_natsU {ns : List Int} (h : ∀ z ∈ ns, 0 ≤ z) (p : Nat) : p ∈ natsU ns ↔ (p : Int) ∈ ns := by
  unfold natsU
  rw [List.mem_map]
  constructor
  · rintro ⟨z, hz, rfl⟩
    have hz2 := (uniq_mem z ns).mp hz
    rw [Int.toNat_of_nonneg (h z hz2)]
    exact hz2
  · intro hp
    exact ⟨(p : Int), (uniq_mem _ ns).mpr hp, by simp⟩
theorem natsU_sorted {ns : List Int} (h : ∀ z ∈ ns, 0 ≤ z) : (natsU ns).Pairwise (· < ·) := by
  unfold natsU
  rw [List.pairwise_map]
  have srt := uniq_sorted ns
  exact (List.Pairwise.and_mem.mp srt).imp fun {a b} ⟨ha, hb, lt⟩ => by
    have := h a ((uniq_mem a ns).mp ha)
    have := h b ((uniq_mem b ns).mp hb)
    omega
theorem letGood {K : PySem.W.Frag} {m : Nat} {E : XK} {H : Hp} {A : Nat → Prop} (h1 : 1 ≤ m) (h2 : m ≤ 5) (a : A m) : Let K (.int (m : Int)) E H A := ⟨⟨_, th_int _⟩, (fun z => absurd z (by rw [whole_of (by omega) (by omega)]; decide)), fun m2 e _ _ => by
  obtain rfl : m = m2 := by injection e with e; omega
  exact a⟩
theorem whole_in {lo hi z : Int} (h1 : lo ≤ z) (h2 : z ≤ hi) : wholeV lo hi (.int z) = true := by
  show (decide (lo ≤ z) && decide (z ≤ hi)) = true
  rw [decide_eq_true h1, decide_eq_true h2]
  rfl
theorem in_off {hi : Int} {ns : List Int} (h : ∀ z ∈ ns, 0 ≤ z ∧ z ≤ hi) : firstOff hi (ns.map V.int) = none := firstOff_none fun k _ y hy => by
  rw [List.getElem?_map] at hy
  cases e : ns[k]? with
  | none => rw [e] at hy; cases hy
  | some z =>
    rw [e] at hy
    obtain rfl : V.int z = y := Option.some.inj hy
    obtain ⟨a, b⟩ := h z (List.mem_of_getElem? e)
    exact whole_in a b
theorem ints_odd {K : PySem.W.Frag} {H : Hp} {ns : List Int} : ∀ x ∈ ns.map V.int, Odd K H x := fun x hx => by
  obtain ⟨z, _, rfl⟩ := List.mem_map.mp hx
  exact odd_int z
theorem in_ints (l : List Int) (a : Int) : inV (.int a) (l.map V.int) = l.any (fun y => y == a) := by
  unfold inV
  rw [List.any_map]
  rfl
theorem flat_ints (l : List Int) : (l.map V.int).all flatV = true := by
  rw [List.all_map]
  exact List.all_eq_true.mpr fun _ _ => rfl
theorem any_nats (l : List Nat) (n : Nat) : (intsL l).any (fun y => y == (n : Int)) = decide (n ∈ l) := by
  by_cases h : n ∈ l
  · rw [decide_eq_true h, List.any_eq_true]
    exact ⟨(n : Int), List.mem_map.mpr ⟨n, h, rfl⟩, by simp⟩
  · rw [decide_eq_false h, List.any_eq_false]
    intro y hy e
    obtain ⟨p, hp, rfl⟩ := List.mem_map.mp hy
    have ep : p = n := by have := of_decide_eq_true e; omega
    exact h (ep ▸ hp)
def fsC (m : Nat) (l : Addr) : List (Str × V) := [("letters", .int (m : Int)), ("heaps", .ref l)]
/-- at c: the choice of m letters with the heaps ns -/
structure Ch (K : PySem.W.Frag) (H : Hp) (c : Addr) (m : Nat) (ns : List Nat) : Prop where
  m1 : 1 ≤ m
  m5 : m ≤ 5
  srt : ns.Pairwise (· < ·)
  lt : ∀ p ∈ ns, p < 2 ^ m
  at_ : ∃ dx l, H c = some (.ins (ga K "Choice") dx (fsC m l)) ∧ H l = some (.tup ((intsL ns).map V.int))
theorem Ch.ex {K : PySem.W.Frag} {H H' : Hp} {c : Addr} {m : Nat} {ns : List Nat} (h : Ch K H c m ns) (e : Ex H H') : Ch K H' c m ns :=
  ⟨h.m1, h.m5, h.srt, h.lt, let ⟨dx, l, h1, h2⟩ := h.at_; ⟨dx, l, e _ _ h1, e _ _ h2⟩⟩
theorem Ch.p5 {K : PySem.W.Frag} {H : Hp} {c : Addr} {m : Nat} {ns : List Nat} (h : Ch K H c m ns) : 2 ^ m ≤ 32 := Nat.le_trans (Nat.pow_le_pow_right (by decide) h.m5) (by decide)
theorem rd_fld {K : PySem.W.Frag} {σ : L2.St} {H : Hp} {Q : VK} {te : TE} {f : Str} (h : te σ H fun x H1 => ∃ a C dx fs v, x = .ref a ∧ H1 a = some (.ins C dx fs) ∧ Cls K C ∧ NoAttr K C f ∧ fs.lookup f = some v ∧ Q v H1) : tFld K te f σ H Q := h
theorem rd_sfld {K : PySem.W.Frag} {σ : L2.St} {H : Hp} {D : Ends} {ta tv : TE} {f : Str} (h : tv σ H fun y H1 => ta σ H1 fun x H2 => ∃ a C dx fs, x = .ref a ∧ H2 a = some (.ins C dx fs) ∧ Cls K C ∧ NoAttr K C f ∧ fs.length < 1000 ∧ D.nx σ (upd H2 a (.ins C dx (putF f y fs)))) : sFld K ta tv f D σ H := h
theorem ch_letters (E : Ctx K mg) {H : Hp} {R : V → Prop} {c : Addr} {m : Nat} {ns : List Nat} (h : Ch K H c m ns) (q : R (.int (m : Int))) : ∃ a C dx fs v, V.ref c = .ref a ∧ H a = some (.ins C dx fs) ∧ Cls K C ∧ NoAttr K C "letters" ∧ fs.lookup ("letters" : Str) = some v ∧ R v := by
  obtain ⟨dx, l, h1, h2⟩ := h.at_
  exact ⟨c, _, dx, _, _, rfl, h1, c_Choice E, na_Choice_letters E, rfl, q⟩
theorem look_heaps (m : Nat) (l : Addr) : (fsC m l).lookup ("heaps" : Str) = some (.ref l) := by
  have h : (("heaps" : Str) == ("letters" : Str)) = false := by decide +kernel
  simp [fsC, List.lookup, h]
theorem ch_heaps (E : Ctx K mg) {H : Hp} {R : V → Prop} {c : Addr} {m : Nat} {ns : List Nat} (h : Ch K H c m ns) (q : ∀ l, H l = some (.tup ((intsL ns).map V.int)) → R (.ref l)) : ∃ a C dx fs v, V.ref c = .ref a ∧ H a = some (.ins C dx fs) ∧ Cls K C ∧ NoAttr K C "heaps" ∧ fs.lookup ("heaps" : Str) = some v ∧ R v := by
  obtain ⟨dx, l, h1, h2⟩ := h.at_
  exact ⟨c, _, dx, _, _, rfl, h1, c_Choice E, na_Choice_heaps E, look_heaps m l, q l h2⟩
def spInit (K : PySem.W.Frag) : Sp := fun vs H Q _ => ∃ (a dx : Addr) (m : Nat) (y : V) (ns : List Int), vs = [.ref a, .int (m : Int), y] ∧ (1 ≤ m ∧ m ≤ 5) ∧ H a = some (.ins (ga K "Choice") dx []) ∧ RowV K H y (some (ns.map V.int)) ∧ (∀ z ∈ ns, 0 ≤ z ∧ z ≤ ((2 ^ m - 1 : Nat) : Int)) ∧
  ∀ l H1, Ex H H1 → H l = none → H1 l = some (.tup ((uniq ns).map V.int)) → Q .non (upd H1 a (.ins (ga K "Choice") dx (fsC m l)))
theorem put2 (y z : V) : putF ("heaps" : Str) z [(("letters" : Str), y)] = [(("letters" : Str), y), (("heaps" : Str), z)] := by
  unfold putF
  rw [if_neg (by decide +kernel)]
  rfl
theorem hm_Choice___init__ (E : Ctx K mg) : MakO P w K mg base 9 "Choice" ["self", "letters", "heaps"] (spInit K) := by
  obtain ⟨fd, F⟩ := f_Choice___init__ E
  refine ⟨⟨fd, ?_, F.bindsN fun _ _ _ _ _ _ us hl => match us, hl with | [_, _, _], _ => rfl⟩, mkr_Choice E, g_Choice E⟩
  refine F.ok sc_Choice___init__ (fun vs H Q E' h => ?len) (fun cdv A outer s H vs Q E' hr h => ⟨_, (pss_cons (ps_if (pt_not (pt_val (pe_H (h_is_whole E) (hr.mono (by decide)) (takes_of rfl rfl rfl rfl) (pa_cons (pv 1) (pa_cons pe_int (pa_cons (pe_glob (v := .int 5) rfl (k_MOST_LETTERS E).choose_spec ⟨_, rfl⟩) pa_nil))))))
 (pss_one ps_dead)
 pss_nil)
 (pss_cons (kts_try_as (K := K) rfl (i := 4) rfl rfl sc_Choice___init__.nd rfl rfl ⟨rfl, by decide, .inl (g_BadHeap E)⟩ (takes_of rfl rfl rfl rfl) (fun W pn xe tk _ => (pss_one (ps_set (i := 3) sc_Choice___init__.nd rfl (.inl rfl) (pe_H (h_check_heaps E) (hr.mono (by decide)) tk (pa_cons (pv 1) (pa_cons (pv 2) pa_nil)))))) (fun a oe cls d pn hz hf => (pss_one ps_dead)))
 (pss_cons (ksfld (K := K) rfl (pv 0) (pv 1))
 (pss_one (ksfld (K := K) rfl (pv 0) (pv 3)))))), ?rd⟩)
  case len =>
    obtain ⟨a, dx, m, y, ns, rfl, _⟩ := h
    rfl
  case rd =>
    obtain ⟨a, dx, m, y, ns, rfl, ⟨m1, m5⟩, ha, row, bd, q⟩ := h
    walk_at "rd"
    refine ⟨.int (m : Int), 1, 5, rfl, ⟨_, th_int _⟩, ?_⟩
    rw [whole_of (by omega) (by omega)]
    refine ⟨true, rfl, (fun z => nomatch z), fun _ => ?_⟩
    walk_at "rd"
    refine rd_tryAs ?_
    walk_at "rd"
    refine ⟨.int (m : Int), y, _, rfl, row, letGood m1 m5 ⟨fun b eb => absurd ((in_off bd).symm.trans eb) nofun, fun ns2 en _ l H1 hl e1 h1 => ?_⟩⟩
    obtain rfl : ns = ns2 := (List.map_inj_right fun _ _ h => V.int.inj h).mp (Option.some.inj en)
    walk_at "rd"
    refine rd_sfld ?_
    walk_at "rd"
    refine ⟨a, _, dx, [], rfl, e1 _ _ ha, c_Choice E, na_Choice_letters E, by decide, ?_⟩
    dsimp only
    refine rd_sfld ?_
    walk_at "rd"
    refine ⟨a, _, dx, _, rfl, upd_same, c_Choice E, na_Choice_heaps E, by show 1 < 1000; decide, ?_⟩
    rw [upd_upd]
    exact (put2 (.int (m : Int)) (.ref l)) ▸ q l H1 e1 hl h1
theorem nat_eq (a b : Nat) : decide (V.int (a : Int) = V.int (b : Int)) = decide (a = b) := by
  by_cases e : a = b
  · rw [e, decide_eq_true rfl, decide_eq_true rfl]
  · rw [decide_eq_false e, decide_eq_false fun z => e (by injection z with z; omega)]
/-- x is one of the heaps -/
def inC (ns : List Nat) : V → Bool
  | .int z => (intsL ns).any fun y => y == z
  | _ => false
def spIn (K : PySem.W.Frag) : Sp := fun vs H Q _ => ∃ (c : Addr) (m : Nat) (ns : List Nat) (x : V), vs = [.ref c, x] ∧ Ch K H c m ns ∧ Thg K H x ∧ Q (.bl (inC ns x)) H
theorem hm_Choice___contains__ (E : Ctx K mg) : HasM P w K mg base 9 (ga K "Choice") "__contains__" ["self", "heap"] (spIn K) := by
  obtain ⟨fd, F⟩ := f_Choice___contains__ E
  refine ⟨⟨fd, ?_, F.bindsN fun _ _ _ _ _ _ us hl => match us, hl with | [_, _], _ => rfl⟩, me_Choice___contains__ E, c_Choice E⟩
  refine F.ok sc_Choice___contains__ (fun vs H Q E' h => ?len) (fun cdv A outer s H vs Q E' hr h => ⟨_, (pss_one (ps_ret (pe_and (pe_H (h_is_whole E) (hr.mono (by decide)) (takes_of rfl rfl rfl rfl) (pa_cons (pv 1) (pa_cons pe_int (pa_cons (pe_H (h_all_letters E) (hr.mono (by decide)) (takes_of rfl rfl rfl rfl) (pa_cons (kfld (K := K) rfl (pv 0)) pa_nil)) pa_nil)))) (pe_one (pe_cmpR (ko_in (K := K) rfl) (pv 1) (kfld (K := K) rfl (pv 0)) (by with_unfolding_all rfl)))))), ?rd⟩)
  case len =>
    obtain ⟨c, m, ns, x, rfl, _⟩ := h
    rfl
  case rd =>
    obtain ⟨c, m, ns, x, rfl, ch, tx, q⟩ := h
    have p5 := ch.p5
    have p0 : 0 < 2 ^ m := Nat.pow_pos (by decide)
    walk_at "rd"
    refine rd_fld ?_
    walk_at "rd"
    refine ch_letters E ch ?_
    walk_at "rd"
    refine ⟨.int (m : Int), rfl, letGood ch.m1 ch.m5 ?_⟩
    walk_at "rd"
    refine ⟨x, 0, _, rfl, tx, ?_⟩
    refine ⟨_, rfl, fun z => ?_, fun z => ?_⟩
    · obtain ⟨n, rfl, _, _⟩ := whole_nat z (by omega)
      refine rd_op ?_
      walk_at "rd"
      refine rd_fld ?_
      walk_at "rd"
      refine ch_heaps E ch fun l hl => ?_
      refine ⟨l, _, rfl, .inr (st_of hl), rfl, flat_ints _, ?_⟩
      rw [if_neg Bool.false_ne_true, in_ints]
      exact q
    · have e : inC ns x = false := by
        cases x with
        | int i =>
          unfold inC
          rw [List.any_eq_false]
          intro y hy e
          obtain ⟨p, hp, rfl⟩ := List.mem_map.mp hy
          have := ch.lt p hp
          have e2 : (p : Int) = i := of_decide_eq_true e
          rw [← e2, whole_of (by omega) (by omega)] at z
          cases z
        | _ => rfl
      rw [e] at q
      exact q
def spEq (K : PySem.W.Frag) : Sp := fun vs H Q _ => ∃ (c d : Addr) (m m2 : Nat) (ns ns2 : List Nat), vs = [.ref c, .ref d] ∧ Ch K H c m ns ∧ Ch K H d m2 ns2 ∧ Q (.bl (decide (m = m2) && decide (ns = ns2))) H
theorem ints_inj {a b : List Nat} : (intsL a = intsL b) = (a = b) := propext ⟨fun h => by
  have := congrArg (List.map Int.toNat) h
  unfold intsL at this
  rw [List.map_map, List.map_map] at this
  have e : (Int.toNat ∘ fun (n : Nat) => (n : Int)) = id := funext fun n => by simp
  rw [e, List.map_id, List.map_id] at this
  exact this, fun h => by rw [h]⟩
theorem hm_Choice___eq__ (E : Ctx K mg) : HasM P w K mg base 9 (ga K "Choice") "__eq__" ["self", "other"] (spEq K) := by
  obtain ⟨fd, F⟩ := f_Choice___eq__ E
  refine ⟨⟨fd, ?_, F.bindsN fun _ _ _ _ _ _ us hl => match us, hl with | [_, _], _ => rfl⟩, me_Choice___eq__ E, c_Choice E⟩
  refine F.ok sc_Choice___eq__ (fun vs H Q E' h => ?len) (fun cdv A outer s H vs Q E' hr h => ⟨_, (pss_one (ps_ret (pe_and (pe_callB (kc_isC (K := K) rfl (insB_ok (c_Choice E) (w_ins_Choice E))) rfl (b_isinstance E) (by decide +kernel) (pa_cons (pv 1) (pa_cons (pe_glob rfl (g_Choice E) (v := .ref (ga K "Choice")) rfl) pa_nil))) (pe_and (pe_cmpR op_eq (kfld (K := K) rfl (pv 0)) (kfld (K := K) rfl (pv 1)) (nomark _)) (pe_one (pe_cmpR (ko_eqD hr (K := K) rfl) (kfld (K := K) rfl (pv 0)) (kfld (K := K) rfl (pv 1)) (nomark _))))))), ?rd⟩)
  case len =>
    obtain ⟨c, d, m, m2, ns, ns2, rfl, _⟩ := h
    rfl
  case rd =>
    obtain ⟨c, d, m, m2, ns, ns2, rfl, ch, ch2, q⟩ := h
    walk_at "rd"
    obtain ⟨dx, l, h1, h2⟩ := id ch2.at_
    refine ⟨d, dx, _, rfl, h1, ?_⟩
    refine ⟨true, rfl, fun _ => ?_, (fun z => nomatch z)⟩
    walk_at "rd"
    refine rd_fld ?_
    walk_at "rd"
    refine ch_letters E ch ?_
    walk_at "rd"
    refine rd_fld ?_
    walk_at "rd"
    refine ch_letters E ch2 ?_
    walk_at "rd"
    rw [nat_eq]
    refine ⟨fun z => ?_, fun z => ?_⟩
    · rw [z, Bool.true_and] at q
      walk_at "rd"
      refine rd_fld ?_
      walk_at "rd"
      refine ch_heaps E ch fun l1 hl1 => ?_
      walk_at "rd"
      refine rd_fld ?_
      walk_at "rd"
      refine ch_heaps E ch2 fun l2 hl2 => ?_
      refine rd_eqT (a := intsL ns) (b := intsL ns2) (st_of hl1) (st_of hl2) ?_
      rw [show decide (intsL ns = intsL ns2) = decide (ns = ns2) from decide_eq_decide.mpr (by rw [ints_inj])]
      exact q
    · rw [z, Bool.false_and] at q
      exact q
theorem walkC (E : Ctx K mg) : WalkC K (ga K "Choice") (ma K (ga K "Choice") "__iter__") := ⟨c_Choice E, (me_Choice___iter__ E).at_, (me_Choice___iter__ E).fn⟩
theorem itB (E : Ctx K mg) : IterBody P w K mg base 1 (ga K "Choice") (ma K (ga K "Choice") "__iter__") "heaps" := by
  intro A outer s H a dx l fs zs hr e0 ea el sq
  obtain ⟨fd, F⟩ := f_Choice___iter__ E
  have b : Binds K fd ["self"] [] := F.bindsN fun _ _ _ _ _ _ us hl => match us, hl with | [_], _ => rfl
  have kin : K.In s.heap := e0.mod.kin.keeps fun b o e => (e0.bs b o e).1
  have b2 := b s [.ref a] kin rfl
  rw [List.append_nil] at b2
  refine run_at F sc_Choice___iter__ hr e0 b2 (Paired.cons (show RelV (V.ref a) (Value.ref a) from rfl) Paired.nil) rfl fun cdv hr2 => ⟨_, pss_one (ps_ret (pe_callB call_iterT rfl (b_iter E) (by decide +kernel) (pa_cons (kfld (K := K) rfl (pv 0)) pa_nil))), ?_⟩
  exact ⟨.ref a, rfl, a, _, dx, fs, .ref l, rfl, ea, c_Choice E, na_Choice_heaps E, el, l, zs, rfl, sq, fun it hn hle => ⟨it, rfl, hn, hle, rfl⟩⟩

end
end Lw

set_option Elab.async false
set_option linter.all false
set_option maxRecDepth 100000
set_option maxHeartbeats 4000000
namespace Lw
open PySem PySem.Spec PyProof.Rows L2 He Evl StX
local macro_rules | `(tactic| walk_at "rd") => `(tactic| (repeat first
  | with_reducible refine rd_seq ?_
  | with_reducible refine rd_asg ?_
  | with_reducible refine rd_ret ?_
  | with_reducible refine rd_next ?_
  | with_reducible refine rd_drop ?_
  | with_reducible refine rd_if ?_
  | with_reducible refine rd_ifE ?_
  | ((with_reducible refine' rd_var ?hv ?_); (case hv => rfl))
  | with_reducible refine rd_c ?_
  | with_reducible refine rd_op ?_
  | with_reducible refine rd_chain ?_
  | with_reducible refine rd_I0 ?_
  | with_reducible refine rd_test ?_
  | with_reducible refine rd_B ?_
  | with_reducible refine rd_bl ?_
  | with_reducible refine rd_not ?_
  | with_reducible refine rd_and ?_
  | with_reducible refine rd_or ?_
  | with_reducible refine rd_andV ?_
  | with_reducible refine rd_orV ?_
  | with_reducible refine rd_notV ?_
  | with_reducible refine rd_cons ?_
  | with_reducible refine rd_nil ?_
  | with_reducible refine rd_CB ?_
  | with_reducible refine rd_callS ?_
  | with_reducible refine rd_raise0 ?_
  | with_reducible refine rd_raise1 ?_
  | with_reducible refine rd_raise2 ?_
  | ((with_reducible refine' rd_eq ?hs ?_); (case hs => rfl))
  | ((with_reducible refine' rd_ne ?hs ?_); (case hs => rfl))
  | ((with_reducible refine' rd_isT ?th ?hT ?_); (case th => assumption); (case hT => decide))
  | with_reducible refine rd_tup ?_
  | with_reducible refine rd_lst ?_
  | with_reducible refine rd_iEnum ?_
  | with_reducible refine rd_iEnumA ?_
  | ((with_reducible refine' rd_ixl ?hl ?hk ?_); (case hl => assumption); (case hk => rfl))
  | with_reducible refine rd_int1 ?_
  | with_reducible refine rd_sub ?_
  | with_reducible refine rd_gcons ?_
  | with_reducible refine rd_gnil ?_
  | with_reducible refine rd_iZip ?_
  | with_reducible refine rd_BM ?_
  | with_reducible refine rd_neg ?_
  | ((with_reducible refine' rd_last ?hl ?_); (case hl => assumption))
  | with_reducible refine rd_lc2 ?_
  | with_reducible refine rd_Rg1 ?_
  | with_reducible refine rd_tupRg ?_
  | with_reducible refine rd_sl ?_
  | with_reducible refine rd_noPart ?_
  | with_reducible refine rd_part ?_
  | with_reducible refine rd_for ?_
  | with_reducible refine rd_iRev ?_
  | with_reducible refine rd_gname ?_
  | with_reducible refine rd_NN ?_
  | with_reducible refine rd_NL ?_
  | with_reducible refine rd_LN ?_
  | ((with_reducible refine' rd_shl1 ?hs ?_); (case hs => omega))
  | ((with_reducible refine' rd_I ?hs ?_); (case hs => first | omega | decide | exact ⟨by decide, by decide, by decide⟩ | exact ⟨by omega, by omega⟩))
  | with_reducible refine rd_tr ?_
  | with_reducible refine rd_trI ?_
  | with_reducible refine rd_star ?_
  | with_reducible refine rd_fmtB ?_
  | with_reducible refine rd_M1 ?_
  | with_reducible refine rd_un ?_
  | with_reducible refine rd_lc ?_
  | with_reducible refine rd_iT ?_
  | with_reducible refine rd_iL ?_
  | with_reducible refine rd_iR1 ?_
  | with_reducible refine rd_iR2 ?_
  | dsimp only [List.set, start]))
section
variable {P : Program} {w : World} {K : PySem.W.Frag} {mg : Str → Option Value} {base : Heap}

def spSize (K : PySem.W.Frag) : Sp := fun vs H Q _ => ∃ (c : Addr) (m : Nat) (ns : List Nat), vs = [.ref c] ∧ Ch K H c m ns ∧ Q (.int (ns.length : Int)) H
theorem hp_Choice_size (E : Ctx K mg) : HasPr P w K mg base 3 (ga K "Choice") "size" (spSize K) := by
  obtain ⟨fd, F, pr⟩ := pf_Choice_size E
  refine ⟨⟨fd, ?_, F.bindsN fun _ _ _ _ _ _ us hl => match us, hl with | [_], _ => rfl⟩, pr, c_Choice E⟩
  refine F.ok sc_Choice_size (fun vs H Q E' h => ?len) (fun cdv A outer s H vs Q E' hr h => ⟨_, (pss_one (ps_ret (pe_callB (kc_len (K := K) rfl) rfl (b_len E) (by decide +kernel) (pa_cons (kfld (K := K) rfl (pv 0)) pa_nil)))), ?rd⟩)
  case len =>
    obtain ⟨c, m, ns, rfl, _⟩ := h
    rfl
  case rd =>
    obtain ⟨c, m, ns, rfl, ch, q⟩ := h
    walk_at "rd"
    refine rd_fld ?_
    walk_at "rd"
    refine ch_heaps E ch fun l hl => ?_
    walk_at "rd"
    refine ⟨l, _, rfl, .inr (st_of hl), ?_⟩
    rw [show ((intsL ns).map V.int).length = ns.length by simp [intsL]]
    exact q

end
end Lw

set_option Elab.async false
set_option linter.all false
set_option maxRecDepth 100000
set_option maxHeartbeats 4000000
namespace Lw
open PySem PySem.Spec PyProof.Rows L2 He Evl StX
local macro_rules | `(tactic| walk_at "rd") => `(tactic| (repeat first
  | with_reducible refine rd_seq ?_
  | with_reducible refine rd_asg ?_
  | with_reducible refine rd_ret ?_
  | with_reducible refine rd_next ?_
  | with_reducible refine rd_drop ?_
  | with_reducible refine rd_if ?_
  | with_reducible refine rd_ifE ?_
  | ((with_reducible refine' rd_var ?hv ?_); (case hv => rfl))
  | with_reducible refine rd_c ?_
  | with_reducible refine rd_op ?_
  | with_reducible refine rd_chain ?_
  | with_reducible refine rd_I0 ?_
  | with_reducible refine rd_test ?_
  | with_reducible refine rd_B ?_
  | with_reducible refine rd_bl ?_
  | with_reducible refine rd_not ?_
  | with_reducible refine rd_and ?_
  | with_reducible refine rd_or ?_
  | with_reducible refine rd_andV ?_
  | with_reducible refine rd_orV ?_
  | with_reducible refine rd_notV ?_
  | with_reducible refine rd_cons ?_
  | with_reducible refine rd_nil ?_
  | with_reducible refine rd_CB ?_
  | with_reducible refine rd_callS ?_
  | with_reducible refine rd_raise0 ?_
  | with_reducible refine rd_raise1 ?_
  | with_reducible refine rd_raise2 ?_
  | ((with_reducible refine' rd_eq ?hs ?_); (case hs => rfl))
  | ((with_reducible refine' rd_ne ?hs ?_); (case hs => rfl))
  | ((with_reducible refine' rd_isT ?th ?hT ?_); (case th => assumption); (case hT => decide))
  | with_reducible refine rd_tup ?_
  | with_reducible refine rd_lst ?_
  | with_reducible refine rd_iEnum ?_
  | with_reducible refine rd_iEnumA ?_
  | ((with_reducible refine' rd_ixl ?hl ?hk ?_); (case hl => assumption); (case hk => rfl))
  | with_reducible refine rd_int1 ?_
  | with_reducible refine rd_sub ?_
  | with_reducible refine rd_gcons ?_
  | with_reducible refine rd_gnil ?_
  | with_reducible refine rd_iZip ?_
  | with_reducible refine rd_BM ?_
  | with_reducible refine rd_neg ?_
  | ((with_reducible refine' rd_last ?hl ?_); (case hl => assumption))
  | with_reducible refine rd_lc2 ?_
  | with_reducible refine rd_Rg1 ?_
  | with_reducible refine rd_tupRg ?_
  | with_reducible refine rd_sl ?_
  | with_reducible refine rd_noPart ?_
  | with_reducible refine rd_part ?_
  | with_reducible refine rd_for ?_
  | with_reducible refine rd_iRev ?_
  | with_reducible refine rd_gname ?_
  | with_reducible refine rd_NN ?_
  | with_reducible refine rd_NL ?_
  | with_reducible refine rd_LN ?_
  | ((with_reducible refine' rd_shl1 ?hs ?_); (case hs => omega))
  | ((with_reducible refine' rd_I ?hs ?_); (case hs => first | omega | decide | exact ⟨by decide, by decide, by decide⟩ | exact ⟨by omega, by omega⟩))
  | with_reducible refine rd_tr ?_
  | with_reducible refine rd_trI ?_
  | with_reducible refine rd_star ?_
  | with_reducible refine rd_fmtB ?_
  | with_reducible refine rd_M1 ?_
  | with_reducible refine rd_un ?_
  | with_reducible refine rd_lc ?_
  | with_reducible refine rd_iT ?_
  | with_reducible refine rd_iL ?_
  | with_reducible refine rd_iR1 ?_
  | with_reducible refine rd_iR2 ?_
  | dsimp only [List.set, start]))
section
variable {P : Program} {w : World} {K : PySem.W.Frag} {mg : Str → Option Value} {base : Heap}

theorem nat_at {l : List Nat} {i : Nat} {x : V} (h : ((intsL l).map V.int)[i]? = some x) : ∃ n, l[i]? = some n ∧ x = .int (n : Int) := by
  unfold intsL at h
  rw [List.map_map, List.getElem?_map] at h
  cases e : l[i]? with
  | none => rw [e] at h; cases h
  | some n => rw [e] at h; exact ⟨n, rfl, (Option.some.inj h).symm⟩
def spCheckNumber (K : PySem.W.Frag) : Sp := fun vs H Q E => ∃ (x : V) (m : Int), vs = [x, .int m] ∧ Thg K H x ∧ Chk (wholeV 0 m x) (Q x H) (Er K "BadNumber" [("most", .int m)] E H)
theorem h_check_number (E : Ctx K mg) : Has P w K mg base 14 "check_number" ["number", "most"] (spCheckNumber K) := by
  obtain ⟨fd, F⟩ := f_check_number E
  refine ⟨⟨fd, ?_, F.bindsN fun _ _ _ _ _ _ us hl => match us, hl with | [_, _], _ => rfl⟩, g_check_number E, F.kp⟩
  refine F.ok sc_check_number (fun vs H Q E' h => ?len) (fun cdv A outer s H vs Q E' hr h => ⟨_, (pss_cons (ps_if (pt_not (pt_val (pe_H (h_is_whole E) (hr.mono (by decide)) (takes_of rfl rfl rfl rfl) (pa_cons (pv 0) (pa_cons pe_int (pa_cons (pv 1) pa_nil))))))
 (pss_one (ps_raise1 rfl (takes_of rfl rfl rfl rfl) (i_BadNumber E) (hr.mono (by decide)) (pv 1)))
 pss_nil)
 (pss_one (ps_ret (pv 0)))), ?rd⟩)
  case len =>
    obtain ⟨x, m, rfl, _⟩ := h
    rfl
  case rd =>
    obtain ⟨x, m, rfl, tx, hg⟩ := h
    walk_at "rd"
    refine ⟨x, 0, m, rfl, tx, ?_⟩
    walk_at "rd"
    refine ⟨fun z => ?_, fun z => ?_⟩
    · walk_at "rd"
      exact rd_mk1 (hg.2 (not_true z))
    · walk_at "rd"
      exact hg.1 (not_false z)
theorem find_at {α : Type} {f : α → Bool} {a : α} : ∀ {l : List α} {i : Nat}, l[i]? = some a → f a = true → (∀ (k : Nat) (x : α), k < i → l[k]? = some x → f x = false) → l.find? f = some a
  | [], i, h, _, _ => by cases h
  | y :: l, 0, h, t, _ => by
    obtain rfl := Option.some.inj h
    exact List.find?_cons_of_pos t
  | y :: l, i + 1, h, t, b => by
    rw [List.find?_cons_of_neg (by rw [b 0 y (Nat.succ_pos i) rfl]; exact Bool.false_ne_true)]
    exact find_at (l := l) (i := i) h t fun k x hk hx => b (k + 1) x (by omega) hx
theorem inC_nat (ns : List Nat) (n : Nat) : inC ns (.int (n : Int)) = decide (n ∈ ns) := by
  show ((intsL ns).any fun y => y == (n : Int)) = _
  exact any_nats ns n
/-- the first of the heaps that is not chosen -/
def outN (ns ws : List Nat) : Option Nat := ws.find? fun h => !decide (h ∈ ns)
/-- a word's heaps -/
def heapsN (m n : Nat) : List Nat := placesN m (stepN m n)
def spMissing (K : PySem.W.Frag) : Sp := fun vs H Q E => ∃ (c : Addr) (m : Nat) (ns : List Nat) (x : V), vs = [.ref c, x] ∧ Ch K H c m ns ∧ Thg K H x ∧
  (wholeV 0 ((fullW m : Nat) : Int) x = false → Er K "BadWord" [("index", .int 0)] E H) ∧ ∀ n : Nat, x = .int n → n < 2 ^ (2 ^ m) → ∀ H', Ex H H' → Q (optV (outN ns (heapsN m n))) H'
theorem h_heap_missing (E : Ctx K mg) : Has P w K mg base 18 "heap_missing" ["choice", "word"] (spMissing K) := by
  obtain ⟨fd, F⟩ := f_heap_missing E
  refine ⟨⟨fd, ?_, F.bindsN fun _ _ _ _ _ _ us hl => match us, hl with | [_, _], _ => rfl⟩, g_heap_missing E, F.kp⟩
  refine F.ok sc_heap_missing (fun vs H Q E' h => ?len) (fun cdv A outer s H vs Q E' hr h => ⟨_, (pss_cons (ps_for (passes_of rfl) rfl (ki_tup (K := K) rfl (pe_H (h_heaps_of E) (hr.mono (by decide)) (takes_of rfl rfl rfl rfl) (pa_cons (kfld (K := K) rfl (pv 0)) (pa_cons (pv 1) pa_nil)))) (pg_name (i := 2) sc_heap_missing.nd rfl (.inl rfl))
 (pss_one (ps_if (pt_cmpR (ko_notInO (K := K) rfl (hm_Choice___contains__ E) (hr.mono (by decide))) (pv 2) (pv 0) (by with_unfolding_all rfl))
 (pss_one (ps_ret (pv 2)))
 pss_nil)))
 (pss_one (ps_ret pe_non))), ?rd⟩)
  case len =>
    obtain ⟨c, m, ns, x, rfl, _⟩ := h
    rfl
  case rd =>
    obtain ⟨c, m, ns, x, rfl, ch, tx, bad, q⟩ := h
    walk_at "rd"
    refine rd_fld ?_
    walk_at "rd"
    refine ch_letters E ch ?_
    walk_at "rd"
    refine ⟨.int (m : Int), x, rfl, tx, letGood ch.m1 ch.m5 ⟨bad, fun n en hn p H0 hp0 e0 hp => ?_⟩⟩
    have eq : (fun m n => placesN m (stepN m n)) m n = heapsN m n := rfl
    rw [eq] at hp
    have q := q n en hn
    generalize heapsN m n = ws at q hp
    have sq : SqT K H0 p ((intsL ws).map V.int) := st_of hp
    have el : ((intsL ws).map V.int).length = ws.length := by simp [intsL]
    have ch0 := ch.ex e0
    refine ⟨p, rfl, ⟨_, sq⟩, for_it walk_tup (fun i σ H' => ∃ v2 : Option V, σ = [some (.ref c), some x, v2] ∧ Ex H0 H' ∧ ∀ k h, k < i → ws[k]? = some h → h ∈ ns)
      ⟨none, rfl, Ex.refl _, fun k h hk => absurd hk (Nat.not_lt_zero k)⟩ (fun i σ H' _ ⟨_, _, e, _⟩ => ex_t e sq) ?_ ?_⟩
    · rintro i x1 σ H1 H2 hlt ⟨v2, rfl, e1, bef⟩ ⟨rfl, hx⟩
      obtain ⟨h, hh, rfl⟩ := nat_at hx
      have ch1 := ch0.ex e1
      obtain ⟨dx, l, h1, h2⟩ := id ch1.at_
      walk_at "rd"
      refine ⟨c, dx, _, rfl, h1, c, m, ns, _, rfl, ch1, ⟨_, th_int _⟩, _, rfl, ?_⟩
      rw [inC_nat]
      refine ⟨_, rfl, fun z => ?_, fun z => ?_⟩
      · have nin : ¬ h ∈ ns := by simpa using z
        walk_at "rd"
        have gn : outN ns ws = some h := find_at hh (by simpa using nin) fun k x hk hx => by simpa using bef k x hk hx
        rw [gn] at q
        exact q _ (e0.trans e1)
      · have isin : h ∈ ns := by simpa using z
        walk_at "rd"
        refine ⟨_, rfl, e1, fun k d2 hk hd2 => ?_⟩
        by_cases ek : k = i
        · subst ek
          rw [hh] at hd2
          rw [← Option.some.inj hd2]
          exact isin
        · exact bef k d2 (by omega) hd2
    · rintro σ H1 ⟨v2, rfl, e1, bef⟩
      walk_at "rd"
      have gn : outN ns ws = none := by
        unfold outN
        rw [List.find?_eq_none]
        intro x hx
        obtain ⟨k, hk⟩ := List.getElem?_of_mem hx
        simpa using bef k x (by rw [el]; exact (List.getElem?_eq_some_iff.mp hk).1) hk
      rw [gn] at q
      exact q H1 (e0.trans e1)
def spHolds (K : PySem.W.Frag) : Sp := fun vs H Q E => ∃ (c : Addr) (m : Nat) (ns : List Nat) (x : V), vs = [.ref c, x] ∧ Ch K H c m ns ∧ Thg K H x ∧
  (wholeV 0 ((fullW m : Nat) : Int) x = false → Er K "BadWord" [("index", .int 0)] E H) ∧ ∀ n : Nat, x = .int n → n < 2 ^ (2 ^ m) → ∀ H', Ex H H' → Q (.bl (outN ns (heapsN m n)).isNone) H'
theorem h_holds (E : Ctx K mg) : Has P w K mg base 19 "holds" ["choice", "word"] (spHolds K) := by
  obtain ⟨fd, F⟩ := f_holds E
  refine ⟨⟨fd, ?_, F.bindsN fun _ _ _ _ _ _ us hl => match us, hl with | [_, _], _ => rfl⟩, g_holds E, F.kp⟩
  refine F.ok sc_holds (fun vs H Q E' h => ?len) (fun cdv A outer s H vs Q E' hr h => ⟨_, (pss_one (ps_ret (pe_cmpR op_isN (pe_H (h_heap_missing E) (hr.mono (by decide)) (takes_of rfl rfl rfl rfl) (pa_cons (pv 0) (pa_cons (pv 1) pa_nil))) pe_non (nomark _)))), ?rd⟩)
  case len =>
    obtain ⟨c, m, ns, x, rfl, _⟩ := h
    rfl
  case rd =>
    obtain ⟨c, m, ns, x, rfl, ch, tx, bad, q⟩ := h
    walk_at "rd"
    refine ⟨c, m, ns, x, rfl, ch, tx, bad, fun n en hn H2 e2 => ?_⟩
    walk_at "rd"
    refine ⟨rfl, ?_⟩
    have eo : ∀ o : Option Nat, decide (optV o = V.non) = o.isNone := fun o => by cases o <;> rfl
    rw [eo]
    exact q n en hn H2 e2
def spInCode (K : PySem.W.Frag) : Sp := fun vs H Q E => ∃ (c : Addr) (m : Nat) (ns : List Nat) (x : V), vs = [.ref c, x] ∧ Ch K H c m ns ∧ Thg K H x ∧
  (wholeV 0 ((fullW m : Nat) : Int) x = false → Er K "BadWord" [("index", .int 0)] E H) ∧ ∀ n : Nat, x = .int n → n < 2 ^ (2 ^ m) →
    (∀ h, outN ns (heapsN m n) = some h → ∀ H', Ex H H' → Er K "NotInCode" [("heap", .int (h : Int))] E H') ∧ (outN ns (heapsN m n) = none → ∀ H', Ex H H' → Q (.int (n : Int)) H')
theorem h_check_in_code (E : Ctx K mg) : Has P w K mg base 19 "check_in_code" ["choice", "word"] (spInCode K) := by
  obtain ⟨fd, F⟩ := f_check_in_code E
  refine ⟨⟨fd, ?_, F.bindsN fun _ _ _ _ _ _ us hl => match us, hl with | [_, _], _ => rfl⟩, g_check_in_code E, F.kp⟩
  refine F.ok sc_check_in_code (fun vs H Q E' h => ?len) (fun cdv A outer s H vs Q E' hr h => ⟨_, (pss_cons (ps_set (i := 2) sc_check_in_code.nd rfl (.inl rfl) (pe_H (h_heap_missing E) (hr.mono (by decide)) (takes_of rfl rfl rfl rfl) (pa_cons (pv 0) (pa_cons (pv 1) pa_nil))))
 (pss_cons (ps_if (pt_cmpR op_notN (pv 2) pe_non (nomark _))
 (pss_one (ps_raise1 rfl (takes_of rfl rfl rfl rfl) (i_NotInCode E) (hr.mono (by decide)) (pv 2)))
 pss_nil)
 (pss_one (ps_ret (pv 1))))), ?rd⟩)
  case len =>
    obtain ⟨c, m, ns, x, rfl, _⟩ := h
    rfl
  case rd =>
    obtain ⟨c, m, ns, x, rfl, ch, tx, bad, q⟩ := h
    walk_at "rd"
    refine ⟨c, m, ns, x, rfl, ch, tx, bad, fun n en hn H2 e2 => ?_⟩
    obtain ⟨qo, qn⟩ := q n en hn
    subst en
    walk_at "rd"
    cases o : outN ns (heapsN m n) with
    | some h =>
      refine ⟨rfl, true, (by show V.bl (!decide (V.int (h : Int) = V.non)) = _; rw [decide_eq_false (fun z => nomatch z)]; rfl), fun _ => ?_, (fun z => nomatch z)⟩
      walk_at "rd"
      exact rd_mk1 (qo h o H2 e2)
    | none =>
      refine ⟨rfl, false, (by show V.bl (!decide (V.non = V.non)) = _; rw [decide_eq_true rfl]; rfl), (fun z => nomatch z), fun _ => ?_⟩
      walk_at "rd"
      exact qn o H2 e2

end
end Lw

set_option Elab.async false
set_option linter.all false
set_option maxRecDepth 100000
set_option maxHeartbeats 4000000
namespace Lw
open PySem PySem.Spec PyProof.Rows L2 He Evl StX
local macro_rules | `(tactic| walk_at "rd") => `(tactic| (repeat first
  | with_reducible refine rd_seq ?_
  | with_reducible refine rd_asg ?_
  | with_reducible refine rd_ret ?_
  | with_reducible refine rd_next ?_
  | with_reducible refine rd_drop ?_
  | with_reducible refine rd_if ?_
  | with_reducible refine rd_ifE ?_
  | ((with_reducible refine' rd_var ?hv ?_); (case hv => rfl))
  | with_reducible refine rd_c ?_
  | with_reducible refine rd_op ?_
  | with_reducible refine rd_chain ?_
  | with_reducible refine rd_I0 ?_
  | with_reducible refine rd_test ?_
  | with_reducible refine rd_B ?_
  | with_reducible refine rd_bl ?_
  | with_reducible refine rd_not ?_
  | with_reducible refine rd_and ?_
  | with_reducible refine rd_or ?_
  | with_reducible refine rd_andV ?_
  | with_reducible refine rd_orV ?_
  | with_reducible refine rd_notV ?_
  | with_reducible refine rd_cons ?_
  | with_reducible refine rd_nil ?_
  | with_reducible refine rd_CB ?_
  | with_reducible refine rd_callS ?_
  | with_reducible refine rd_raise0 ?_
  | with_reducible refine rd_raise1 ?_
  | with_reducible refine rd_raise2 ?_
  | ((with_reducible refine' rd_eq ?hs ?_); (case hs => rfl))
  | ((with_reducible refine' rd_ne ?hs ?_); (case hs => rfl))
  | ((with_reducible refine' rd_isT ?th ?hT ?_); (case th => assumption); (case hT => decide))
  | with_reducible refine rd_tup ?_
  | with_reducible refine rd_lst ?_
  | with_reducible refine rd_iEnum ?_
  | with_reducible refine rd_iEnumA ?_
  | ((with_reducible refine' rd_ixl ?hl ?hk ?_); (case hl => assumption); (case hk => rfl))
  | with_reducible refine rd_int1 ?_
  | with_reducible refine rd_sub ?_
  | with_reducible refine rd_gcons ?_
  | with_reducible refine rd_gnil ?_
  | with_reducible refine rd_iZip ?_
  | with_reducible refine rd_BM ?_
  | with_reducible refine rd_neg ?_
  | ((with_reducible refine' rd_last ?hl ?_); (case hl => assumption))
  | with_reducible refine rd_lc2 ?_
  | with_reducible refine rd_Rg1 ?_
  | with_reducible refine rd_tupRg ?_
  | with_reducible refine rd_sl ?_
  | with_reducible refine rd_noPart ?_
  | with_reducible refine rd_part ?_
  | with_reducible refine rd_for ?_
  | with_reducible refine rd_iRev ?_
  | with_reducible refine rd_gname ?_
  | with_reducible refine rd_NN ?_
  | with_reducible refine rd_NL ?_
  | with_reducible refine rd_LN ?_
  | ((with_reducible refine' rd_shl1 ?hs ?_); (case hs => omega))
  | ((with_reducible refine' rd_I ?hs ?_); (case hs => first | omega | decide | exact ⟨by decide, by decide, by decide⟩ | exact ⟨by omega, by omega⟩))
  | with_reducible refine rd_tr ?_
  | with_reducible refine rd_trI ?_
  | with_reducible refine rd_star ?_
  | with_reducible refine rd_fmtB ?_
  | with_reducible refine rd_M1 ?_
  | with_reducible refine rd_un ?_
  | with_reducible refine rd_lc ?_
  | with_reducible refine rd_iT ?_
  | with_reducible refine rd_iL ?_
  | with_reducible refine rd_iR1 ?_
  | with_reducible refine rd_iR2 ?_
  | dsimp only [List.set, start]))
section
variable {P : Program} {w : World} {K : PySem.W.Frag} {mg : Str → Option Value} {base : Heap}

theorem uniq_nats {ns : List Nat} (srt : ns.Pairwise (· < ·)) : uniq (intsL ns) = intsL ns := by
  refine strict_eq (uniq_sorted _) ?_ fun z => uniq_mem z _
  unfold intsL
  rw [List.pairwise_map]
  exact srt.imp fun h => by omega
theorem len_nats {ns : List Nat} {k : Nat} (srt : ns.Pairwise (· < ·)) (lt : ∀ p ∈ ns, p < k) : ns.length ≤ k := by
  have h := uniq_few (k := k) (ns := intsL ns) fun z hz => by
    obtain ⟨p, hp, rfl⟩ := List.mem_map.mp hz
    have := lt p hp
    omega
  rw [uniq_nats srt] at h
  unfold intsL at h
  rw [List.length_map] at h
  exact h
theorem rd_gtup {n : Nat} {t : TGs} {p : Addr} {xs : List V} {σ : L2.St} {H : Hp} {Q : L2.St → Hp → Prop} (h : H p = some (.tup xs)) (hn : xs.length = n) (q : t xs σ H Q) : gTup K n t (.ref p) σ H Q := ⟨p, xs, rfl, st_of h, hn, q⟩
theorem bit_tr (n i : Nat) : (((n / 2 ^ i &&& 1 : Nat) : Int) != 0) = (n / 2 ^ i % 2 == 1) := by
  rw [Nat.and_one_is_mod]
  rcases Nat.mod_two_eq_zero_or_one (n / 2 ^ i) with h | h <;> rw [h] <;> rfl
theorem nats_self {l : List Nat} (srt : l.Pairwise (· < ·)) : natsU (intsL l) = l := by
  unfold natsU
  rw [uniq_nats srt]
  unfold intsL
  rw [List.map_map]
  conv => rhs; rw [← List.map_id l]
  exact List.map_congr_left fun z _ => by
    show ((z : Nat) : Int).toNat = z
    omega
/-- the heaps at the bits of a number -/
def pickN (ns : List Nat) (n : Nat) : List Nat := ((List.range ns.length).filter fun i => n / 2 ^ i % 2 == 1).map fun i => ns.getD i 0
theorem pick_mem {ns : List Nat} {n q : Nat} (h : q ∈ pickN ns n) : q ∈ ns := by
  obtain ⟨i, hi, rfl⟩ := List.mem_map.mp h
  have := List.mem_range.mp (List.mem_filter.mp hi).1
  rw [List.getD_eq_getElem?_getD, List.getElem?_eq_getElem this]
  exact List.getElem_mem this
theorem pick_len (ns : List Nat) (n : Nat) : (pickN ns n).length ≤ ns.length := by
  unfold pickN
  rw [List.length_map]
  exact Nat.le_trans (List.length_filter_le _ _) (by rw [List.length_range]; exact Nat.le_refl _)
theorem pick_srt {ns : List Nat} (srt : ns.Pairwise (· < ·)) (n : Nat) : (pickN ns n).Pairwise (· < ·) := by
  unfold pickN
  rw [List.pairwise_map]
  have p : ((List.range ns.length).filter fun i => n / 2 ^ i % 2 == 1).Pairwise (· < ·) := List.Pairwise.filter _ List.pairwise_lt_range
  refine (List.Pairwise.and_mem.mp p).imp fun {a b} ⟨ha, hb, lt⟩ => ?_
  have ha := List.mem_range.mp (List.mem_filter.mp ha).1
  have hb := List.mem_range.mp (List.mem_filter.mp hb).1
  rw [List.getD_eq_getElem?_getD, List.getElem?_eq_getElem ha, List.getD_eq_getElem?_getD, List.getElem?_eq_getElem hb]
  exact List.pairwise_iff_getElem.mp srt a b ha hb lt
def wordN (m : Nat) (ns : List Nat) (n : Nat) : Nat := stepN m (markN (pickN ns n))
def spWordAt (K : PySem.W.Frag) : Sp := fun vs H Q E => ∃ (c : Addr) (m : Nat) (ns : List Nat) (x : V), vs = [.ref c, x] ∧ Ch K H c m ns ∧ Thg K H x ∧
  (wholeV 0 ((2 ^ ns.length - 1 : Nat) : Int) x = false → Er K "BadNumber" [("most", .int ((2 ^ ns.length - 1 : Nat) : Int))] E H) ∧ ∀ n : Nat, x = .int n → n < 2 ^ ns.length → ∀ H', Ex H H' → Q (.int (wordN m ns n : Int)) H'
theorem h_word_at (E : Ctx K mg) : Has P w K mg base 16 "word_at" ["choice", "number"] (spWordAt K) := by
  obtain ⟨fd, F⟩ := f_word_at E
  refine ⟨⟨fd, ?_, F.bindsN fun _ _ _ _ _ _ us hl => match us, hl with | [_, _], _ => rfl⟩, g_word_at E, F.kp⟩
  refine F.ok sc_word_at (fun vs H Q E' h => ?len) (fun cdv A outer s H vs Q E' hr h => ⟨_, (pss_cons (ps_expr (pe_H (h_check_number E) (hr.mono (by decide)) (takes_of rfl rfl rfl rfl) (pa_cons (pv 1) (pa_cons (pe_op op_sub (pe_op on_shl pe_int (kprop (K := K) rfl (hp_Choice_size E) (hr.mono (by decide)) (pv 0))) pe_int) pa_nil))))
 (pss_one (ps_ret (pe_H (h_word_of E) (hr.mono (by decide)) (takes_of rfl rfl rfl rfl) (pa_cons (kfld (K := K) rfl (pv 0)) (pa_cons (pe_lc (own := [("index", 2), ("heap", 3)]) (g := gTup K 2 (gCons (gName 2) (gCons (gName 3) gNil))) rfl sc_word_at.nd (kpi_enumO (K := K) rfl rfl (b_enumerate E) (walkC E) (itB E) (hr.mono (by decide)) (pa_cons (pv 0) pa_nil)) (blkOk_by (own := [("index", 2), ("heap", 3)]) (N := N_word_at) (sc := defScope s_word_at) (by decide +kernel)) (fun _ _ _ _ _ => (kpg_tup (K := K) rfl rfl (pgs_cons (pg_name (i := 2) sc_word_at.nd rfl (.inl rfl)) (pgs_cons (pg_name (i := 3) sc_word_at.nd rfl (.inl rfl)) pgs_nil)))) (fun _ _ _ _ _ => (pts_one (kt_truth (K := K) rfl (pe_op on_and (pe_op on_shr (pv 1) (pv 2)) pe_int) (by intro _; rfl)))) (fun _ _ _ _ _ => (pv 3))) pa_nil)))))), ?rd⟩)
  case len =>
    obtain ⟨c, m, ns, x, rfl, _⟩ := h
    rfl
  case rd =>
    obtain ⟨c, m, ns, x, rfl, ch, tx, bad, q⟩ := h
    have nl := len_nats ch.srt ch.lt
    have p5 := ch.p5
    obtain ⟨dx, l, h1, h2⟩ := id ch.at_
    walk_at "rd"
    refine rd_pr ?_
    walk_at "rd"
    refine ⟨c, dx, _, rfl, h1, c, m, ns, rfl, ch, ?_⟩
    walk_at "rd"
    have k0 : 0 < 2 ^ ns.length := Nat.pow_pos (by decide)
    have e2 : ((2 ^ ns.length : Nat) : Int) - 1 = ((2 ^ ns.length - 1 : Nat) : Int) := by omega
    rw [e2]
    refine ⟨x, _, rfl, tx, fun z => ?_, fun z => bad z⟩
    obtain ⟨n, rfl, _, hn⟩ := whole_nat z (by omega)
    have hn : n < 2 ^ ns.length := by omega
    have sq : SqT K H l ((intsL ns).map V.int) := st_of h2
    have el : ((intsL ns).map V.int).length = ns.length := by simp [intsL]
    walk_at "rd"
    refine rd_fld ?_
    walk_at "rd"
    refine ch_letters E ch ?_
    walk_at "rd"
    refine rd_enumO ?_
    walk_at "rd"
    refine ⟨c, dx, l, _, rfl, h1, look_heaps m l, ⟨_, sq⟩, fun D hD => lc_it walk_enumT (Cw H (fun i => n / 2 ^ i % 2 == 1) (fun i => .int ((ns.getD i 0 : Nat) : Int)) D) ⟨hD, Ex.new hD, upd_same⟩ (fun i H' _ p => ex_t p.2.1 sq) (fun i v H1 H2 hi p y => ?_) (fun H' p => ?_)⟩
    · obtain ⟨T, iv, xv, rfl, hT, rfl, e1, e2⟩ := y
      obtain rfl := Option.some.inj e1
      obtain ⟨h, hh, rfl⟩ := nat_at e2
      have eh : ns.getD i 0 = h := by rw [List.getD_eq_getElem?_getD, hh]; rfl
      obtain ⟨q1, q2, q3⟩ := p
      have nDT : D ≠ T := ne_of_none q3 hT
      refine rd_gtup upd_same rfl ?_
      walk_at "rd"
      refine ⟨rfl, cw_turn ⟨q1, q2.trans (Ex.new hT), by rw [upd_ne nDT]; exact q3⟩ (by have := (List.getElem?_eq_some_iff.mp hh).1; omega) (fun K1 k1 R r => ?_) (fun hf K1 k1 R r => ?_)⟩
      · walk_at "rd"
        rw [bit_tr]
        exact r _ (Ex.refl _)
      · walk_at "rd"
        rw [← eh]
        exact r _ (Ex.refl _)
    · obtain ⟨_, e1, at1⟩ := p
      have bdp : ∀ z ∈ intsL (pickN ns n), 0 ≤ z ∧ z ≤ ((2 ^ m - 1 : Nat) : Int) := fun z hz => by
        obtain ⟨q, hq, rfl⟩ := List.mem_map.mp hz
        have := ch.lt q (pick_mem hq)
        omega
      have at2 : H' D = some (.lst ((intsL (pickN ns n)).map V.int)) := by
        rw [at1, el]
        unfold given pickN intsL
        rw [List.map_map, List.map_map]
        rfl
      have few := pick_len ns n
      walk_at "rd"
      refine ⟨_, _, some ((intsL (pickN ns n)).map V.int), rfl, ⟨D, rfl, .inl at2, by rw [List.length_map]; unfold intsL; rw [List.length_map]; omega, ints_odd⟩, letGood ch.m1 ch.m5 ⟨fun b eb => absurd ((in_off bdp).symm.trans eb) nofun, fun ns2 en _ => ?_⟩⟩
      obtain rfl : intsL (pickN ns n) = ns2 := (List.map_inj_right fun _ _ h => V.int.inj h).mp (Option.some.inj en)
      refine ⟨by unfold intsL; rw [List.length_map]; omega, fun H3 e3 => ?_⟩
      rw [nats_self (pick_srt ch.srt n)]
      exact q n rfl hn H3 (e1.trans e3)

end
end Lw

set_option Elab.async false
set_option linter.all false
set_option maxRecDepth 100000
set_option maxHeartbeats 4000000
namespace Lw
open PySem PySem.Spec PyProof.Rows L2 He Evl StX
local macro_rules | `(tactic| walk_at "rd") => `(tactic| (repeat first
  | with_reducible refine rd_seq ?_
  | with_reducible refine rd_asg ?_
  | with_reducible refine rd_ret ?_
  | with_reducible refine rd_next ?_
  | with_reducible refine rd_drop ?_
  | with_reducible refine rd_if ?_
  | with_reducible refine rd_ifE ?_
  | ((with_reducible refine' rd_var ?hv ?_); (case hv => rfl))
  | with_reducible refine rd_c ?_
  | with_reducible refine rd_op ?_
  | with_reducible refine rd_chain ?_
  | with_reducible refine rd_I0 ?_
  | with_reducible refine rd_test ?_
  | with_reducible refine rd_B ?_
  | with_reducible refine rd_bl ?_
  | with_reducible refine rd_not ?_
  | with_reducible refine rd_and ?_
  | with_reducible refine rd_or ?_
  | with_reducible refine rd_andV ?_
  | with_reducible refine rd_orV ?_
  | with_reducible refine rd_notV ?_
  | with_reducible refine rd_cons ?_
  | with_reducible refine rd_nil ?_
  | with_reducible refine rd_CB ?_
  | with_reducible refine rd_callS ?_
  | with_reducible refine rd_raise0 ?_
  | with_reducible refine rd_raise1 ?_
  | with_reducible refine rd_raise2 ?_
  | ((with_reducible refine' rd_eq ?hs ?_); (case hs => rfl))
  | ((with_reducible refine' rd_ne ?hs ?_); (case hs => rfl))
  | ((with_reducible refine' rd_isT ?th ?hT ?_); (case th => assumption); (case hT => decide))
  | with_reducible refine rd_tup ?_
  | with_reducible refine rd_lst ?_
  | with_reducible refine rd_iEnum ?_
  | with_reducible refine rd_iEnumA ?_
  | ((with_reducible refine' rd_ixl ?hl ?hk ?_); (case hl => assumption); (case hk => rfl))
  | with_reducible refine rd_int1 ?_
  | with_reducible refine rd_sub ?_
  | with_reducible refine rd_gcons ?_
  | with_reducible refine rd_gnil ?_
  | with_reducible refine rd_iZip ?_
  | with_reducible refine rd_BM ?_
  | with_reducible refine rd_neg ?_
  | ((with_reducible refine' rd_last ?hl ?_); (case hl => assumption))
  | with_reducible refine rd_lc2 ?_
  | with_reducible refine rd_Rg1 ?_
  | with_reducible refine rd_tupRg ?_
  | with_reducible refine rd_sl ?_
  | with_reducible refine rd_noPart ?_
  | with_reducible refine rd_part ?_
  | with_reducible refine rd_for ?_
  | with_reducible refine rd_iRev ?_
  | with_reducible refine rd_gname ?_
  | with_reducible refine rd_NN ?_
  | with_reducible refine rd_NL ?_
  | with_reducible refine rd_LN ?_
  | ((with_reducible refine' rd_shl1 ?hs ?_); (case hs => omega))
  | ((with_reducible refine' rd_I ?hs ?_); (case hs => first | omega | decide | exact ⟨by decide, by decide, by decide⟩ | exact ⟨by omega, by omega⟩))
  | with_reducible refine rd_tr ?_
  | with_reducible refine rd_trI ?_
  | with_reducible refine rd_star ?_
  | with_reducible refine rd_fmtB ?_
  | with_reducible refine rd_M1 ?_
  | with_reducible refine rd_un ?_
  | with_reducible refine rd_lc ?_
  | with_reducible refine rd_iT ?_
  | with_reducible refine rd_iL ?_
  | with_reducible refine rd_iR1 ?_
  | with_reducible refine rd_iR2 ?_
  | dsimp only [List.set, start]))
section
variable {P : Program} {w : World} {K : PySem.W.Frag} {mg : Str → Option Value} {base : Heap}

/-- the number of a word with the heaps ws -/
def numN (ns ws : List Nat) : Nat := markN ((List.range ns.length).filter fun i => decide (ns.getD i 0 ∈ ws))
def spNumberOf (K : PySem.W.Frag) : Sp := fun vs H Q E => ∃ (c : Addr) (m : Nat) (ns : List Nat) (x : V), vs = [.ref c, x] ∧ Ch K H c m ns ∧ Thg K H x ∧
  (wholeV 0 ((fullW m : Nat) : Int) x = false → Er K "BadWord" [("index", .int 0)] E H) ∧ ∀ n : Nat, x = .int n → n < 2 ^ (2 ^ m) →
    (∀ h, outN ns (heapsN m n) = some h → ∀ H', Ex H H' → Er K "NotInCode" [("heap", .int (h : Int))] E H') ∧ (outN ns (heapsN m n) = none → ∀ H', Ex H H' → Q (.int (numN ns (heapsN m n) : Int)) H')
theorem h_number_of (E : Ctx K mg) : Has P w K mg base 20 "number_of" ["choice", "word"] (spNumberOf K) := by
  obtain ⟨fd, F⟩ := f_number_of E
  refine ⟨⟨fd, ?_, F.bindsN fun _ _ _ _ _ _ us hl => match us, hl with | [_, _], _ => rfl⟩, g_number_of E, F.kp⟩
  refine F.ok sc_number_of (fun vs H Q E' h => ?len) (fun cdv A outer s H vs Q E' hr h => ⟨_, (pss_cons (ps_set (i := 2) sc_number_of.nd rfl (.inr rfl) (pe_H (h_heaps_of E) (hr.mono (by decide)) (takes_of rfl rfl rfl rfl) (pa_cons (kfld (K := K) rfl (pv 0)) (pa_cons (pe_H (h_check_in_code E) (hr.mono (by decide)) (takes_of rfl rfl rfl rfl) (pa_cons (pv 0) (pa_cons (pv 1) pa_nil))) pa_nil))))
 (pss_one (ps_ret (pe_callB (kc_sum rfl (K := K) rfl) rfl (b_sum E) (by decide +kernel) (pa_cons (pe_lc (own := [("index", 3), ("heap", 4)]) (g := gTup K 2 (gCons (gName 3) (gCons (gName 4) gNil))) rfl sc_number_of.nd (kpi_enumO (K := K) rfl rfl (b_enumerate E) (walkC E) (itB E) (hr.mono (by decide)) (pa_cons (pv 0) pa_nil)) (blkOk_by (own := [("index", 3), ("heap", 4)]) (N := N_number_of) (sc := defScope s_number_of) (by decide +kernel)) (fun _ _ _ _ _ => (kpg_tup (K := K) rfl rfl (pgs_cons (pg_name (i := 3) sc_number_of.nd rfl (.inl rfl)) (pgs_cons (pg_name (i := 4) sc_number_of.nd rfl (.inl rfl)) pgs_nil)))) (fun _ _ _ _ _ => (pts_one (pt_cmpR (ko_in (K := K) rfl) (pv 4) (pv 2) (by with_unfolding_all rfl)))) (fun _ _ _ _ _ => (pe_op on_shl pe_int (pv 3)))) pa_nil))))), ?rd⟩)
  case len =>
    obtain ⟨c, m, ns, x, rfl, _⟩ := h
    rfl
  case rd =>
    obtain ⟨c, m, ns, x, rfl, ch, tx, bad, q⟩ := h
    have nl := len_nats ch.srt ch.lt
    have p5 := ch.p5
    walk_at "rd"
    refine rd_fld ?_
    walk_at "rd"
    refine ch_letters E ch ?_
    walk_at "rd"
    refine ⟨c, m, ns, x, rfl, ch, tx, bad, fun n en hn => ?_⟩
    subst en
    obtain ⟨qo, qn⟩ := q n rfl hn
    refine ⟨qo, fun o H1 e1 => ?_⟩
    have qn := qn o
    walk_at "rd"
    refine ⟨.int (m : Int), .int (n : Int), rfl, ⟨_, th_int _⟩, letGood ch.m1 ch.m5 ⟨fun z => absurd ((whole_of (Int.natCast_nonneg _) (by show ((n : Nat) : Int) ≤ ((2 ^ (2 ^ m) - 1 : Nat) : Int); omega)).symm.trans z) Bool.noConfusion, fun n2 en hn2 p H2 hp e2 hw2 => ?_⟩⟩
    obtain rfl : n = n2 := by have := V.int.inj en; omega
    have eq : (fun m n => placesN m (stepN m n)) m n = heapsN m n := rfl
    rw [eq] at hw2
    generalize heapsN m n = ws at qn hw2
    have ch2 := (ch.ex e1).ex e2
    obtain ⟨dx, l, h1, h2⟩ := id ch2.at_
    have sq : SqT K H2 l ((intsL ns).map V.int) := st_of h2
    have el : ((intsL ns).map V.int).length = ns.length := by simp [intsL]
    walk_at "rd"
    refine rd_enumO ?_
    walk_at "rd"
    refine ⟨c, dx, l, _, rfl, h1, look_heaps m l, ⟨_, sq⟩, fun D hD => lc_it walk_enumT (Cw H2 (fun i => decide (ns.getD i 0 ∈ ws)) (fun i => .int ((2 ^ i : Nat) : Int)) D) ⟨hD, Ex.new hD, upd_same⟩ (fun i H' _ p => ex_t p.2.1 sq) (fun i v H3 H4 hi p y => ?_) (fun H' p => ?_)⟩
    · obtain ⟨T, iv, xv, rfl, hT, rfl, e5, e6⟩ := y
      obtain rfl := Option.some.inj e5
      obtain ⟨h, hh, rfl⟩ := nat_at e6
      have eh : ns.getD i 0 = h := by rw [List.getD_eq_getElem?_getD, hh]; rfl
      obtain ⟨q1, q2, q3⟩ := p
      have nDT : D ≠ T := ne_of_none q3 hT
      refine rd_gtup upd_same rfl ?_
      walk_at "rd"
      refine ⟨rfl, cw_turn ⟨q1, q2.trans (Ex.new hT), by rw [upd_ne nDT]; exact q3⟩ (by have := (List.getElem?_eq_some_iff.mp hh).1; omega) (fun K1 k1 R r => ?_) (fun hf K1 k1 R r => ?_)⟩
      · walk_at "rd"
        refine ⟨p, _, rfl, .inr (st_of (k1 _ _ hw2)), rfl, flat_ints _, ?_⟩
        rw [if_neg Bool.false_ne_true, in_ints, any_nats]
        rw [eh] at r
        exact ⟨_, rfl, r _ (Ex.refl _)⟩
      · have := (List.getElem?_eq_some_iff.mp hh).1
        walk_at "rd"
        exact r _ (Ex.refl _)
    · obtain ⟨_, e3, at1⟩ := p
      walk_at "rd"
      have at2 : H' D = some (.lst ((((List.range ns.length).filter fun i => decide (ns.getD i 0 ∈ ws)).map fun p => ((2 ^ p : Nat) : Int)).map V.int)) := by
        rw [at1, el]
        unfold given
        rw [List.map_map]
        rfl
      refine ⟨D, _, rfl, sq_of at2, ?_⟩
      rw [markN_int]
      exact qn H' ((e1.trans e2).trans e3)

end
end Lw

set_option Elab.async false
set_option linter.all false
set_option maxRecDepth 100000
set_option maxHeartbeats 4000000
namespace Lw
open PySem PySem.Spec PyProof.Rows L2 He Evl StX
local macro_rules | `(tactic| walk_at "rd") => `(tactic| (repeat first
  | with_reducible refine rd_seq ?_
  | with_reducible refine rd_asg ?_
  | with_reducible refine rd_ret ?_
  | with_reducible refine rd_next ?_
  | with_reducible refine rd_drop ?_
  | with_reducible refine rd_if ?_
  | with_reducible refine rd_ifE ?_
  | ((with_reducible refine' rd_var ?hv ?_); (case hv => rfl))
  | with_reducible refine rd_c ?_
  | with_reducible refine rd_op ?_
  | with_reducible refine rd_chain ?_
  | with_reducible refine rd_I0 ?_
  | with_reducible refine rd_test ?_
  | with_reducible refine rd_B ?_
  | with_reducible refine rd_bl ?_
  | with_reducible refine rd_not ?_
  | with_reducible refine rd_and ?_
  | with_reducible refine rd_or ?_
  | with_reducible refine rd_andV ?_
  | with_reducible refine rd_orV ?_
  | with_reducible refine rd_notV ?_
  | with_reducible refine rd_cons ?_
  | with_reducible refine rd_nil ?_
  | with_reducible refine rd_CB ?_
  | with_reducible refine rd_callS ?_
  | with_reducible refine rd_raise0 ?_
  | with_reducible refine rd_raise1 ?_
  | with_reducible refine rd_raise2 ?_
  | ((with_reducible refine' rd_eq ?hs ?_); (case hs => rfl))
  | ((with_reducible refine' rd_ne ?hs ?_); (case hs => rfl))
  | ((with_reducible refine' rd_isT ?th ?hT ?_); (case th => assumption); (case hT => decide))
  | with_reducible refine rd_tup ?_
  | with_reducible refine rd_lst ?_
  | with_reducible refine rd_iEnum ?_
  | with_reducible refine rd_iEnumA ?_
  | ((with_reducible refine' rd_ixl ?hl ?hk ?_); (case hl => assumption); (case hk => rfl))
  | with_reducible refine rd_int1 ?_
  | with_reducible refine rd_sub ?_
  | with_reducible refine rd_gcons ?_
  | with_reducible refine rd_gnil ?_
  | with_reducible refine rd_iZip ?_
  | with_reducible refine rd_BM ?_
  | with_reducible refine rd_neg ?_
  | ((with_reducible refine' rd_last ?hl ?_); (case hl => assumption))
  | with_reducible refine rd_lc2 ?_
  | with_reducible refine rd_Rg1 ?_
  | with_reducible refine rd_tupRg ?_
  | with_reducible refine rd_sl ?_
  | with_reducible refine rd_noPart ?_
  | with_reducible refine rd_part ?_
  | with_reducible refine rd_for ?_
  | with_reducible refine rd_iRev ?_
  | with_reducible refine rd_gname ?_
  | with_reducible refine rd_NN ?_
  | with_reducible refine rd_NL ?_
  | with_reducible refine rd_LN ?_
  | ((with_reducible refine' rd_shl1 ?hs ?_); (case hs => omega))
  | ((with_reducible refine' rd_I ?hs ?_); (case hs => first | omega | decide | exact ⟨by decide, by decide, by decide⟩ | exact ⟨by omega, by omega⟩))
  | with_reducible refine rd_tr ?_
  | with_reducible refine rd_trI ?_
  | with_reducible refine rd_star ?_
  | with_reducible refine rd_fmtB ?_
  | with_reducible refine rd_M1 ?_
  | with_reducible refine rd_un ?_
  | with_reducible refine rd_lc ?_
  | with_reducible refine rd_iT ?_
  | with_reducible refine rd_iL ?_
  | with_reducible refine rd_iR1 ?_
  | with_reducible refine rd_iR2 ?_
  | dsimp only [List.set, start]))
section
variable {P : Program} {w : World} {K : PySem.W.Frag} {mg : Str → Option Value} {base : Heap}

def spMix : Sp := fun vs H Q _ => ∃ a b : Int, vs = [.int a, .int b] ∧ (0 ≤ a ∧ a < 2147483648) ∧ (0 ≤ b ∧ b < 1024) ∧ ∀ r : Int, 0 ≤ r → r < 2147483648 → Q (.int r) H
theorem h__law_mix (E : Ctx K mg) : Has P w K mg base 14 "_law_mix" ["_law_number_here", "_law_turn"] (spMix) := by
  obtain ⟨fd, F⟩ := f__law_mix E
  refine ⟨⟨fd, ?_, F.bindsN fun _ _ _ _ _ _ us hl => match us, hl with | [_, _], _ => rfl⟩, g__law_mix E, F.kp⟩
  refine F.ok sc__law_mix (fun vs H Q E' h => ?len) (fun cdv A outer s H vs Q E' hr h => ⟨_, (pss_cons (ps_set (i := 2) sc__law_mix.nd rfl (.inl rfl) (pe_op op_modN (pe_callTy call_int1 rfl (b_int E) (by decide +kernel) (pa_cons (pe_op op_add (pe_op op_add (pe_op op_mulX (pv 0) pe_int) (pe_op op_mulX (pv 1) pe_int)) pe_int) pa_nil)) pe_int))
 (pss_cons (ps_set (i := 3) sc__law_mix.nd rfl (.inl rfl) (pe_op op_modN (pe_callTy call_int1 rfl (b_int E) (by decide +kernel) (pa_cons (pe_op op_add (pe_op op_add (pe_op op_mulX (pv 2) (pv 2)) (pe_op op_mulX (pe_op op_fdivW (pv 2) pe_int) pe_int)) (pe_op op_mulX (pv 1) pe_int)) pa_nil)) pe_int))
 (pss_one (ps_ret (pe_op op_fdivW (pe_op op_modN (pe_callTy call_int1 rfl (b_int E) (by decide +kernel) (pa_cons (pe_op op_add (pe_op op_fdivW (pe_op op_mulX (pv 3) (pv 3)) pe_int) (pv 2)) pa_nil)) pe_int) pe_int))))), ?rd⟩)
  case len =>
    obtain ⟨a, b, rfl, _⟩ := h
    rfl
  case rd =>
    obtain ⟨a, b, rfl, ⟨ha, ha2⟩, ⟨hb, hb2⟩, q⟩ := h
    walk_at "rd"
    refine rd_I (mulx_ok (a := 31) (b := 16) (by omega) (by decide) (by decide)) ?_
    walk_at "rd"
    refine rd_I (mulx_ok (a := 10) (b := 16) (by omega) (by decide) (by decide)) ?_
    walk_at "rd"
    obtain ⟨o1, o2⟩ := fmod_bd (a * 48271 + b * 30269 + 101) (j := 2147483647) (by decide)
    generalize (a * 48271 + b * 30269 + 101).fmod 2147483647 = x at o1 o2 ⊢
    refine rd_I (mulx_ok (a := 31) (b := 31) (by omega) (by omega) (by decide)) ?_
    walk_at "rd"
    refine rd_I (wide_div (b := 8) (by decide) (by decide) (by decide) (by decide)) ?_
    walk_at "rd"
    obtain ⟨d1, d2⟩ := div_bd o1 (j := 211) (by decide)
    generalize x / 211 = y at d1 d2 ⊢
    refine rd_I (mulx_ok (a := 31) (b := 17) (by omega) (by decide) (by decide)) ?_
    walk_at "rd"
    refine rd_I (mulx_ok (a := 10) (b := 13) (by omega) (by decide) (by decide)) ?_
    walk_at "rd"
    obtain ⟨p1, p2⟩ := fmod_bd (x * x + y * 69621 + b * 7919) (j := 2147483629) (by decide)
    generalize (x * x + y * 69621 + b * 7919).fmod 2147483629 = z at p1 p2 ⊢
    refine rd_I (mulx_ok (a := 31) (b := 31) (by omega) (by omega) (by decide)) ?_
    walk_at "rd"
    refine rd_I (wide_div (b := 11) (by decide) (by decide) (by decide) (by decide)) ?_
    walk_at "rd"
    obtain ⟨e1, e2⟩ := fmod_bd (z * z / 2003 + x) (j := 2147483587) (by decide)
    generalize (z * z / 2003 + x).fmod 2147483587 = u at e1 e2 ⊢
    refine rd_I (wide_div (b := 4) (by decide) (by decide) (by decide) (by decide)) ?_
    obtain ⟨f1, f2⟩ := div_bd e1 (j := 8) (by decide)
    exact q _ f1 (by omega)
/-- the hand of draws at h, its cells at c -/
def HandC (c : Addr) (H : Hp) (h : Addr) : Prop := ∃ (cells : List Int) (i : Nat) (r t : Int), H h = some (.lst [.ref c, .int (i : Int), .int r, .int t]) ∧ H c = some (.lst (cells.map V.int)) ∧ c ≠ h ∧
  (∀ z ∈ cells, 0 ≤ z ∧ bits z ≤ 1048576) ∧ i ≤ cells.length ∧ cells.length ≤ 63 ∧ 0 ≤ r ∧ bits r ≤ 1048576 ∧ 0 ≤ t ∧ t < 2147483629
theorem HandC.mk {H : Hp} {h c : Addr} {cells : List Int} {i : Nat} {r t : Int} (h1 : H h = some (.lst [.ref c, .int (i : Int), .int r, .int t])) (h2 : H c = some (.lst (cells.map V.int))) (h3 : c ≠ h) (h4 : ∀ z ∈ cells, 0 ≤ z ∧ bits z ≤ 1048576) (h5 : i ≤ cells.length) (h6 : cells.length ≤ 63)
  (h7 : 0 ≤ r) (h8 : bits r ≤ 1048576) (h9 : 0 ≤ t) (h10 : t < 2147483629) : HandC c H h := ⟨cells, i, r, t, h1, h2, h3, h4, h5, h6, h7, h8, h9, h10⟩
theorem HandC.ex {H H' : Hp} {h c : Addr} (e : Ex H H') (x : HandC c H h) : HandC c H' h := by
  obtain ⟨cells, i, r, t, h1, h2, rest⟩ := x
  exact ⟨cells, i, r, t, e _ _ h1, e _ _ h2, rest⟩
theorem HandC.set {H : Hp} {h c p : Addr} {o : HO} (x : HandC c H h) (n1 : p ≠ h) (n2 : p ≠ c) : HandC c (upd H p o) h := by
  obtain ⟨cells, i, r, t, h1, h2, rest⟩ := x
  exact ⟨cells, i, r, t, by rw [upd_ne (Ne.symm n1)]; exact h1, by rw [upd_ne (Ne.symm n2)]; exact h2, rest⟩
theorem HandC.away {H : Hp} {h c p : Addr} (x : HandC c H h) (hp : H p = none) : p ≠ h ∧ p ≠ c := by
  obtain ⟨cells, i, r, t, h1, h2, rest⟩ := x
  exact ⟨fun e => (by rw [e, h1] at hp; cases hp), fun e => (by rw [e, h2] at hp; cases hp)⟩
def spDraw (K : PySem.W.Frag) : Sp := fun vs H Q _ => ∃ (h c : Addr) (m : Int), vs = [.ref h, .int m] ∧ HandC c H h ∧ (0 < m ∧ m < 2 ^ 200) ∧ ∀ (r : Nat) (H' : Hp), (r : Int) < m → Dh h H H' → HandC c H' h → Q (.int (r : Int)) H'
theorem h__law_draw (E : Ctx K mg) : Has P w K mg base 15 "_law_draw" ["_law_hand_here", "_law_many"] (spDraw K) := by
  obtain ⟨fd, F⟩ := f__law_draw E
  refine ⟨⟨fd, ?_, F.bindsN fun _ _ _ _ _ _ us hl => match us, hl with | [_, _], _ => rfl⟩, g__law_draw E, F.kp⟩
  refine F.ok sc__law_draw (fun vs H Q E' h => ?len) (fun cdv A outer s H vs Q E' hr h => ⟨_, (pss_cons (ps_if (PW.pt (pw_and (pt_cmpR op_eq (pe_ix (kx_list (K := K) rfl) (pv 0) pe_int (fun _ _ => rfl)) pe_int (nomark _)) (pw_and1 (pt_cmpR op_lt (pe_ix (kx_list (K := K) rfl) (pv 0) pe_int (fun _ _ => rfl)) (pe_callB (kc_len (K := K) rfl) rfl (b_len E) (by decide +kernel) (pa_cons (pe_ix (kx_list (K := K) rfl) (pv 0) pe_int (fun _ _ => rfl)) pa_nil)) (nomark _)))))
 (pss_cons (ps_set (i := 2) sc__law_draw.nd rfl (.inl rfl) (pe_ix (kx_list (K := K) rfl) (pe_ix (kx_list (K := K) rfl) (pv 0) pe_int (fun _ _ => rfl)) (pe_ix (kx_list (K := K) rfl) (pv 0) pe_int (fun _ _ => rfl)) (fun _ _ => rfl)))
 (pss_cons (ps_asg (pe_op op_add (pe_ix (kx_list (K := K) rfl) (pv 0) pe_int (fun _ _ => rfl)) pe_int) (pg_sub (pv 0) pe_int set_list))
 (pss_cons (ps_if (pt_cmpR op_lt (pv 2) (pe_op op_pow pe_int pe_int) (nomark _))
 (pss_one (ps_ret (pe_op op_modN (pe_callTy call_int1 rfl (b_int E) (by decide +kernel) (pa_cons (pe_H (h__law_mix E) (hr.mono (by decide)) (takes_of rfl rfl rfl rfl) (pa_cons (pe_op op_modN (pe_callTy call_int1 rfl (b_int E) (by decide +kernel) (pa_cons (pv 2) pa_nil)) pe_int) (pa_cons (pe_ix (kx_list (K := K) rfl) (pv 0) pe_int (fun _ _ => rfl)) pa_nil))) pa_nil)) (pv 1))))
 pss_nil)
 (pss_one (ps_asg (pv 2) (pg_sub (pv 0) pe_int set_list))))))
 pss_nil)
 (pss_cons (ps_if (pt_cmpR op_gt (pe_ix (kx_list (K := K) rfl) (pv 0) pe_int (fun _ _ => rfl)) pe_int (nomark _))
 (pss_cons (ps_set (i := 3) sc__law_draw.nd rfl (.inl rfl) (pe_ix (kx_list (K := K) rfl) (pv 0) pe_int (fun _ _ => rfl)))
 (pss_cons (ps_asg (pe_op op_fdivW (pv 3) (pv 1)) (pg_sub (pv 0) pe_int set_list))
 (pss_one (ps_ret (pe_op op_modN (pe_callTy call_int1 rfl (b_int E) (by decide +kernel) (pa_cons (pv 3) pa_nil)) (pv 1))))))
 pss_nil)
 (pss_cons (ps_asg (pe_op op_modN (pe_callTy call_int1 rfl (b_int E) (by decide +kernel) (pa_cons (pe_op op_add (pe_ix (kx_list (K := K) rfl) (pv 0) pe_int (fun _ _ => rfl)) pe_int) pa_nil)) pe_int) (pg_sub (pv 0) pe_int set_list))
 (pss_one (ps_ret (pe_op op_modN (pe_callTy call_int1 rfl (b_int E) (by decide +kernel) (pa_cons (pe_H (h__law_mix E) (hr.mono (by decide)) (takes_of rfl rfl rfl rfl) (pa_cons (pe_ix (kx_list (K := K) rfl) (pv 0) pe_int (fun _ _ => rfl)) (pa_cons (pe_ix (kx_list (K := K) rfl) (pv 0) pe_int (fun _ _ => rfl)) pa_nil))) pa_nil)) (pv 1))))))), ?rd⟩)
  case len =>
    obtain ⟨h0, c, m, rfl, _⟩ := h
    rfl
  case rd =>
    obtain ⟨h0, c, m, rfl, ⟨cells, i, r, t, hh, hc, hne, hz, hi, hl, hr0, hrb, ht0, ht1⟩, ⟨hm0, hm1⟩, q⟩ := h
    have fin : ∀ (x : Int) (H' : Hp), Dh h0 H H' → HandC c H' h0 → Q (.int (x.fmod m)) H' := fun x H' d hd => by
      obtain ⟨f1, f2⟩ := fmod_bd x hm0
      have e : x.fmod m = ((x.fmod m).toNat : Int) := by omega
      rw [e]
      exact q _ H' (by omega) d hd
    have hcl : (cells.map V.int).length = cells.length := by simp
    refine rd_mid (fun σ H' => ∃ (v1 v2 : Option V) (i' : Nat) (r' : Int), σ = [some (.ref h0), some (.int m), v1, v2] ∧ Dh h0 H H' ∧ H' h0 = some (.lst [.ref c, .int (i' : Int), .int r', .int t]) ∧ H' c = some (.lst (cells.map V.int)) ∧ i' ≤ cells.length ∧ 0 ≤ r' ∧ bits r' ≤ 1048576) (fun N hN => ?_) ?_
    · walk_at "rd"
      have stay : N (L2.start N__law_draw [V.ref h0, V.int m]) H := hN _ _ ⟨none, none, i, r, rfl, Dh.refl _ _, hh, hc, hi, hr0, hrb⟩
      refine ⟨fun z => ?_, fun z => ⟨(fun z => nomatch z), fun _ => stay⟩⟩
      walk_at "rd"
      refine ⟨c, _, rfl, .inl (sq_of hc), ?_⟩
      walk_at "rd"
      refine ⟨fun z2 => ?_, fun z2 => stay⟩
      have hi2 : i < cells.length := by
        have := of_decide_eq_true z2
        rw [hcl] at this
        omega
      walk_at "rd"
      have hx : (cells.map V.int)[i]? = some (.int cells[i]) := by
        rw [List.getElem?_map, List.getElem?_eq_getElem hi2]
        rfl
      obtain ⟨x0, xb⟩ := hz cells[i] (List.getElem_mem hi2)
      refine rd_ix (sq_of hc) hx ?_
      walk_at "rd"
      refine rd_setH (k := 1) hh (by show 1 < 4; omega) ?_
      have e1 : ((i : Nat) : Int) + 1 = ((i + 1 : Nat) : Int) := by omega
      rw [e1]
      have hh1 : upd H h0 (.lst ([V.ref c, V.int (i : Int), V.int r, V.int t].set 1 (V.int ((i + 1 : Nat) : Int)))) h0 = some (.lst [.ref c, .int ((i + 1 : Nat) : Int), .int r, .int t]) := upd_same
      have hc1 : upd H h0 (.lst ([V.ref c, V.int (i : Int), V.int r, V.int t].set 1 (V.int ((i + 1 : Nat) : Int)))) c = some (.lst (cells.map V.int)) := by rw [upd_ne hne]; exact hc
      have d1 : Dh h0 H (upd H h0 (.lst ([V.ref c, V.int (i : Int), V.int r, V.int t].set 1 (V.int ((i + 1 : Nat) : Int))))) := Dh.upd
      generalize upd H h0 (.lst ([V.ref c, V.int (i : Int), V.int r, V.int t].set 1 (V.int ((i + 1 : Nat) : Int)))) = H1 at hh1 hc1 d1 ⊢
      walk_at "rd"
      refine ⟨fun z3 => ?_, fun z3 => ?_⟩
      · walk_at "rd"
        obtain ⟨f1, f2⟩ := fmod_bd cells[i] (j := 2147483647) (by decide)
        refine ⟨_, _, rfl, ⟨f1, by omega⟩, ⟨by omega, by omega⟩, fun u u0 u1 => ?_⟩
        walk_at "rd"
        exact fin u H1 d1 (HandC.mk hh1 hc1 hne hz (by omega) hl hr0 hrb ht0 ht1)
      · walk_at "rd"
        refine rd_setH (k := 2) hh1 (by show 2 < 4; omega) ?_
        refine hN _ _ ⟨_, none, i + 1, cells[i], rfl, d1.trans Dh.upd, upd_same, by rw [upd_ne hne]; exact hc1, by omega, x0, xb⟩
    · rintro σ H1 ⟨v1, v2, i', r', rfl, d1, hh1, hc1, hi', hr', hrb'⟩
      walk_at "rd"
      refine ⟨fun z => ?_, fun z => ?_⟩
      · walk_at "rd"
        refine rd_I (wide_div (b := 200) hm0 (by omega) (by decide) (by decide)) ?_
        walk_at "rd"
        obtain ⟨q0, q1⟩ := div_bd hr' hm0
        refine rd_setH (k := 2) hh1 (by show 2 < 4; omega) ?_
        walk_at "rd"
        exact fin r' _ (d1.trans Dh.upd) (HandC.mk upd_same (by rw [upd_ne hne]; exact hc1) hne hz hi' hl q0 (Nat.le_trans (bits_mono q0 q1) hrb') ht0 ht1)
      · walk_at "rd"
        obtain ⟨f1, f2⟩ := fmod_bd (t + 1) (j := 2147483629) (by decide)
        refine rd_setH (k := 3) hh1 (by show 3 < 4; omega) ?_
        have hh2 : upd H1 h0 (.lst ([V.ref c, V.int (i' : Int), V.int r', V.int t].set 3 (V.int ((t + 1).fmod 2147483629)))) h0 = some (.lst [.ref c, .int (i' : Int), .int r', .int ((t + 1).fmod 2147483629)]) := upd_same
        have hc2 : upd H1 h0 (.lst ([V.ref c, V.int (i' : Int), V.int r', V.int t].set 3 (V.int ((t + 1).fmod 2147483629)))) c = some (.lst (cells.map V.int)) := by rw [upd_ne hne]; exact hc1
        have d2 : Dh h0 H (upd H1 h0 (.lst ([V.ref c, V.int (i' : Int), V.int r', V.int t].set 3 (V.int ((t + 1).fmod 2147483629))))) := d1.trans Dh.upd
        generalize upd H1 h0 (.lst ([V.ref c, V.int (i' : Int), V.int r', V.int t].set 3 (V.int ((t + 1).fmod 2147483629)))) = H2 at hh2 hc2 d2 ⊢
        walk_at "rd"
        refine ⟨_, _, rfl, ⟨f1, by omega⟩, ⟨by omega, by omega⟩, fun u u0 u1 => ?_⟩
        walk_at "rd"
        exact fin u H2 d2 (HandC.mk hh2 hc2 hne hz hi' hl hr' hrb' f1 f2)
def spHand (K : PySem.W.Frag) : Sp := fun vs H Q _ => ∃ (a : Addr) (ns : List Int), vs = [.ref a] ∧ SqL K H a (ns.map V.int) ∧ ns.length ≤ 63 ∧ (∀ z ∈ ns, bits z ≤ 1048576) ∧ ∀ (h c : Addr) (H' : Hp), H h = none → Ex H H' → HandC c H' h → Q (.ref h) H'
theorem h__law_hand (E : Ctx K mg) : Has P w K mg base 14 "_law_hand" ["_law_script"] (spHand K) := by
  obtain ⟨fd, F⟩ := f__law_hand E
  refine ⟨⟨fd, ?_, F.bindsN fun _ _ _ _ _ _ us hl => match us, hl with | [_], _ => rfl⟩, g__law_hand E, F.kp⟩
  refine F.ok sc__law_hand (fun vs H Q E' h => ?len) (fun cdv A outer s H vs Q E' hr h => ⟨_, (pss_cons (ps_set (i := 1) sc__law_hand.nd rfl (.inl rfl) pe_int)
 (pss_cons (ps_for (passes_of rfl) rfl (pi_enum rfl (b_enumerate E) (pa_cons (pv 0) pa_nil)) (kpg_tup (K := K) rfl rfl (pgs_cons (pg_name (i := 2) sc__law_hand.nd rfl (.inl rfl)) (pgs_cons (pg_name (i := 3) sc__law_hand.nd rfl (.inl rfl)) pgs_nil)))
 (pss_one (ps_set (i := 1) sc__law_hand.nd rfl (.inl rfl) (pe_op op_modN (pe_callTy call_int1 rfl (b_int E) (by decide +kernel) (pa_cons (pe_op op_add (pe_op op_mulX (pv 1) pe_int) (pe_op op_mulX (pe_callTy call_int1 rfl (b_int E) (by decide +kernel) (pa_cons (pv 3) pa_nil)) (pe_op op_add (pe_op op_mulX pe_int (pv 2)) pe_int))) pa_nil)) pe_int))))
 (pss_one (ps_ret (pe_lst (pa_cons (pe_lc (own := [("_law_cell", 3)]) (g := gName 3) (tt := tYes) rfl sc__law_hand.nd (ki_list (K := K) rfl (pv 0)) (blkOk_by (own := [("_law_cell", 3)]) (N := N__law_hand) (sc := defScope s__law_hand) (by decide +kernel)) (fun _ _ _ _ _ => (pg_name (i := 3) sc__law_hand.nd rfl (.inl rfl))) (fun _ _ _ _ _ => pts_nil) (fun _ _ _ _ _ => (pe_callB call_abs rfl (b_abs E) (by decide +kernel) (pa_cons (pe_callTy call_int1 rfl (b_int E) (by decide +kernel) (pa_cons (pv 3) pa_nil)) pa_nil)))) (pa_cons pe_int (pa_cons pe_int (pa_cons (pv 1) pa_nil))))))))), ?rd⟩)
  case len =>
    obtain ⟨a, ns, rfl, _⟩ := h
    rfl
  case rd =>
    obtain ⟨a, ns, rfl, hs, hl, hb, q⟩ := h
    have hcl : (ns.map V.int).length = ns.length := by simp
    have item : ∀ {i : Nat} {x : V}, (ns.map V.int)[i]? = some x → ∃ z, z ∈ ns ∧ ns[i]? = some z ∧ x = .int z := fun {i x} hx => by
      rw [List.getElem?_map] at hx
      cases e : ns[i]? with
      | none => rw [e] at hx; cases hx
      | some z => rw [e] at hx; exact ⟨z, List.mem_of_getElem? e, rfl, (Option.some.inj hx).symm⟩
    walk_at "rd"
    refine ⟨a, _, rfl, hs, for_it walk_enum (fun i σ H' => ∃ (t : Int) (v2 v3 : Option V), σ = [some (.ref a), some (.int t), v2, v3] ∧ Ex H H' ∧ 0 ≤ t ∧ t < 2147483629) ⟨17, none, none, rfl, Ex.refl H, by decide, by decide⟩ (fun i σ H' _ ⟨_, _, _, _, e, _⟩ => ex_l e hs) ?_ ?_⟩
    · rintro i x σ H1 H2 hi ⟨t, v2, v3, rfl, e1, t0, t1⟩ ⟨T, p, y, rfl, hT, rfl, hp, hy⟩
      obtain rfl : V.int ((i : Nat) : Int) = p := Option.some.inj hp
      obtain ⟨z, hz, _, rfl⟩ := item hy
      refine ⟨T, _, rfl, st_of upd_same, rfl, ?_⟩
      walk_at "rd"
      refine rd_I (mulx_ok (a := 31) (b := 6) (by omega) (by decide) (by decide)) ?_
      walk_at "rd"
      refine rd_I (mulx_ok (a := 2) (b := 20) (by decide) (by rw [hcl] at hi; omega) (by decide)) ?_
      walk_at "rd"
      refine rd_I (mulx_bits (a := 1048576) (b := 20) (hb z hz) (bits_le (by rw [hcl] at hi; omega)) (by decide)) ?_
      walk_at "rd"
      obtain ⟨f1, f2⟩ := fmod_bd (t * 37 + z * (2 * ((i : Nat) : Int) + 3)) (j := 2147483629) (by decide)
      exact ⟨_, _, _, rfl, e1.trans (Ex.new hT), f1, f2⟩
    · rintro σ H1 ⟨t, v2, v3, rfl, e1, t0, t1⟩
      walk_at "rd"
      refine ⟨a, rfl, ⟨_, ex_l e1 hs⟩, lc_lstT (fun _ => true) (fun i => .int (if ns.getD i 0 < 0 then -(ns.getD i 0) else ns.getD i 0)) (ex_l e1 hs) (by rw [hcl]; omega) (fun _ => rfl) (fun i x H2 e2 hx H3 e3 R q => q _ (Ex.refl _)) (fun i x H2 e2 hx hf H3 e3 R q => ?_) fun c H2 hc e2 h2 => ?_⟩
      · obtain ⟨z, hz, hz2, rfl⟩ := item hx
        walk_at "rd"
        refine rd_ex1 ?_
        have q2 := q _ (Ex.refl _)
        rw [List.getD_eq_getElem?_getD, hz2] at q2
        exact q2
      · walk_at "rd"
        refine ⟨by show 4 ≤ sizeLine; decide, fun h0 hh0 => ?_⟩
        have ec : given (ns.map V.int).length (fun _ => true) (fun i => V.int (if ns.getD i 0 < 0 then -(ns.getD i 0) else ns.getD i 0)) = (ns.map fun z => if z < 0 then -z else z).map V.int := by
          rw [hcl, given_map]
          refine List.ext_getElem (by simp) fun i h1 h2 => ?_
          simp only [List.getElem_map, List.getElem_range]
          rw [List.getD_eq_getElem?_getD, List.getElem?_eq_getElem (by simpa using h2)]
          rfl
        rw [ec] at h2
        have ne : c ≠ h0 := ne_of_none h2 hh0
        refine q h0 c _ (fresh_back (e1.trans e2) hh0) ((e1.trans e2).trans (Ex.new hh0)) (HandC.mk (i := 0) upd_same (by rw [upd_ne ne]; exact h2) ne (fun z hz => ?_) (Nat.zero_le _) (by rw [List.length_map]; exact hl) (Int.le_refl 0) (by decide) t0 t1)
        obtain ⟨y, hy, rfl⟩ := List.mem_map.mp hz
        refine ⟨by split <;> omega, ?_⟩
        rw [bits_abs]
        exact hb y hy
def spLetters (K : PySem.W.Frag) : Sp := fun vs H Q _ => ∃ h c : Addr, vs = [.ref h] ∧ HandC c H h ∧ ∀ (m : Nat) (H' : Hp), 1 ≤ m → m ≤ 5 → Dh h H H' → HandC c H' h → Q (.int (m : Int)) H'
theorem lets12 : ∀ r : Nat, r < 12 → ∃ m : Nat, ([3, 4, 3, 4, 3, 4, 3, 4, 5, 5, 2, 1].map V.int)[r]? = some (.int (m : Int)) ∧ 1 ≤ m ∧ m ≤ 5 := by
  intro r hr
  rcases (show r = 0 ∨ r = 1 ∨ r = 2 ∨ r = 3 ∨ r = 4 ∨ r = 5 ∨ r = 6 ∨ r = 7 ∨ r = 8 ∨ r = 9 ∨ r = 10 ∨ r = 11 by omega) with rfl | rfl | rfl | rfl | rfl | rfl | rfl | rfl | rfl | rfl | rfl | rfl
  · exact ⟨3, rfl, by decide, by decide⟩
  · exact ⟨4, rfl, by decide, by decide⟩
  · exact ⟨3, rfl, by decide, by decide⟩
  · exact ⟨4, rfl, by decide, by decide⟩
  · exact ⟨3, rfl, by decide, by decide⟩
  · exact ⟨4, rfl, by decide, by decide⟩
  · exact ⟨3, rfl, by decide, by decide⟩
  · exact ⟨4, rfl, by decide, by decide⟩
  · exact ⟨5, rfl, by decide, by decide⟩
  · exact ⟨5, rfl, by decide, by decide⟩
  · exact ⟨2, rfl, by decide, by decide⟩
  · exact ⟨1, rfl, by decide, by decide⟩
theorem h__law_letters (E : Ctx K mg) : Has P w K mg base 16 "_law_letters" ["_law_hand_here"] (spLetters K) := by
  obtain ⟨fd, F⟩ := f__law_letters E
  refine ⟨⟨fd, ?_, F.bindsN fun _ _ _ _ _ _ us hl => match us, hl with | [_], _ => rfl⟩, g__law_letters E, F.kp⟩
  refine F.ok sc__law_letters (fun vs H Q E' h => ?len) (fun cdv A outer s H vs Q E' hr h => ⟨_, (pss_one (ps_ret (pe_ix (kx_list (K := K) rfl) (pe_lst (pa_cons pe_int (pa_cons pe_int (pa_cons pe_int (pa_cons pe_int (pa_cons pe_int (pa_cons pe_int (pa_cons pe_int (pa_cons pe_int (pa_cons pe_int (pa_cons pe_int (pa_cons pe_int (pa_cons pe_int pa_nil))))))))))))) (pe_H (h__law_draw E) (hr.mono (by decide)) (takes_of rfl rfl rfl rfl) (pa_cons (pv 0) (pa_cons pe_int pa_nil))) (fun _ _ => rfl)))), ?rd⟩)
  case len =>
    obtain ⟨h0, c, rfl, _⟩ := h
    rfl
  case rd =>
    obtain ⟨h0, c, rfl, hh, q⟩ := h
    walk_at "rd"
    refine ⟨by show 12 ≤ sizeLine; decide, fun p hp => ?_⟩
    have ne := (hh.away hp).1
    walk_at "rd"
    refine ⟨h0, c, 12, rfl, hh.ex (Ex.new hp), ⟨by decide, by decide⟩, fun r H1 hr d1 hand1 => ?_⟩
    obtain ⟨m, em, m1, m2⟩ := lets12 r (by omega)
    have at1 : H1 p = some (.lst ([3, 4, 3, 4, 3, 4, 3, 4, 5, 5, 2, 1].map V.int)) := d1 _ _ ne upd_same
    refine rd_ix (sq_of at1) em ?_
    exact q m _ m1 m2 ((Dh.of (Ex.new hp)).trans d1) hand1
def spWide (K : PySem.W.Frag) : Sp := fun vs H Q _ => ∃ (h c : Addr) (b : Nat), vs = [.ref h, .int (b : Int)] ∧ HandC c H h ∧ b ≤ 64 ∧ ∀ (r : Nat) (H' : Hp), r < 2 ^ b → Dh h H H' → HandC c H' h → Q (.int (r : Int)) H'
theorem h__law_wide (E : Ctx K mg) : Has P w K mg base 16 "_law_wide" ["_law_hand_here", "_law_bits"] (spWide K) := by
  obtain ⟨fd, F⟩ := f__law_wide E
  refine ⟨⟨fd, ?_, F.bindsN fun _ _ _ _ _ _ us hl => match us, hl with | [_, _], _ => rfl⟩, g__law_wide E, F.kp⟩
  refine F.ok sc__law_wide (fun vs H Q E' h => ?len) (fun cdv A outer s H vs Q E' hr h => ⟨_, (pss_cons (ps_set (i := 2) sc__law_wide.nd rfl (.inl rfl) pe_int)
 (pss_cons (ps_for (passes_of rfl) rfl (pi_range1 rfl (b_range E) (pa_cons (pe_op op_fdivW (pv 1) pe_int) pa_nil)) (pg_name (i := 3) sc__law_wide.nd rfl (.inl rfl))
 (pss_one (ps_set (i := 2) sc__law_wide.nd rfl (.inl rfl) (pe_op op_add (pe_op op_mulX (pv 2) pe_int) (pe_H (h__law_draw E) (hr.mono (by decide)) (takes_of rfl rfl rfl rfl) (pa_cons (pv 0) (pa_cons pe_int pa_nil)))))))
 (pss_one (ps_ret (pe_op op_add (pe_op op_mulX (pv 2) (pe_op on_shl pe_int (pe_op op_sub (pv 1) (pe_op op_mulX (pe_op op_fdivW (pv 1) pe_int) pe_int)))) (pe_H (h__law_draw E) (hr.mono (by decide)) (takes_of rfl rfl rfl rfl) (pa_cons (pv 0) (pa_cons (pe_op on_shl pe_int (pe_op op_sub (pv 1) (pe_op op_mulX (pe_op op_fdivW (pv 1) pe_int) pe_int))) pa_nil)))))))), ?rd⟩)
  case len =>
    obtain ⟨h0, c, b, rfl, _⟩ := h
    rfl
  case rd =>
    obtain ⟨h0, c, b, rfl, hh, hb, q⟩ := h
    walk_at "rd"
    refine rd_I (wide_div (b := 4) (by decide) (by decide) (by decide) (by decide)) ?_
    have e8 : ((b : Int) / 8) = ((b / 8 : Nat) : Int) := by omega
    rw [e8]
    walk_at "rd"
    refine ⟨_, rfl, by omega, by omega, ?_⟩
    rw [Int.toNat_natCast]
    refine for_range (lo := 0) (n := b / 8) (fun i σ H' => ∃ (x : Nat) (v : Option V), σ = [some (.ref h0), some (.int (b : Int)), some (.int (x : Int)), v] ∧ Dh h0 H H' ∧ HandC c H' h0 ∧ x < 256 ^ i) ⟨0, none, rfl, Dh.refl _ _, hh, by decide⟩ ?_ ?_
    · rintro i σ H1 hi ⟨x, v, rfl, d1, h1, hx⟩
      have hx2 : x < 2 ^ 64 := Nat.lt_of_lt_of_le hx (by
        have e : (256 : Nat) ^ i ≤ 256 ^ 8 := Nat.pow_le_pow_right (by decide) (by omega)
        exact Nat.le_trans e (by decide))
      walk_at "rd"
      refine rd_I (mulx_ok (a := 64) (b := 9) (by omega) (by decide) (by decide)) ?_
      walk_at "rd"
      refine ⟨h0, c, 256, rfl, h1, ⟨by decide, by decide⟩, fun r H2 hr d2 h2 => ?_⟩
      walk_at "rd"
      have e2 : (x : Int) * 256 + (r : Int) = ((x * 256 + r : Nat) : Int) := by omega
      rw [e2]
      refine ⟨_, _, rfl, d1.trans d2, h2, ?_⟩
      rw [Nat.pow_succ]
      omega
    · rintro σ H1 ⟨x, v, rfl, d1, h1, hx⟩
      have hx2 : x < 2 ^ 64 := Nat.lt_of_lt_of_le hx (by
        have e : (256 : Nat) ^ (b / 8) ≤ 256 ^ 8 := Nat.pow_le_pow_right (by decide) (by omega)
        exact Nat.le_trans e (by decide))
      walk_at "rd"
      refine rd_I (wide_div (b := 4) (by decide) (by decide) (by decide) (by decide)) ?_
      walk_at "rd"
      refine rd_I (mulx_ok (a := 64) (b := 4) (by omega) (by decide) (by decide)) ?_
      walk_at "rd"
      have e9 : (b : Int) - (b : Int) / 8 * 8 = ((b % 8 : Nat) : Int) := by omega
      rw [e9]
      walk_at "rd"
      have p2 : (2 : Nat) ^ (b % 8) < 2 ^ 8 := Nat.pow_lt_pow_right (by decide) (by omega)
      have p1 : 0 < (2 : Nat) ^ (b % 8) := Nat.pow_pos (by decide)
      generalize hu : (2 : Nat) ^ (b % 8) = u at p1 p2 ⊢
      refine rd_I (mulx_ok (a := 64) (b := 9) (by omega) (by omega) (by decide)) ?_
      walk_at "rd"
      refine rd_I (wide_div (b := 4) (by decide) (by decide) (by decide) (by decide)) ?_
      walk_at "rd"
      refine rd_I (mulx_ok (a := 64) (b := 4) (by omega) (by decide) (by decide)) ?_
      walk_at "rd"
      rw [e9]
      walk_at "rd"
      have p3 : (2 : Nat) ^ (b % 8) < 2 ^ 8 := Nat.pow_lt_pow_right (by decide) (by omega)
      have p4 : 0 < (2 : Nat) ^ (b % 8) := Nat.pow_pos (by decide)
      generalize hu2 : (2 : Nat) ^ (b % 8) = u2 at p3 p4 ⊢
      refine ⟨h0, c, (u2 : Int), rfl, h1, ⟨by omega, by omega⟩, fun r H2 hr d2 h2 => ?_⟩
      walk_at "rd"
      have e10 : (x : Int) * (u : Int) + (r : Int) = ((x * u + r : Nat) : Int) := by
        rw [Int.natCast_add, Int.natCast_mul]
      rw [e10]
      have all : x * u + r < 2 ^ b := by
        have e8 : (256 : Nat) ^ (b / 8) * 2 ^ (b % 8) = 2 ^ b := by
          rw [show (256 : Nat) = 2 ^ 8 from rfl, ← Nat.pow_mul, ← Nat.pow_add, Nat.div_add_mod]
        rw [← e8, hu]
        have eu : u2 = u := hu2.symm.trans hu
        have le : (x + 1) * u ≤ 256 ^ (b / 8) * u := Nat.mul_le_mul_right u hx
        rw [Nat.succ_mul] at le
        omega
      exact q _ _ all (d1.trans d2) h2

end
end Lw

set_option Elab.async false
set_option linter.all false
set_option maxRecDepth 100000
set_option maxHeartbeats 4000000
namespace Lw
open PySem PySem.Spec PyProof.Rows L2 He Evl StX
local macro_rules | `(tactic| walk_at "rd") => `(tactic| (repeat first
  | with_reducible refine rd_seq ?_
  | with_reducible refine rd_asg ?_
  | with_reducible refine rd_ret ?_
  | with_reducible refine rd_next ?_
  | with_reducible refine rd_drop ?_
  | with_reducible refine rd_if ?_
  | with_reducible refine rd_ifE ?_
  | ((with_reducible refine' rd_var ?hv ?_); (case hv => rfl))
  | with_reducible refine rd_c ?_
  | with_reducible refine rd_op ?_
  | with_reducible refine rd_chain ?_
  | with_reducible refine rd_I0 ?_
  | with_reducible refine rd_test ?_
  | with_reducible refine rd_B ?_
  | with_reducible refine rd_bl ?_
  | with_reducible refine rd_not ?_
  | with_reducible refine rd_and ?_
  | with_reducible refine rd_or ?_
  | with_reducible refine rd_andV ?_
  | with_reducible refine rd_orV ?_
  | with_reducible refine rd_notV ?_
  | with_reducible refine rd_cons ?_
  | with_reducible refine rd_nil ?_
  | with_reducible refine rd_CB ?_
  | with_reducible refine rd_callS ?_
  | with_reducible refine rd_raise0 ?_
  | with_reducible refine rd_raise1 ?_
  | with_reducible refine rd_raise2 ?_
  | ((with_reducible refine' rd_eq ?hs ?_); (case hs => rfl))
  | ((with_reducible refine' rd_ne ?hs ?_); (case hs => rfl))
  | ((with_reducible refine' rd_isT ?th ?hT ?_); (case th => assumption); (case hT => decide))
  | with_reducible refine rd_tup ?_
  | with_reducible refine rd_lst ?_
  | with_reducible refine rd_iEnum ?_
  | with_reducible refine rd_iEnumA ?_
  | ((with_reducible refine' rd_ixl ?hl ?hk ?_); (case hl => assumption); (case hk => rfl))
  | with_reducible refine rd_int1 ?_
  | with_reducible refine rd_sub ?_
  | with_reducible refine rd_gcons ?_
  | with_reducible refine rd_gnil ?_
  | with_reducible refine rd_iZip ?_
  | with_reducible refine rd_BM ?_
  | with_reducible refine rd_neg ?_
  | ((with_reducible refine' rd_last ?hl ?_); (case hl => assumption))
  | with_reducible refine rd_lc2 ?_
  | with_reducible refine rd_Rg1 ?_
  | with_reducible refine rd_tupRg ?_
  | with_reducible refine rd_sl ?_
  | with_reducible refine rd_noPart ?_
  | with_reducible refine rd_part ?_
  | with_reducible refine rd_for ?_
  | with_reducible refine rd_iRev ?_
  | with_reducible refine rd_gname ?_
  | with_reducible refine rd_NN ?_
  | with_reducible refine rd_NL ?_
  | with_reducible refine rd_LN ?_
  | ((with_reducible refine' rd_shl1 ?hs ?_); (case hs => omega))
  | ((with_reducible refine' rd_I ?hs ?_); (case hs => first | omega | decide | exact ⟨by decide, by decide, by decide⟩ | exact ⟨by omega, by omega⟩))
  | with_reducible refine rd_tr ?_
  | with_reducible refine rd_trI ?_
  | with_reducible refine rd_star ?_
  | with_reducible refine rd_fmtB ?_
  | with_reducible refine rd_M1 ?_
  | with_reducible refine rd_un ?_
  | with_reducible refine rd_lc ?_
  | with_reducible refine rd_iT ?_
  | with_reducible refine rd_iL ?_
  | with_reducible refine rd_iR1 ?_
  | with_reducible refine rd_iR2 ?_
  | dsimp only [List.set, start]))
section
variable {P : Program} {w : World} {K : PySem.W.Frag} {mg : Str → Option Value} {base : Heap}

theorem ones_ok {H : Hp} {Q : VK} {E : XK} {n : Nat} (h : n < 4294967296) (q : Q (.int ((onesN n : Nat) : Int)) H) : spOnes [.int (n : Int)] H Q E := ⟨n, rfl, Nat.lt_trans h (by decide), q⟩
theorem ones_zero : onesN 0 = 0 := by decide
theorem h__law_ones (E : Ctx K mg) : Has P w K mg base 14 "_law_ones" ["_law_number_here"] (spOnes) := by
  obtain ⟨fd, F⟩ := f__law_ones E
  refine ⟨⟨fd, ?_, F.bindsN fun _ _ _ _ _ _ us hl => match us, hl with | [_], _ => rfl⟩, g__law_ones E, F.kp⟩
  refine F.ok sc__law_ones (fun vs H Q E' h => ?len) (fun cdv A outer s H vs Q E' hr h => ⟨_, (pss_cons (ps_set (i := 1) sc__law_ones.nd rfl (.inl rfl) pe_int)
 (pss_cons (ps_while (passes_of rfl) (pt_cmpR op_gt (pv 0) pe_int (nomark _))
 (pss_cons (ps_set (i := 1) sc__law_ones.nd rfl (.inl rfl) (pe_op op_add (pv 1) (pe_op on_and (pv 0) pe_int)))
 (pss_one (ps_set (i := 0) sc__law_ones.nd rfl (.inl rfl) (pe_op op_fdivW (pv 0) pe_int)))))
 (pss_one (ps_ret (pv 1))))), ?rd⟩)
  case len =>
    obtain ⟨n, rfl, _⟩ := h
    rfl
  case rd =>
    obtain ⟨n, rfl, hn, q⟩ := h
    walk_at "rd"
    refine rd_while ⟨fun k σ H' => ∃ (x m : Nat), σ = [some (.int (x : Int)), some (.int (m : Int))] ∧ H' = H ∧ k = x ∧ x < 1606938044258990275541962092341162602522202993782792835301376 ∧ m + onesN x = onesN n, ⟨n, n, 0, rfl, rfl, rfl, hn, by omega⟩, ?_⟩
    rintro x σ H' ⟨_, m, rfl, rfl, rfl, hx, hm⟩
    walk_at "rd"
    refine ⟨fun z => ?_, fun z => ?_⟩
    · have z : 0 < x := by have := of_decide_eq_true z; omega
      refine ⟨fun σ' H2 => ∃ m', m' < x ∧ ∃ (x' m1 : Nat), σ' = [some (.int (x' : Int)), some (.int (m1 : Int))] ∧ H2 = H' ∧ m' = x' ∧ x' < 1606938044258990275541962092341162602522202993782792835301376 ∧ m1 + onesN x' = onesN n, fun σ' H2 h => h, ?_⟩
      walk_at "rd"
      refine rd_I (wide_div (b := 2) (by decide) (by decide) (by decide) (by decide)) ?_
      walk_at "rd"
      have e1 : (m : Int) + ((x &&& 1 : Nat) : Int) = ((m + x % 2 : Nat) : Int) := by rw [Nat.and_one_is_mod]; omega
      have e2 : (x : Int) / 2 = ((x / 2 : Nat) : Int) := by omega
      rw [e1, e2]
      refine ⟨x / 2, by omega, x / 2, _, rfl, rfl, rfl, by omega, ?_⟩
      have := ones_half x z
      omega
    · have z : x = 0 := by have := of_decide_eq_false z; omega
      subst z
      rw [ones_zero] at hm
      walk_at "rd"
      rw [show m = onesN n by omega]
      exact q
def belB (f g : Nat) : Bool := (List.range 5).all fun l => !(decide (onesN (g / 2 ^ l) < onesN (f / 2 ^ l)))
def spLBelow : Sp := fun vs H Q _ => ∃ f g : Nat, vs = [.int (f : Int), .int (g : Int)] ∧ f < 32 ∧ g < 32 ∧ Q (.bl (belB f g)) H
theorem h__law_is_below (E : Ctx K mg) : Has P w K mg base 15 "_law_is_below" ["_law_f", "_law_g"] (spLBelow) := by
  obtain ⟨fd, F⟩ := f__law_is_below E
  refine ⟨⟨fd, ?_, F.bindsN fun _ _ _ _ _ _ us hl => match us, hl with | [_, _], _ => rfl⟩, g__law_is_below E, F.kp⟩
  refine F.ok sc__law_is_below (fun vs H Q E' h => ?len) (fun cdv A outer s H vs Q E' hr h => ⟨_, (pss_cons (ps_for (passes_of rfl) rfl (pi_range1 rfl (b_range E) (pa_cons pe_int pa_nil)) (pg_name (i := 2) sc__law_is_below.nd rfl (.inl rfl))
 (pss_one (ps_if (pt_cmpR op_gt (pe_H (h__law_ones E) (hr.mono (by decide)) (takes_of rfl rfl rfl rfl) (pa_cons (pe_op on_shr (pv 0) (pv 2)) pa_nil)) (pe_H (h__law_ones E) (hr.mono (by decide)) (takes_of rfl rfl rfl rfl) (pa_cons (pe_op on_shr (pv 1) (pv 2)) pa_nil)) (nomark _))
 (pss_one (ps_ret pe_bl))
 pss_nil)))
 (pss_one (ps_ret pe_bl))), ?rd⟩)
  case len =>
    obtain ⟨f, g, rfl, _⟩ := h
    rfl
  case rd =>
    obtain ⟨f, g, rfl, hf, hg, q⟩ := h
    walk_at "rd"
    refine ⟨5, rfl, by decide, by decide, for_range (lo := 0) (n := 5) (fun i σ H' => ∃ v : Option V, σ = [some (.int (f : Int)), some (.int (g : Int)), v] ∧ H' = H ∧ ∀ k, k < i → ¬ onesN (g / 2 ^ k) < onesN (f / 2 ^ k)) ⟨none, rfl, rfl, fun k hk => absurd hk (Nat.not_lt_zero k)⟩ ?_ ?_⟩
    · rintro i σ H' hi ⟨v, rfl, rfl, hk⟩
      rw [Int.zero_add]
      have h1 : f / 2 ^ i < 4294967296 := Nat.lt_of_le_of_lt (Nat.div_le_self _ _) (by omega)
      have h2 : g / 2 ^ i < 4294967296 := Nat.lt_of_le_of_lt (Nat.div_le_self _ _) (by omega)
      walk_at "rd"
      refine ones_ok h1 ?_
      walk_at "rd"
      refine ones_ok h2 ?_
      walk_at "rd"
      refine ⟨fun z => ?_, fun z => ?_⟩
      · walk_at "rd"
        have z : onesN (g / 2 ^ i) < onesN (f / 2 ^ i) := by have := of_decide_eq_true z; omega
        have e : belB f g = false := by
          unfold belB
          rw [List.all_eq_false]
          exact ⟨i, List.mem_range.mpr hi, by rw [decide_eq_true z]; decide⟩
        rw [e] at q
        exact q
      · have z : ¬ onesN (g / 2 ^ i) < onesN (f / 2 ^ i) := by have := of_decide_eq_false z; omega
        walk_at "rd"
        refine ⟨_, rfl, rfl, fun k h => ?_⟩
        by_cases e : k = i
        · subst e; exact z
        · exact hk k (by omega)
    · rintro σ H' ⟨v, rfl, rfl, hk⟩
      walk_at "rd"
      have e : belB f g = true := by
        unfold belB
        rw [List.all_eq_true]
        intro l hl
        rw [decide_eq_false (hk l (List.mem_range.mp hl))]
        rfl
      rw [e] at q
      exact q
def RetL (H : Hp) (Q : VK) (ns : List Int) : Prop := ∀ p H', H p = none → Ex H H' → H' p = some (.lst (ns.map V.int)) → Q (.ref p) H'
theorem bit_eq1 (n i : Nat) : decide (V.int ((n / 2 ^ i &&& 1 : Nat) : Int) = V.int 1) = (n / 2 ^ i % 2 == 1) := by
  rw [Nat.and_one_is_mod]
  rcases Nat.mod_two_eq_zero_or_one (n / 2 ^ i) with h | h <;> rw [h] <;> rfl
theorem bit_eq0 (n i : Nat) : decide (V.int ((n / 2 ^ i &&& 1 : Nat) : Int) = V.int 0) = !(n / 2 ^ i % 2 == 1) := by
  rw [Nat.and_one_is_mod]
  rcases Nat.mod_two_eq_zero_or_one (n / 2 ^ i) with h | h <;> rw [h] <;> rfl

end
end Lw

set_option Elab.async false
set_option linter.all false
set_option maxRecDepth 100000
set_option maxHeartbeats 4000000
namespace Lw
open PySem PySem.Spec PyProof.Rows L2 He Evl StX
local macro_rules | `(tactic| walk_at "rd") => `(tactic| (repeat first
  | with_reducible refine rd_seq ?_
  | with_reducible refine rd_asg ?_
  | with_reducible refine rd_ret ?_
  | with_reducible refine rd_next ?_
  | with_reducible refine rd_drop ?_
  | with_reducible refine rd_if ?_
  | with_reducible refine rd_ifE ?_
  | ((with_reducible refine' rd_var ?hv ?_); (case hv => rfl))
  | with_reducible refine rd_c ?_
  | with_reducible refine rd_op ?_
  | with_reducible refine rd_chain ?_
  | with_reducible refine rd_I0 ?_
  | with_reducible refine rd_test ?_
  | with_reducible refine rd_B ?_
  | with_reducible refine rd_bl ?_
  | with_reducible refine rd_not ?_
  | with_reducible refine rd_and ?_
  | with_reducible refine rd_or ?_
  | with_reducible refine rd_andV ?_
  | with_reducible refine rd_orV ?_
  | with_reducible refine rd_notV ?_
  | with_reducible refine rd_cons ?_
  | with_reducible refine rd_nil ?_
  | with_reducible refine rd_CB ?_
  | with_reducible refine rd_callS ?_
  | with_reducible refine rd_raise0 ?_
  | with_reducible refine rd_raise1 ?_
  | with_reducible refine rd_raise2 ?_
  | ((with_reducible refine' rd_eq ?hs ?_); (case hs => rfl))
  | ((with_reducible refine' rd_ne ?hs ?_); (case hs => rfl))
  | ((with_reducible refine' rd_isT ?th ?hT ?_); (case th => assumption); (case hT => decide))
  | with_reducible refine rd_tup ?_
  | with_reducible refine rd_lst ?_
  | with_reducible refine rd_iEnum ?_
  | with_reducible refine rd_iEnumA ?_
  | ((with_reducible refine' rd_ixl ?hl ?hk ?_); (case hl => assumption); (case hk => rfl))
  | with_reducible refine rd_int1 ?_
  | with_reducible refine rd_sub ?_
  | with_reducible refine rd_gcons ?_
  | with_reducible refine rd_gnil ?_
  | with_reducible refine rd_iZip ?_
  | with_reducible refine rd_BM ?_
  | with_reducible refine rd_neg ?_
  | ((with_reducible refine' rd_last ?hl ?_); (case hl => assumption))
  | with_reducible refine rd_lc2 ?_
  | with_reducible refine rd_Rg1 ?_
  | with_reducible refine rd_tupRg ?_
  | with_reducible refine rd_sl ?_
  | with_reducible refine rd_noPart ?_
  | with_reducible refine rd_part ?_
  | with_reducible refine rd_for ?_
  | with_reducible refine rd_iRev ?_
  | with_reducible refine rd_gname ?_
  | with_reducible refine rd_NN ?_
  | with_reducible refine rd_NL ?_
  | with_reducible refine rd_LN ?_
  | ((with_reducible refine' rd_shl1 ?hs ?_); (case hs => omega))
  | ((with_reducible refine' rd_I ?hs ?_); (case hs => first | omega | decide | exact ⟨by decide, by decide, by decide⟩ | exact ⟨by omega, by omega⟩))
  | with_reducible refine rd_tr ?_
  | with_reducible refine rd_trI ?_
  | with_reducible refine rd_star ?_
  | with_reducible refine rd_fmtB ?_
  | with_reducible refine rd_M1 ?_
  | with_reducible refine rd_un ?_
  | with_reducible refine rd_lc ?_
  | with_reducible refine rd_iT ?_
  | with_reducible refine rd_iL ?_
  | with_reducible refine rd_iR1 ?_
  | with_reducible refine rd_iR2 ?_
  | dsimp only [List.set, start]))
section
variable {P : Program} {w : World} {K : PySem.W.Frag} {mg : Str → Option Value} {base : Heap}

theorem given_nats {ns : List Nat} (p : Nat → Bool) (F : Nat → V) : given ns.length (fun i => p (ns.getD i 0)) (fun i => F (ns.getD i 0)) = (ns.filter p).map F := by
  have e : ns = (List.range ns.length).map fun i => ns.getD i 0 := by
    refine List.ext_getElem (by simp) fun i h1 h2 => ?_
    simp only [List.getElem_map, List.getElem_range]
    rw [List.getD_eq_getElem?_getD, List.getElem?_eq_getElem h1]
    rfl
  unfold given
  conv => rhs; rw [e, List.filter_map, List.map_map]
  rfl
def fallN (m : Nat) (gs : List Nat) : List Nat := (List.range (2 ^ m)).filter fun f => gs.any fun g => belB f g
def closN (m : Nat) (gs : List Nat) : List Nat := (List.range (2 ^ m)).filter fun f => gs.any fun g => f &&& g == f
theorem given_ints (n : Nat) (f : Nat → Bool) : given n f (fun i => V.int (i : Int)) = (intsL ((List.range n).filter f)).map V.int := by
  unfold given intsL
  rw [List.map_map]
  rfl
def spLSet (fn : Nat → List Nat → List Nat) (K : PySem.W.Frag) : Sp := fun vs H Q _ => ∃ (m : Nat) (a : Addr) (gs : List Nat), vs = [.int (m : Int), .ref a] ∧ m ≤ 5 ∧ H a = some (.lst ((intsL gs).map V.int)) ∧ (∀ g ∈ gs, g < 32) ∧ gs.length ≤ 40 ∧ RetL H Q (intsL (fn m gs))
theorem h__law_falling (E : Ctx K mg) : Has P w K mg base 16 "_law_falling" ["_law_m", "_law_seeds_here"] (spLSet fallN K) := by
  obtain ⟨fd, F⟩ := f__law_falling E
  refine ⟨⟨fd, ?_, F.bindsN fun _ _ _ _ _ _ us hl => match us, hl with | [_, _], _ => rfl⟩, g__law_falling E, F.kp⟩
  refine F.ok sc__law_falling (fun vs H Q E' h => ?len) (fun cdv A outer s H vs Q E' hr h => ⟨_, (pss_one (ps_ret (pe_lc (own := [("_law_f", 2)]) (g := gName 2) rfl sc__law_falling.nd (pi_range1 rfl (b_range E) (pa_cons (pe_op on_shl pe_int (pv 0)) pa_nil)) (blkOk_by (own := [("_law_f", 2)]) (N := N__law_falling) (sc := defScope s__law_falling) (by decide +kernel)) (fun _ _ _ _ _ => (pg_name (i := 2) sc__law_falling.nd rfl (.inr rfl))) (fun _ _ _ _ _ => (pts_one (pt_val (pe_callB (kc_any rfl (K := K) rfl) rfl (b_any E) (by decide +kernel) (pa_cons (pe_lc (own := [("_law_g", 3)]) (g := gName 3) (tt := tYes) rfl sc__law_falling.nd (ki_list (K := K) rfl (pv 1)) (blkOk_by (own := [("_law_g", 3)]) (by kernel_rfl)) (fun _ _ _ _ _ => (pg_name (i := 3) sc__law_falling.nd rfl (.inl rfl))) (fun _ _ _ _ _ => pts_nil) (fun _ _ _ _ _ => (pe_H (h__law_is_below E) (hr.mono (by decide)) takes0 (pa_cons (pv 2) (pa_cons (pv 3) pa_nil))))) pa_nil))))) (fun _ _ _ _ _ => (pv 2))))), ?rd⟩)
  case len =>
    obtain ⟨m, a, gs, rfl, _⟩ := h
    rfl
  case rd =>
    obtain ⟨m, a, gs, rfl, hm, at_, lt, few, q⟩ := h
    have p5 : 2 ^ m ≤ 32 := Nat.le_trans (Nat.pow_le_pow_right (by decide) hm) (by decide)
    have p0 : 0 < 2 ^ m := Nat.pow_pos (by decide)
    have el : ((intsL gs).map V.int).length = gs.length := by simp [intsL]
    have sq : SqL K H a ((intsL gs).map V.int) := sq_of at_
    have item : ∀ {i : Nat} {x : V}, ((intsL gs).map V.int)[i]? = some x → x = .int ((gs.getD i 0 : Nat) : Int) ∧ gs.getD i 0 < 32 := fun {i x} hi => by
      obtain ⟨n, hn, rfl⟩ := nat_at hi
      have := lt n (List.mem_of_getElem? hn)
      rw [List.getD_eq_getElem?_getD, hn]
      exact ⟨rfl, this⟩
    walk_at "rd"
    refine ⟨_, rfl, by omega, by omega, ?_⟩
    rw [Int.toNat_natCast]
    refine lc_rng0 (n := 2 ^ m) (fun f => gs.any fun g => belB f g) (fun i => .int (i : Int)) (by omega) (fun _ => rfl) (fun i H1 e1 hi H2 e2 R q => ?_) (fun i H1 e1 hi hf H2 e2 R q => ?_) fun p H1 hp e1 hl => ?_
    · walk_at "rd"
      have sq2 := ex_l (e1.trans e2) sq
      refine ⟨a, rfl, ⟨_, sq2⟩, lc_lstT (fun _ => true) (fun j => .bl ((fun f g => belB f g) i (gs.getD j 0))) sq2 (by rw [el]; omega) (fun _ => rfl) (fun j x H3 e3 hx H4 e4 R2 q2 => q2 _ (Ex.refl _)) (fun j x H3 e3 hx hf H4 e4 R2 q2 => ?_) fun p H3 hp e3 hl => ?_⟩
      · obtain ⟨rfl, lt⟩ := item hx
        walk_at "rd"
        exact ⟨i, _, rfl, by omega, lt, q2 _ (Ex.refl _)⟩
      · rw [el, given_nats (fun _ => true) (fun g => V.bl ((fun f g => belB f g) i g)), List.filter_eq_self.mpr (fun _ _ => rfl)] at hl
        have eb : (gs.map fun g => V.bl ((fun f g => belB f g) i g)) = (gs.map fun g => (fun f g => belB f g) i g).map V.bl := by
          rw [List.map_map]
          rfl
        rw [eb] at hl
        walk_at "rd"
        refine ⟨p, _, rfl, sq_of hl, _, rfl, ?_⟩
        rw [List.any_map]
        exact q _ e3
    · walk_at "rd"
      exact q _ (Ex.refl _)
    · rw [given_ints] at hl
      exact q p H1 hp e1 hl
theorem h__law_closed (E : Ctx K mg) : Has P w K mg base 14 "_law_closed" ["_law_m", "_law_seeds_here"] (spLSet closN K) := by
  obtain ⟨fd, F⟩ := f__law_closed E
  refine ⟨⟨fd, ?_, F.bindsN fun _ _ _ _ _ _ us hl => match us, hl with | [_, _], _ => rfl⟩, g__law_closed E, F.kp⟩
  refine F.ok sc__law_closed (fun vs H Q E' h => ?len) (fun cdv A outer s H vs Q E' hr h => ⟨_, (pss_one (ps_ret (pe_lc (own := [("_law_f", 2)]) (g := gName 2) rfl sc__law_closed.nd (pi_range1 rfl (b_range E) (pa_cons (pe_op on_shl pe_int (pv 0)) pa_nil)) (blkOk_by (own := [("_law_f", 2)]) (N := N__law_closed) (sc := defScope s__law_closed) (by decide +kernel)) (fun _ _ _ _ _ => (pg_name (i := 2) sc__law_closed.nd rfl (.inr rfl))) (fun _ _ _ _ _ => (pts_one (pt_val (pe_callB (kc_any rfl (K := K) rfl) rfl (b_any E) (by decide +kernel) (pa_cons (pe_lc (own := [("_law_g", 3)]) (g := gName 3) (tt := tYes) rfl sc__law_closed.nd (ki_list (K := K) rfl (pv 1)) (blkOk_by (own := [("_law_g", 3)]) (by kernel_rfl)) (fun _ _ _ _ _ => (pg_name (i := 3) sc__law_closed.nd rfl (.inl rfl))) (fun _ _ _ _ _ => pts_nil) (fun _ _ _ _ _ => (pe_cmpR op_eq (pe_op on_and (pv 2) (pv 3)) (pv 2) (nomark _)))) pa_nil))))) (fun _ _ _ _ _ => (pv 2))))), ?rd⟩)
  case len =>
    obtain ⟨m, a, gs, rfl, _⟩ := h
    rfl
  case rd =>
    obtain ⟨m, a, gs, rfl, hm, at_, lt, few, q⟩ := h
    have p5 : 2 ^ m ≤ 32 := Nat.le_trans (Nat.pow_le_pow_right (by decide) hm) (by decide)
    have p0 : 0 < 2 ^ m := Nat.pow_pos (by decide)
    have el : ((intsL gs).map V.int).length = gs.length := by simp [intsL]
    have sq : SqL K H a ((intsL gs).map V.int) := sq_of at_
    have item : ∀ {i : Nat} {x : V}, ((intsL gs).map V.int)[i]? = some x → x = .int ((gs.getD i 0 : Nat) : Int) ∧ gs.getD i 0 < 32 := fun {i x} hi => by
      obtain ⟨n, hn, rfl⟩ := nat_at hi
      have := lt n (List.mem_of_getElem? hn)
      rw [List.getD_eq_getElem?_getD, hn]
      exact ⟨rfl, this⟩
    walk_at "rd"
    refine ⟨_, rfl, by omega, by omega, ?_⟩
    rw [Int.toNat_natCast]
    refine lc_rng0 (n := 2 ^ m) (fun f => gs.any fun g => f &&& g == f) (fun i => .int (i : Int)) (by omega) (fun _ => rfl) (fun i H1 e1 hi H2 e2 R q => ?_) (fun i H1 e1 hi hf H2 e2 R q => ?_) fun p H1 hp e1 hl => ?_
    · walk_at "rd"
      have sq2 := ex_l (e1.trans e2) sq
      refine ⟨a, rfl, ⟨_, sq2⟩, lc_lstT (fun _ => true) (fun j => .bl ((fun f g => f &&& g == f) i (gs.getD j 0))) sq2 (by rw [el]; omega) (fun _ => rfl) (fun j x H3 e3 hx H4 e4 R2 q2 => q2 _ (Ex.refl _)) (fun j x H3 e3 hx hf H4 e4 R2 q2 => ?_) fun p H3 hp e3 hl => ?_⟩
      · obtain ⟨rfl, lt⟩ := item hx
        walk_at "rd"
        have ed : decide (V.int ((i &&& gs.getD j 0 : Nat) : Int) = V.int (i : Int)) = (i &&& gs.getD j 0 == i) := by
          by_cases e : i &&& gs.getD j 0 = i
          · rw [e]
            simp
          · rw [decide_eq_false fun z => e (by injection z with z; omega), beq_eq_false_iff_ne.mpr e]
        rw [ed]
        exact q2 _ (Ex.refl _)
      · rw [el, given_nats (fun _ => true) (fun g => V.bl ((fun f g => f &&& g == f) i g)), List.filter_eq_self.mpr (fun _ _ => rfl)] at hl
        have eb : (gs.map fun g => V.bl ((fun f g => f &&& g == f) i g)) = (gs.map fun g => (fun f g => f &&& g == f) i g).map V.bl := by
          rw [List.map_map]
          rfl
        rw [eb] at hl
        walk_at "rd"
        refine ⟨p, _, rfl, sq_of hl, _, rfl, ?_⟩
        rw [List.any_map]
        exact q _ e3
    · walk_at "rd"
      exact q _ (Ex.refl _)
    · rw [given_ints] at hl
      exact q p H1 hp e1 hl

end
end Lw

set_option Elab.async false
set_option linter.all false
set_option maxRecDepth 100000
set_option maxHeartbeats 4000000
namespace Lw
open PySem PySem.Spec PyProof.Rows L2 He Evl StX
local macro_rules | `(tactic| walk_at "rd") => `(tactic| (repeat first
  | with_reducible refine rd_seq ?_
  | with_reducible refine rd_asg ?_
  | with_reducible refine rd_ret ?_
  | with_reducible refine rd_next ?_
  | with_reducible refine rd_drop ?_
  | with_reducible refine rd_if ?_
  | with_reducible refine rd_ifE ?_
  | ((with_reducible refine' rd_var ?hv ?_); (case hv => rfl))
  | with_reducible refine rd_c ?_
  | with_reducible refine rd_op ?_
  | with_reducible refine rd_chain ?_
  | with_reducible refine rd_I0 ?_
  | with_reducible refine rd_test ?_
  | with_reducible refine rd_B ?_
  | with_reducible refine rd_bl ?_
  | with_reducible refine rd_not ?_
  | with_reducible refine rd_and ?_
  | with_reducible refine rd_or ?_
  | with_reducible refine rd_andV ?_
  | with_reducible refine rd_orV ?_
  | with_reducible refine rd_notV ?_
  | with_reducible refine rd_cons ?_
  | with_reducible refine rd_nil ?_
  | with_reducible refine rd_CB ?_
  | with_reducible refine rd_callS ?_
  | with_reducible refine rd_raise0 ?_
  | with_reducible refine rd_raise1 ?_
  | with_reducible refine rd_raise2 ?_
  | ((with_reducible refine' rd_eq ?hs ?_); (case hs => rfl))
  | ((with_reducible refine' rd_ne ?hs ?_); (case hs => rfl))
  | ((with_reducible refine' rd_isT ?th ?hT ?_); (case th => assumption); (case hT => decide))
  | with_reducible refine rd_tup ?_
  | with_reducible refine rd_lst ?_
  | with_reducible refine rd_iEnum ?_
  | with_reducible refine rd_iEnumA ?_
  | ((with_reducible refine' rd_ixl ?hl ?hk ?_); (case hl => assumption); (case hk => rfl))
  | with_reducible refine rd_int1 ?_
  | with_reducible refine rd_sub ?_
  | with_reducible refine rd_gcons ?_
  | with_reducible refine rd_gnil ?_
  | with_reducible refine rd_iZip ?_
  | with_reducible refine rd_BM ?_
  | with_reducible refine rd_neg ?_
  | ((with_reducible refine' rd_last ?hl ?_); (case hl => assumption))
  | with_reducible refine rd_lc2 ?_
  | with_reducible refine rd_Rg1 ?_
  | with_reducible refine rd_tupRg ?_
  | with_reducible refine rd_sl ?_
  | with_reducible refine rd_noPart ?_
  | with_reducible refine rd_part ?_
  | with_reducible refine rd_for ?_
  | with_reducible refine rd_iRev ?_
  | with_reducible refine rd_gname ?_
  | with_reducible refine rd_NN ?_
  | with_reducible refine rd_NL ?_
  | with_reducible refine rd_LN ?_
  | ((with_reducible refine' rd_shl1 ?hs ?_); (case hs => omega))
  | ((with_reducible refine' rd_I ?hs ?_); (case hs => first | omega | decide | exact ⟨by decide, by decide, by decide⟩ | exact ⟨by omega, by omega⟩))
  | with_reducible refine rd_tr ?_
  | with_reducible refine rd_trI ?_
  | with_reducible refine rd_star ?_
  | with_reducible refine rd_fmtB ?_
  | with_reducible refine rd_M1 ?_
  | with_reducible refine rd_un ?_
  | with_reducible refine rd_lc ?_
  | with_reducible refine rd_iT ?_
  | with_reducible refine rd_iL ?_
  | with_reducible refine rd_iR1 ?_
  | with_reducible refine rd_iR2 ?_
  | dsimp only [List.set, start]))
section
variable {P : Program} {w : World} {K : PySem.W.Frag} {mg : Str → Option Value} {base : Heap}

theorem HandC.free {h c : Addr} {H H' : Hp} {p : Addr} (d : Dh h H H') (x : HandC c H' h) (n : H' p = none) : H p = none := by
  cases q : H p with
  | none => rfl
  | some o =>
    by_cases e : p = h
    · obtain ⟨cells, i, r, t, h1, _⟩ := x
      rw [e, h1] at n
      cases n
    · rw [d p o e q] at n
      cases n
theorem bl_ne (a b : Bool) : (!decide (V.bl a = V.bl b)) = (a != b) := by cases a <;> cases b <;> rfl
def spSeeds (K : PySem.W.Frag) : Sp := fun vs H Q _ => ∃ (h c : Addr) (m : Nat), vs = [.ref h, .int (m : Int)] ∧ HandC c H h ∧ m ≤ 5 ∧
  ∀ (p : Addr) (gs : List Nat) (H' : Hp), H p = none → H' p = some (.lst ((intsL gs).map V.int)) → gs.length ≤ 3 → (∀ g ∈ gs, g < 2 ^ m) → Dh h H H' → HandC c H' h → Q (.ref p) H'
theorem h__law_seeds (E : Ctx K mg) : Has P w K mg base 16 "_law_seeds" ["_law_hand_here", "_law_m"] (spSeeds K) := by
  obtain ⟨fd, F⟩ := f__law_seeds E
  refine ⟨⟨fd, ?_, F.bindsN fun _ _ _ _ _ _ us hl => match us, hl with | [_, _], _ => rfl⟩, g__law_seeds E, F.kp⟩
  refine F.ok sc__law_seeds (fun vs H Q E' h => ?len) (fun cdv A outer s H vs Q E' hr h => ⟨_, (pss_one (ps_ret (pe_lc (own := [("_law_k", 2)]) (g := gName 2) (tt := tYes) rfl sc__law_seeds.nd (pi_range1 rfl (b_range E) (pa_cons (pe_op op_add pe_int (pe_H (h__law_draw E) (hr.mono (by decide)) (takes_of rfl rfl rfl rfl) (pa_cons (pv 0) (pa_cons pe_int pa_nil)))) pa_nil)) (blkOk_by (own := [("_law_k", 2)]) (N := N__law_seeds) (sc := defScope s__law_seeds) (by decide +kernel)) (fun _ _ _ _ _ => (pg_name (i := 2) sc__law_seeds.nd rfl (.inl rfl))) (fun _ _ _ _ _ => pts_nil) (fun _ _ _ _ _ => (pe_H (h__law_draw E) (hr.mono (by decide)) takes0 (pa_cons (pv 0) (pa_cons (pe_op on_shl pe_int (pv 1)) pa_nil))))))), ?rd⟩)
  case len =>
    obtain ⟨h0, c, m, rfl, _⟩ := h
    rfl
  case rd =>
    obtain ⟨h0, c, m, rfl, hand, hm, q⟩ := h
    have p5 : 2 ^ m ≤ 32 := Nat.le_trans (Nat.pow_le_pow_right (by decide) hm) (by decide)
    have p0 : 0 < 2 ^ m := Nat.pow_pos (by decide)
    walk_at "rd"
    refine ⟨h0, c, 3, rfl, hand, ⟨by decide, by decide⟩, fun r H1 hr d1 hand1 => ?_⟩
    walk_at "rd"
    have er : (1 : Int) + (r : Int) = ((1 + r : Nat) : Int) := by omega
    rw [er]
    refine ⟨_, rfl, by omega, by omega, ?_⟩
    rw [Int.toNat_natCast]
    refine fun D hD => lc_range (lo := 0) (n := 1 + r) (fun i H' => ∃ gs : List Nat, gs.length = i ∧ (∀ g ∈ gs, g < 2 ^ m) ∧ H' D = some (.lst ((intsL gs).map V.int)) ∧ Dh h0 H H' ∧ HandC c H' h0) ⟨[], rfl, (fun _ h => nomatch h), upd_same, d1.trans (Dh.of (Ex.new hD)), hand1.ex (Ex.new hD)⟩ (fun i H' hi ⟨gs, len, bd, atD, d, hd⟩ => ⟨rfl, ?_⟩) fun H' ⟨gs, len, bd, atD, d, hd⟩ => ?_
    · obtain ⟨n1, n2⟩ := hand1.away hD
      dsimp only [tYes]
      rw [if_pos rfl]
      walk_at "rd"
      refine ⟨h0, c, _, rfl, hd, ⟨by omega, by omega⟩, fun x H2 hx d2 hd2 => ?_⟩
      have D0 : H D = none := HandC.free d1 hand1 hD
      refine ⟨_, d2 _ _ n1 atD, sz_lt (by rw [List.length_map]; unfold intsL; rw [List.length_map]; omega), gs ++ [x], by rw [List.length_append, len]; rfl, fun g hg => ?_, by rw [upd_same]; unfold intsL; rw [List.map_append, List.map_append]; rfl, fun a o na ha => ?_, hd2.set n1 n2⟩
      · rcases List.mem_append.mp hg with hg | hg
        · exact bd g hg
        · rw [List.mem_singleton.mp hg]
          omega
      · have c1 : a ≠ D := fun e => by rw [e, D0] at ha; cases ha
        rw [upd_ne c1]
        exact d2 _ _ na (d _ _ na ha)
    · exact q D gs H' (HandC.free d1 hand1 hD) atD (by omega) bd d hd
def spChoice (K : PySem.W.Frag) : Sp := fun vs H Q _ => ∃ (h c : Addr) (m : Nat), vs = [.ref h, .int (m : Int)] ∧ HandC c H h ∧ m ≤ 5 ∧
  ∀ (p : Addr) (f : Nat → Bool) (H' : Hp), H p = none → H' p = some (.lst ((intsL ((List.range (2 ^ m)).filter f)).map V.int)) → Dh h H H' → HandC c H' h → Q (.ref p) H'
theorem h__law_choice (E : Ctx K mg) : Has P w K mg base 17 "_law_choice" ["_law_hand_here", "_law_m"] (spChoice K) := by
  obtain ⟨fd, F⟩ := f__law_choice E
  refine ⟨⟨fd, ?_, F.bindsN fun _ _ _ _ _ _ us hl => match us, hl with | [_, _], _ => rfl⟩, g__law_choice E, F.kp⟩
  refine F.ok sc__law_choice (fun vs H Q E' h => ?len) (fun cdv A outer s H vs Q E' hr h => ⟨_, (pss_cons (ps_set (i := 2) sc__law_choice.nd rfl (.inl rfl) (pe_H (h__law_draw E) (hr.mono (by decide)) (takes_of rfl rfl rfl rfl) (pa_cons (pv 0) (pa_cons pe_int pa_nil))))
 (pss_cons (ps_if (pt_cmpR op_lt (pv 2) pe_int (nomark _))
 (pss_one (ps_ret (pe_H (h__law_falling E) (hr.mono (by decide)) (takes_of rfl rfl rfl rfl) (pa_cons (pv 1) (pa_cons (pe_H (h__law_seeds E) (hr.mono (by decide)) (takes_of rfl rfl rfl rfl) (pa_cons (pv 0) (pa_cons (pv 1) pa_nil))) pa_nil)))))
 pss_nil)
 (pss_cons (ps_if (pt_cmpR op_lt (pv 2) pe_int (nomark _))
 (pss_one (ps_ret (pe_H (h__law_closed E) (hr.mono (by decide)) (takes_of rfl rfl rfl rfl) (pa_cons (pv 1) (pa_cons (pe_H (h__law_seeds E) (hr.mono (by decide)) (takes_of rfl rfl rfl rfl) (pa_cons (pv 0) (pa_cons (pv 1) pa_nil))) pa_nil)))))
 pss_nil)
 (pss_cons (ps_if (pt_cmpR op_eq (pv 2) pe_int (nomark _))
 (pss_cons (ps_set (i := 3) sc__law_choice.nd rfl (.inr rfl) (pe_H (h__law_wide E) (hr.mono (by decide)) (takes_of rfl rfl rfl rfl) (pa_cons (pv 0) (pa_cons (pe_op on_shl pe_int (pv 1)) pa_nil))))
 (pss_one (ps_ret (pe_lc (own := [("_law_heap", 6)]) (g := gName 6) rfl sc__law_choice.nd (pi_range1 rfl (b_range E) (pa_cons (pe_op on_shl pe_int (pv 1)) pa_nil)) (blkOk_by (own := [("_law_heap", 6)]) (N := N__law_choice) (sc := defScope s__law_choice) (by decide +kernel)) (fun _ _ _ _ _ => (pg_name (i := 6) sc__law_choice.nd rfl (.inl rfl))) (fun _ _ _ _ _ => (pts_one (pt_cmpR op_eq (pe_op on_and (pe_op on_shr (pv 3) (pv 6)) pe_int) pe_int (nomark _)))) (fun _ _ _ _ _ => (pv 6))))))
 pss_nil)
 (pss_cons (ps_set (i := 4) sc__law_choice.nd rfl (.inr rfl) (pe_H (h__law_falling E) (hr.mono (by decide)) (takes_of rfl rfl rfl rfl) (pa_cons (pv 1) (pa_cons (pe_H (h__law_seeds E) (hr.mono (by decide)) (takes_of rfl rfl rfl rfl) (pa_cons (pv 0) (pa_cons (pv 1) pa_nil))) pa_nil))))
 (pss_cons (ps_set (i := 5) sc__law_choice.nd rfl (.inr rfl) (pe_H (h__law_draw E) (hr.mono (by decide)) (takes_of rfl rfl rfl rfl) (pa_cons (pv 0) (pa_cons (pe_op on_shl pe_int (pv 1)) pa_nil))))
 (pss_one (ps_ret (pe_lc (own := [("_law_heap", 6)]) (g := gName 6) rfl sc__law_choice.nd (pi_range1 rfl (b_range E) (pa_cons (pe_op on_shl pe_int (pv 1)) pa_nil)) (blkOk_by (own := [("_law_heap", 6)]) (N := N__law_choice) (sc := defScope s__law_choice) (by decide +kernel)) (fun _ _ _ _ _ => (pg_name (i := 6) sc__law_choice.nd rfl (.inl rfl))) (fun _ _ _ _ _ => (pts_one (pt_cmpR op_ne (pe_cmpR (ko_in (K := K) rfl) (pv 6) (pv 4) (by with_unfolding_all rfl)) (pe_cmpR op_eq (pv 6) (pv 5) (nomark _)) (nomark _)))) (fun _ _ _ _ _ => (pv 6))))))))))), ?rd⟩)
  case len =>
    obtain ⟨h0, c, m, rfl, _⟩ := h
    rfl
  case rd =>
    obtain ⟨h0, c, m, rfl, hand, hm, q⟩ := h
    have p5 : 2 ^ m ≤ 32 := Nat.le_trans (Nat.pow_le_pow_right (by decide) hm) (by decide)
    have p0 : 0 < 2 ^ m := Nat.pow_pos (by decide)
    walk_at "rd"
    refine ⟨h0, c, 8, rfl, hand, ⟨by decide, by decide⟩, fun r H1 hr d1 hand1 => ?_⟩
    walk_at "rd"
    refine ⟨fun z => ?_, fun z4 => ?_⟩
    · walk_at "rd"
      refine ⟨h0, c, m, rfl, hand1, hm, fun p gs H2 hp at2 len bd d2 hand2 => ?_⟩
      walk_at "rd"
      refine ⟨m, p, gs, rfl, hm, at2, fun g hg => by have := bd g hg; omega, by omega, fun p2 H3 hp2 e3 at3 => ?_⟩
      exact q p2 _ H3 (HandC.free (d1.trans d2) hand2 hp2) at3 ((d1.trans d2).trans (Dh.of e3)) (hand2.ex e3)
    walk_at "rd"
    refine ⟨fun z => ?_, fun z6 => ?_⟩
    · walk_at "rd"
      refine ⟨h0, c, m, rfl, hand1, hm, fun p gs H2 hp at2 len bd d2 hand2 => ?_⟩
      walk_at "rd"
      refine ⟨m, p, gs, rfl, hm, at2, fun g hg => by have := bd g hg; omega, by omega, fun p2 H3 hp2 e3 at3 => ?_⟩
      exact q p2 _ H3 (HandC.free (d1.trans d2) hand2 hp2) at3 ((d1.trans d2).trans (Dh.of e3)) (hand2.ex e3)
    walk_at "rd"
    refine ⟨fun z => ?_, fun z7 => ?_⟩
    · walk_at "rd"
      refine ⟨h0, c, 2 ^ m, rfl, hand1, by omega, fun bits H2 hb d2 hand2 => ?_⟩
      walk_at "rd"
      refine ⟨_, rfl, by omega, by omega, ?_⟩
      rw [Int.toNat_natCast]
      refine lc_rng0 (n := 2 ^ m) (fun i => bits / 2 ^ i % 2 == 1) (fun i => .int (i : Int)) (by omega) (fun _ => rfl) (fun i H6 e6 hi H7 e7 R q => ?_) (fun i H6 e6 hi hf H7 e7 R q => ?_) fun p2 H3 hp2 e3 at3 => ?_
      · walk_at "rd"
        rw [bit_eq1]
        exact q _ (Ex.refl _)
      · walk_at "rd"
        exact q _ (Ex.refl _)
      · rw [given_ints] at at3
        exact q p2 _ H3 (HandC.free (d1.trans d2) hand2 hp2) at3 ((d1.trans d2).trans (Dh.of e3)) (hand2.ex e3)
    walk_at "rd"
    refine ⟨h0, c, m, rfl, hand1, hm, fun p gs H2 hp at2 len bd d2 hand2 => ?_⟩
    walk_at "rd"
    refine ⟨m, p, gs, rfl, hm, at2, fun g hg => by have := bd g hg; omega, by omega, fun p2 H3 hp2 e3 at3 => ?_⟩
    have hand3 := hand2.ex e3
    have n2 := (hand2.away hp2).1
    walk_at "rd"
    refine ⟨h0, c, _, rfl, hand3, ⟨by omega, by omega⟩, fun t H4 ht d4 hand4 => ?_⟩
    have at4 := d4 _ _ n2 at3
    walk_at "rd"
    refine ⟨_, rfl, by omega, by omega, ?_⟩
    rw [Int.toNat_natCast]
    refine lc_rng0 (n := 2 ^ m) (fun i => decide (i ∈ fallN m gs) != decide (i = t)) (fun i => .int (i : Int)) (by omega) (fun _ => rfl) (fun i H6 e6 hi H7 e7 R q => ?_) (fun i H6 e6 hi hf H7 e7 R q => ?_) fun p3 H5 hp3 e5 at5 => ?_
    · walk_at "rd"
      refine ⟨p2, _, rfl, .inl (sq_of ((e6.trans e7) _ _ at4)), rfl, flat_ints _, ?_⟩
      rw [if_neg Bool.false_ne_true, in_ints, any_nats]
      walk_at "rd"
      have ed : decide (V.int (i : Int) = V.int (t : Int)) = decide (i = t) := by
        by_cases e : i = t
        · rw [e, decide_eq_true rfl, decide_eq_true rfl]
        · rw [decide_eq_false e, decide_eq_false fun z => e (by injection z with z; omega)]
      rw [bl_ne, ed]
      exact q _ (Ex.refl _)
    · walk_at "rd"
      exact q _ (Ex.refl _)
    · rw [given_ints] at at5
      have dA := ((d1.trans d2).trans (Dh.of e3)).trans d4
      exact q p3 _ H5 (HandC.free dA hand4 hp3) at5 (dA.trans (Dh.of e5)) (hand4.ex e5)

end
end Lw

set_option Elab.async false
set_option linter.all false
set_option maxRecDepth 100000
set_option maxHeartbeats 4000000
namespace Lw
open PySem PySem.Spec PyProof.Rows L2 He Evl StX
local macro_rules | `(tactic| walk_at "rd") => `(tactic| (repeat first
  | with_reducible refine rd_seq ?_
  | with_reducible refine rd_asg ?_
  | with_reducible refine rd_ret ?_
  | with_reducible refine rd_next ?_
  | with_reducible refine rd_drop ?_
  | with_reducible refine rd_if ?_
  | with_reducible refine rd_ifE ?_
  | ((with_reducible refine' rd_var ?hv ?_); (case hv => rfl))
  | with_reducible refine rd_c ?_
  | with_reducible refine rd_op ?_
  | with_reducible refine rd_chain ?_
  | with_reducible refine rd_I0 ?_
  | with_reducible refine rd_test ?_
  | with_reducible refine rd_B ?_
  | with_reducible refine rd_bl ?_
  | with_reducible refine rd_not ?_
  | with_reducible refine rd_and ?_
  | with_reducible refine rd_or ?_
  | with_reducible refine rd_andV ?_
  | with_reducible refine rd_orV ?_
  | with_reducible refine rd_notV ?_
  | with_reducible refine rd_cons ?_
  | with_reducible refine rd_nil ?_
  | with_reducible refine rd_CB ?_
  | with_reducible refine rd_callS ?_
  | with_reducible refine rd_raise0 ?_
  | with_reducible refine rd_raise1 ?_
  | with_reducible refine rd_raise2 ?_
  | ((with_reducible refine' rd_eq ?hs ?_); (case hs => rfl))
  | ((with_reducible refine' rd_ne ?hs ?_); (case hs => rfl))
  | ((with_reducible refine' rd_isT ?th ?hT ?_); (case th => assumption); (case hT => decide))
  | with_reducible refine rd_tup ?_
  | with_reducible refine rd_lst ?_
  | with_reducible refine rd_iEnum ?_
  | with_reducible refine rd_iEnumA ?_
  | ((with_reducible refine' rd_ixl ?hl ?hk ?_); (case hl => assumption); (case hk => rfl))
  | with_reducible refine rd_int1 ?_
  | with_reducible refine rd_sub ?_
  | with_reducible refine rd_gcons ?_
  | with_reducible refine rd_gnil ?_
  | with_reducible refine rd_iZip ?_
  | with_reducible refine rd_BM ?_
  | with_reducible refine rd_neg ?_
  | ((with_reducible refine' rd_last ?hl ?_); (case hl => assumption))
  | with_reducible refine rd_lc2 ?_
  | with_reducible refine rd_Rg1 ?_
  | with_reducible refine rd_tupRg ?_
  | with_reducible refine rd_sl ?_
  | with_reducible refine rd_noPart ?_
  | with_reducible refine rd_part ?_
  | with_reducible refine rd_for ?_
  | with_reducible refine rd_iRev ?_
  | with_reducible refine rd_gname ?_
  | with_reducible refine rd_NN ?_
  | with_reducible refine rd_NL ?_
  | with_reducible refine rd_LN ?_
  | ((with_reducible refine' rd_shl1 ?hs ?_); (case hs => omega))
  | ((with_reducible refine' rd_I ?hs ?_); (case hs => first | omega | decide | exact ⟨by decide, by decide, by decide⟩ | exact ⟨by omega, by omega⟩))
  | with_reducible refine rd_tr ?_
  | with_reducible refine rd_trI ?_
  | with_reducible refine rd_star ?_
  | with_reducible refine rd_fmtB ?_
  | with_reducible refine rd_M1 ?_
  | with_reducible refine rd_un ?_
  | with_reducible refine rd_lc ?_
  | with_reducible refine rd_iT ?_
  | with_reducible refine rd_iL ?_
  | with_reducible refine rd_iR1 ?_
  | with_reducible refine rd_iR2 ?_
  | dsimp only [List.set, start]))
section
variable {P : Program} {w : World} {K : PySem.W.Frag} {mg : Str → Option Value} {base : Heap}

theorem markN_app (a b : List Nat) : markN (a ++ b) = markN a + markN b := by
  unfold markN
  rw [List.map_append, List.sum_append]
/-- the word of a heap, place by place -/
def heapW (m h : Nat) : Nat := markN ((List.range (2 ^ m)).filter fun p => p &&& h == h)
theorem heapW_step : ∀ m : Nat, m < 6 → ∀ h : Nat, h < 32 → h < 2 ^ m → stepN m (2 ^ h) = heapW m h := by decide +kernel
theorem markN_filter_lt (k : Nat) (f : Nat → Bool) : markN ((List.range k).filter f) < 2 ^ k :=
  markN_lt (List.nodup_range.filter _) fun p hp => List.mem_range.mp (List.mem_filter.mp hp).1
def spLHeapWord : Sp := fun vs H Q _ => ∃ m h : Nat, vs = [.int (m : Int), .int (h : Int)] ∧ m ≤ 5 ∧ Q (.int ((heapW m h : Nat) : Int)) H
theorem h__law_heap_word (E : Ctx K mg) : Has P w K mg base 14 "_law_heap_word" ["_law_m", "_law_heap"] (spLHeapWord) := by
  obtain ⟨fd, F⟩ := f__law_heap_word E
  refine ⟨⟨fd, ?_, F.bindsN fun _ _ _ _ _ _ us hl => match us, hl with | [_, _], _ => rfl⟩, g__law_heap_word E, F.kp⟩
  refine F.ok sc__law_heap_word (fun vs H Q E' h => ?len) (fun cdv A outer s H vs Q E' hr h => ⟨_, (pss_cons (ps_set (i := 2) sc__law_heap_word.nd rfl (.inl rfl) pe_int)
 (pss_cons (ps_for (passes_of rfl) rfl (pi_range1 rfl (b_range E) (pa_cons (pe_op on_shl pe_int (pv 0)) pa_nil)) (pg_name (i := 3) sc__law_heap_word.nd rfl (.inl rfl))
 (pss_one (ps_if (pt_cmpR op_eq (pe_op on_and (pv 3) (pv 1)) (pv 1) (nomark _))
 (pss_one (ps_set (i := 2) sc__law_heap_word.nd rfl (.inl rfl) (pe_op op_add (pv 2) (pe_op on_shl pe_int (pv 3)))))
 pss_nil)))
 (pss_one (ps_ret (pv 2))))), ?rd⟩)
  case len =>
    obtain ⟨m, h0, rfl, _⟩ := h
    rfl
  case rd =>
    obtain ⟨m, h0, rfl, hm, q⟩ := h
    have p5 : 2 ^ m ≤ 32 := Nat.le_trans (Nat.pow_le_pow_right (by decide) hm) (by decide)
    have p0 : 0 < 2 ^ m := Nat.pow_pos (by decide)
    walk_at "rd"
    refine ⟨_, rfl, by omega, by omega, ?_⟩
    rw [Int.toNat_natCast]
    refine for_range (lo := 0) (n := 2 ^ m) (fun i σ H' => ∃ v : Option V, σ = [some (.int (m : Int)), some (.int (h0 : Int)), some (.int ((markN ((List.range i).filter fun p => p &&& h0 == h0) : Nat) : Int)), v] ∧ H' = H) ⟨none, rfl, rfl⟩ ?_ ?_
    · rintro i σ H1 hi ⟨v, rfl, rfl⟩
      rw [Int.zero_add]
      walk_at "rd"
      have ed : decide (V.int ((i &&& h0 : Nat) : Int) = V.int (h0 : Int)) = (i &&& h0 == h0) := by
        by_cases e : i &&& h0 = h0
        · rw [e]
          simp
        · rw [decide_eq_false fun z => e (by injection z with z; omega), beq_eq_false_iff_ne.mpr e]
      rw [ed]
      refine ⟨fun z => ?_, fun z => ?_⟩
      · walk_at "rd"
        refine ⟨some (.int (i : Int)), ?_, rfl⟩
        have e : ((markN ((List.range i).filter fun p => p &&& h0 == h0) : Nat) : Int) + ((2 ^ i : Nat) : Int) = ((markN ((List.range (i + 1)).filter fun p => p &&& h0 == h0) : Nat) : Int) := by
          rw [List.range_succ, List.filter_append, List.filter_cons, if_pos z, markN_app, Int.natCast_add]
          rfl
        rw [e]
        rfl
      · walk_at "rd"
        refine ⟨some (.int (i : Int)), ?_, rfl⟩
        rw [List.range_succ, List.filter_append, List.filter_cons, if_neg (by rw [z]; decide), List.filter_nil, List.append_nil]
        rfl
    · rintro σ H1 ⟨v, rfl, rfl⟩
      walk_at "rd"
      exact q
def sumW (m : Nat) (ps : List Nat) : Nat := ps.foldl (fun w p => w ^^^ heapW m p) 0
def spLSum : Sp := fun vs H Q _ => ∃ (m : Nat) (a : Addr) (ps : List Nat), vs = [.int (m : Int), .ref a] ∧ m ≤ 5 ∧ H a = some (.tup ((intsL ps).map V.int)) ∧ Q (.int ((sumW m ps : Nat) : Int)) H
theorem and_xor (a b w : Nat) : (a ^^^ b) &&& w = (a &&& w) ^^^ (b &&& w) := by
  refine Nat.eq_of_testBit_eq fun i => ?_
  simp only [Nat.testBit_xor, Nat.testBit_and]
  cases a.testBit i <;> cases b.testBit i <;> cases w.testBit i <;> rfl
theorem mul_xor (a b k : Nat) : (a ^^^ b) * 2 ^ k = (a * 2 ^ k) ^^^ (b * 2 ^ k) := by
  rw [← Nat.shiftLeft_eq, ← Nat.shiftLeft_eq, ← Nat.shiftLeft_eq]
  refine Nat.eq_of_testBit_eq fun i => ?_
  simp only [Nat.testBit_xor, Nat.testBit_shiftLeft]
  cases decide (i ≥ k) <;> simp
theorem step1_xor (a b l : Nat) : step1 (a ^^^ b) l = step1 a l ^^^ step1 b l := by
  unfold step1
  rw [and_xor, mul_xor]
  refine Nat.eq_of_testBit_eq fun i => ?_
  simp only [Nat.testBit_xor]
  cases a.testBit i <;> cases b.testBit i <;> simp
theorem stepK_xor (a b : Nat) : ∀ k, (List.range k).foldl step1 (a ^^^ b) = (List.range k).foldl step1 a ^^^ (List.range k).foldl step1 b
  | 0 => rfl
  | k + 1 => by
    rw [List.range_succ, List.foldl_append, List.foldl_append, List.foldl_append, stepK_xor a b k]
    exact step1_xor _ _ _
theorem stepN_xor (m a b : Nat) : stepN m (a ^^^ b) = stepN m a ^^^ stepN m b := stepK_xor a b m
theorem stepN_zero (m : Nat) : stepN m 0 = 0 := by
  have h := stepN_xor m 0 0
  rw [Nat.xor_self, Nat.xor_self] at h
  exact h
def xorN (f : Nat → Nat) (ps : List Nat) : Nat := ps.foldl (fun w p => w ^^^ f p) 0
theorem fold_xor (f : Nat → Nat) : ∀ (ps : List Nat) (w : Nat), ps.foldl (fun w p => w ^^^ f p) w = w ^^^ xorN f ps
  | [], w => by simp [xorN]
  | p :: r, w => by
    unfold xorN
    rw [List.foldl_cons, List.foldl_cons, fold_xor f r, fold_xor f r (0 ^^^ f p), Nat.zero_xor, Nat.xor_assoc]
theorem xorN_cons (f : Nat → Nat) (p : Nat) (r : List Nat) : xorN f (p :: r) = f p ^^^ xorN f r := by
  unfold xorN
  rw [List.foldl_cons, fold_xor, Nat.zero_xor]
  rfl
theorem stepN_xorN (m : Nat) (f : Nat → Nat) : ∀ ps : List Nat, stepN m (xorN f ps) = xorN (fun p => stepN m (f p)) ps
  | [] => stepN_zero m
  | p :: r => by rw [xorN_cons, stepN_xor, stepN_xorN m f r, xorN_cons]
theorem bit_pow (p i : Nat) : (2 ^ p).testBit i = decide (p = i) := Nat.testBit_two_pow
theorem xorN_pow_bit (i : Nat) : ∀ ps : List Nat, ps.Nodup → (xorN (fun p => 2 ^ p) ps).testBit i = decide (i ∈ ps)
  | [], _ => by simp [xorN]
  | p :: r, nd => by
    rw [List.nodup_cons] at nd
    rw [xorN_cons, Nat.testBit_xor, bit_pow, xorN_pow_bit i r nd.2]
    by_cases e : p = i
    · subst e
      simp [nd.1]
    · by_cases e2 : i ∈ r
      · simp [e, e2]
      · simp [e, e2, Ne.symm e]
theorem xorN_lt {k : Nat} {f : Nat → Nat} : ∀ {ps : List Nat}, (∀ p ∈ ps, f p < 2 ^ k) → xorN f ps < 2 ^ k
  | [], _ => Nat.pow_pos (by decide)
  | p :: r, h => by
    rw [xorN_cons]
    exact Nat.xor_lt_two_pow (h p List.mem_cons_self) (xorN_lt fun q hq => h q (List.mem_cons_of_mem _ hq))
/-- a number is the sum of its places -/
theorem num_places {k n : Nat} (h : n < 2 ^ k) : n = xorN (fun p => 2 ^ p) ((List.range k).filter fun p => n / 2 ^ p % 2 == 1) := by
  refine Nat.eq_of_testBit_eq fun i => ?_
  rw [xorN_pow_bit i _ (List.nodup_range.filter _)]
  by_cases c : i < k
  · have e : n.testBit i = (n / 2 ^ i % 2 == 1) := by
      rw [Nat.testBit_eq_decide_div_mod_eq]
      rfl
    rw [e]
    cases z : (n / 2 ^ i % 2 == 1) with
    | true => exact (decide_eq_true (List.mem_filter.mpr ⟨List.mem_range.mpr c, z⟩)).symm
    | false => exact (decide_eq_false fun m => by rw [(List.mem_filter.mp m).2] at z; cases z).symm
  · have e : n.testBit i = false := Nat.testBit_lt_two_pow (Nat.lt_of_lt_of_le h (Nat.pow_le_pow_right (by decide) (by omega)))
    rw [e]
    exact (decide_eq_false fun m => c (List.mem_range.mp (List.mem_filter.mp m).1)).symm
theorem markN_bit (i : Nat) : ∀ (k : Nat) (ps : List Nat), ps.Nodup → (∀ p ∈ ps, p < k) → (markN ps).testBit i = decide (i ∈ ps)
  | 0, ps, nd, h => by
    cases ps with
    | nil => simp [markN]
    | cons p r => exact absurd (h p List.mem_cons_self) (Nat.not_lt_zero p)
  | k + 1, ps, nd, h => by
    by_cases c : k ∈ ps
    · have ne : ∀ p ∈ ps.erase k, p < k := fun p hp => by
        have h1 := h p (List.mem_of_mem_erase hp)
        have h2 : p ≠ k := fun e => by
          subst e
          exact (List.Nodup.not_mem_erase nd) hp
        omega
      have s : markN ps = 2 ^ k + markN (ps.erase k) := by
        unfold markN
        rw [((List.perm_cons_erase c).map fun p => 2 ^ p).sum_nat, List.map_cons, List.sum_cons]
      have lt := markN_lt (nd.erase k) ne
      have ih := markN_bit i k (ps.erase k) (nd.erase k) ne
      rw [s]
      rcases Nat.lt_trichotomy i k with lik | e | gik
      · rw [Nat.testBit_two_pow_add_gt lik, ih]
        have : (i ∈ ps.erase k) = (i ∈ ps) := propext (List.mem_erase_of_ne (by omega))
        simp only [this]
      · subst e
        rw [Nat.testBit_two_pow_add_eq, Nat.testBit_lt_two_pow lt]
        simp [c]
      · have big : 2 ^ k + markN (ps.erase k) < 2 ^ i := by
          have : 2 ^ (k + 1) ≤ 2 ^ i := Nat.pow_le_pow_right (by decide) gik
          rw [Nat.pow_succ] at this
          omega
        rw [Nat.testBit_lt_two_pow big]
        exact (decide_eq_false fun m => by have := h i m; omega).symm
    · have ne : ∀ p ∈ ps, p < k := fun p hp => by
        have h1 := h p hp
        have h2 : p ≠ k := fun e => c (e ▸ hp)
        omega
      exact markN_bit i k ps nd ne
theorem markN_xor {k : Nat} {ps : List Nat} (nd : ps.Nodup) (h : ∀ p ∈ ps, p < k) : markN ps = xorN (fun p => 2 ^ p) ps :=
  Nat.eq_of_testBit_eq fun i => by rw [markN_bit i k ps nd h, xorN_pow_bit i ps nd]
theorem xorN_congr {f g : Nat → Nat} : ∀ {ps : List Nat}, (∀ p ∈ ps, f p = g p) → xorN f ps = xorN g ps
  | [], _ => rfl
  | p :: r, h => by rw [xorN_cons, xorN_cons, h p List.mem_cons_self, xorN_congr fun q hq => h q (List.mem_cons_of_mem _ hq)]
/-- a word made of heaps is the sum of the heaps' words -/
theorem stepN_marks {m : Nat} {ps : List Nat} (hm : m ≤ 5) (nd : ps.Nodup) (h : ∀ p ∈ ps, p < 2 ^ m) : stepN m (markN ps) = sumW m ps := by
  have p5 : 2 ^ m ≤ 32 := Nat.le_trans (Nat.pow_le_pow_right (by decide) hm) (by decide)
  rw [markN_xor nd h, stepN_xorN]
  exact xorN_congr fun p hp => heapW_step m (by omega) p (by have := h p hp; omega) (h p hp)
theorem step_twice : ∀ m : Nat, m < 6 → ∀ p : Nat, p < 32 → p < 2 ^ m → stepN m (stepN m (2 ^ p)) = 2 ^ p := by decide +kernel
/-- heaps of a word and the word of the heaps: there and back -/
theorem stepN_back {m n : Nat} (hm : m ≤ 5) (h : n < 2 ^ (2 ^ m)) : stepN m (stepN m n) = n := by
  have p5 : 2 ^ m ≤ 32 := Nat.le_trans (Nat.pow_le_pow_right (by decide) hm) (by decide)
  have e := num_places h
  generalize eps : ((List.range (2 ^ m)).filter fun p => n / 2 ^ p % 2 == 1) = ps at e
  have lt : ∀ p ∈ ps, p < 2 ^ m := fun p hp => by
    rw [← eps] at hp
    exact List.mem_range.mp (List.mem_filter.mp hp).1
  rw [e, stepN_xorN, stepN_xorN]
  exact xorN_congr fun p hp => step_twice m (by omega) p (by have := lt p hp; omega) (lt p hp)

def partB (n h i : Nat) : Bool := (i &&& h == i) && (n / 2 ^ i % 2 == 1)
/-- odd or even: how many places of the word lie below the heap -/
def parN (n h : Nat) : Nat → Nat
  | 0 => 0
  | i + 1 => if partB n h i = true then 1 - parN n h i else parN n h i
theorem parN_le (n h : Nat) : ∀ i, parN n h i ≤ 1
  | 0 => Nat.zero_le _
  | i + 1 => by
    have := parN_le n h i
    unfold parN
    split <;> omega
theorem parN_succ (n h i : Nat) : parN n h (i + 1) = if partB n h i = true then 1 - parN n h i else parN n h i := rfl
theorem heapW_bit {m p h : Nat} (hh : h < 2 ^ m) : (heapW m p).testBit h = (h &&& p == p) := by
  unfold heapW
  rw [markN_bit h (2 ^ m) _ (List.nodup_range.filter _) fun q hq => List.mem_range.mp (List.mem_filter.mp hq).1]
  cases z : (h &&& p == p) with
  | true => exact decide_eq_true (List.mem_filter.mpr ⟨List.mem_range.mpr hh, z⟩)
  | false => exact decide_eq_false fun w => by rw [(List.mem_filter.mp w).2] at z; cases z
theorem xorN_app (f : Nat → Nat) (a b : List Nat) : xorN f (a ++ b) = xorN f a ^^^ xorN f b := by
  unfold xorN
  rw [List.foldl_append, fold_xor]
  rfl
theorem par_bit {m n h : Nat} (hh : h < 2 ^ m) : ∀ i, (xorN (heapW m) ((List.range i).filter fun p => n / 2 ^ p % 2 == 1)).testBit h = (parN n h i == 1)
  | 0 => by simp [xorN, parN]
  | i + 1 => by
    rw [List.range_succ, List.filter_append, xorN_app, Nat.testBit_xor, par_bit hh i]
    have le := parN_le n h i
    rw [parN_succ]
    unfold partB
    rw [List.filter_cons]
    cases z : (n / 2 ^ i % 2 == 1) with
    | false =>
      rw [if_neg (by decide), Bool.and_false, if_neg (by decide)]
      simp [xorN]
    | true =>
      rw [if_pos rfl, List.filter_nil, xorN_cons, Nat.testBit_xor, heapW_bit hh, Bool.and_true, Nat.and_comm h i]
      rcases (show parN n h i = 0 ∨ parN n h i = 1 by omega) with e | e <;> rw [e] <;> cases (i &&& h == i) <;> simp [xorN]
theorem heaps_eq {m n : Nat} (hm : m ≤ 5) (hn : n < 2 ^ (2 ^ m)) : placesN m (stepN m n) = (List.range (2 ^ m)).filter fun h => parN n h (2 ^ m) == 1 := by
  have p5 : 2 ^ m ≤ 32 := Nat.le_trans (Nat.pow_le_pow_right (by decide) hm) (by decide)
  unfold placesN
  refine List.filter_congr fun h hh => ?_
  have hl := List.mem_range.mp hh
  rw [← par_bit hl]
  have e : stepN m n = xorN (heapW m) ((List.range (2 ^ m)).filter fun p => n / 2 ^ p % 2 == 1) := by
    conv => lhs; rw [num_places hn, stepN_xorN]
    exact xorN_congr fun p hp => by
      have lt := List.mem_range.mp (List.mem_filter.mp hp).1
      exact heapW_step m (by omega) p (by omega) lt
  rw [← e, Nat.testBit_eq_decide_div_mod_eq]
  rfl
def spLHeapsOf : Sp := fun vs H Q _ => ∃ m n : Nat, vs = [.int (m : Int), .int (n : Int)] ∧ m ≤ 5 ∧ n < 2 ^ (2 ^ m) ∧ RetL H Q (intsL (placesN m (stepN m n)))
theorem h__law_heaps_of (E : Ctx K mg) : Has P w K mg base 14 "_law_heaps_of" ["_law_m", "_law_word"] (spLHeapsOf) := by
  obtain ⟨fd, F⟩ := f__law_heaps_of E
  refine ⟨⟨fd, ?_, F.bindsN fun _ _ _ _ _ _ us hl => match us, hl with | [_, _], _ => rfl⟩, g__law_heaps_of E, F.kp⟩
  refine F.ok sc__law_heaps_of (fun vs H Q E' h => ?len) (fun cdv A outer s H vs Q E' hr h => ⟨_, (pss_cons (ps_set (i := 2) sc__law_heaps_of.nd rfl (.inl rfl) (pe_lst pa_nil))
 (pss_cons (ps_for (passes_of rfl) rfl (pi_range1 rfl (b_range E) (pa_cons (pe_op on_shl pe_int (pv 0)) pa_nil)) (pg_name (i := 3) sc__law_heaps_of.nd rfl (.inl rfl))
 (pss_cons (ps_set (i := 4) sc__law_heaps_of.nd rfl (.inl rfl) pe_int)
 (pss_cons (ps_for (passes_of rfl) rfl (pi_range1 rfl (b_range E) (pa_cons (pe_op on_shl pe_int (pv 0)) pa_nil)) (pg_name (i := 5) sc__law_heaps_of.nd rfl (.inl rfl))
 (pss_one (ps_if (PW.pt (pw_and (pt_cmpR op_eq (pe_op on_and (pv 5) (pv 3)) (pv 5) (nomark _)) (pw_and1 (pt_cmpR op_eq (pe_op on_and (pe_op on_shr (pv 1) (pv 5)) pe_int) pe_int (nomark _)))))
 (pss_one (ps_set (i := 4) sc__law_heaps_of.nd rfl (.inl rfl) (pe_op op_sub pe_int (pv 4))))
 pss_nil)))
 (pss_one (ps_if (pt_cmpR op_eq (pv 4) pe_int (nomark _))
 (pss_one (ps_expr (pe_bm PySem.F.plainAttrs_list PySem.F.slot_list_append PySem.F.type_list_append mt_append (pv 2) (pa_cons (pv 3) pa_nil))))
 pss_nil)))))
 (pss_one (ps_ret (pv 2))))), ?rd⟩)
  case len =>
    obtain ⟨m, n, rfl, _⟩ := h
    rfl
  case rd =>
    obtain ⟨m, n, rfl, hm, hn, q⟩ := h
    have p5 : 2 ^ m ≤ 32 := Nat.le_trans (Nat.pow_le_pow_right (by decide) hm) (by decide)
    have p0 : 0 < 2 ^ m := Nat.pow_pos (by decide)
    rw [heaps_eq hm hn] at q
    walk_at "rd"
    refine ⟨by show 0 ≤ sizeLine; omega, fun f hf => ?_⟩
    walk_at "rd"
    refine ⟨_, rfl, by omega, by omega, ?_⟩
    rw [Int.toNat_natCast]
    refine for_range (lo := 0) (n := 2 ^ m) (fun i σ H' => ∃ v3 v4 v5 : Option V, σ = [some (.int (m : Int)), some (.int (n : Int)), some (.ref f), v3, v4, v5] ∧ Fill H f ((intsL ((List.range i).filter fun h => parN n h (2 ^ m) == 1)).map V.int) H') ⟨none, none, none, rfl, Fill.new hf⟩ ?_ ?_
    · rintro h0 σ H1 hi ⟨v3, v4, v5, rfl, F⟩
      rw [Int.zero_add]
      dsimp only
      refine rd_mid (fun σ' H' => σ' = [some (.int (m : Int)), some (.int (n : Int)), some (.ref f), some (.int (h0 : Int)), some (.int 0), v5] ∧ H' = H1) (fun N hN => ?_) ?_
      · walk_at "rd"
        exact hN _ _ ⟨rfl, rfl⟩
      rintro σ H' ⟨rfl, rfl⟩
      refine rd_mid (fun σ' H2 => ∃ v5 : Option V, σ' = [some (.int (m : Int)), some (.int (n : Int)), some (.ref f), some (.int (h0 : Int)), some (.int ((parN n h0 (2 ^ m) : Nat) : Int)), v5] ∧ H2 = H') (fun N hN => ?_) ?_
      · walk_at "rd"
        refine ⟨_, rfl, by omega, by omega, ?_⟩
        rw [Int.toNat_natCast]
        refine for_range (lo := 0) (n := 2 ^ m) (fun i σ H2 => ∃ v5 : Option V, σ = [some (.int (m : Int)), some (.int (n : Int)), some (.ref f), some (.int (h0 : Int)), some (.int ((parN n h0 i : Nat) : Int)), v5] ∧ H2 = H') ⟨v5, rfl, rfl⟩ ?_ ?_
        · rintro i σ H2 hi2 ⟨v5, rfl, rfl⟩
          rw [Int.zero_add]
          have le := parN_le n h0 i
          have ed : decide (V.int ((i &&& h0 : Nat) : Int) = V.int (i : Int)) = (i &&& h0 == i) := by
            by_cases e : i &&& h0 = i
            · rw [e]
              simp
            · rw [decide_eq_false fun z => e (by injection z with z; omega), beq_eq_false_iff_ne.mpr e]
          walk_at "rd"
          rw [ed]
          refine ⟨fun z => ?_, fun z => ⟨(fun z => nomatch z), fun _ => ?_⟩⟩
          · walk_at "rd"
            rw [bit_eq1]
            refine ⟨fun z2 => ?_, fun z2 => ?_⟩
            · walk_at "rd"
              refine ⟨some (.int (i : Int)), ?_, rfl⟩
              have e1 : (1 : Int) - ((parN n h0 i : Nat) : Int) = ((1 - parN n h0 i : Nat) : Int) := by omega
              rw [e1, parN_succ, if_pos (show partB n h0 i = true by unfold partB; rw [z, z2]; rfl)]
              rfl
            · walk_at "rd"
              refine ⟨some (.int (i : Int)), ?_, rfl⟩
              rw [parN_succ, if_neg (show ¬ partB n h0 i = true by unfold partB; rw [z, z2]; decide)]
              rfl
          · walk_at "rd"
            refine ⟨some (.int (i : Int)), ?_, rfl⟩
            rw [parN_succ, if_neg (show ¬ partB n h0 i = true by unfold partB; rw [z, Bool.false_and]; decide)]
            rfl
        · rintro σ H2 ⟨v5, rfl, rfl⟩
          exact hN _ _ ⟨_, rfl, rfl⟩
      · rintro σ H2 ⟨v5, rfl, rfl⟩
        walk_at "rd"
        have ed : decide (V.int ((parN n h0 (2 ^ m) : Nat) : Int) = V.int 1) = (parN n h0 (2 ^ m) == 1) := by
          have le := parN_le n h0 (2 ^ m)
          rcases (show parN n h0 (2 ^ m) = 0 ∨ parN n h0 (2 ^ m) = 1 by omega) with e | e <;> rw [e] <;> rfl
        rw [ed]
        have fl : (intsL ((List.range h0).filter fun h => parN n h (2 ^ m) == 1)).length ≤ h0 := by
          unfold intsL
          rw [List.length_map]
          exact Nat.le_trans (List.length_filter_le _ _) (by simp)
        refine ⟨fun z => ?_, fun z => ?_⟩
        · walk_at "rd"
          refine ⟨ty_lst F.2.2, ?_⟩
          walk_at "rd"
          refine rd_app F.2.2 (by rw [List.length_map]; omega) ?_
          walk_at "rd"
          refine ⟨_, _, _, rfl, ?_⟩
          have e : (intsL ((List.range (h0 + 1)).filter fun h => parN n h (2 ^ m) == 1)).map V.int = (intsL ((List.range h0).filter fun h => parN n h (2 ^ m) == 1)).map V.int ++ [V.int (h0 : Int)] := by
            rw [List.range_succ, List.filter_append, List.filter_cons, if_pos z, List.filter_nil]
            unfold intsL
            rw [List.map_append, List.map_append]
            rfl
          rw [e]
          exact F.set _
        · walk_at "rd"
          refine ⟨_, _, _, rfl, ?_⟩
          rw [List.range_succ, List.filter_append, List.filter_cons, if_neg (by rw [z]; decide), List.filter_nil, List.append_nil]
          exact F
    · rintro σ H1 ⟨v3, v4, v5, rfl, F⟩
      walk_at "rd"
      exact q f H1 hf F.2.1 F.2.2

end
end Lw

set_option Elab.async false
set_option linter.all false
set_option maxRecDepth 100000
set_option maxHeartbeats 4000000
namespace Lw
open PySem PySem.Spec PyProof.Rows L2 He Evl StX
local macro_rules | `(tactic| walk_at "rd") => `(tactic| (repeat first
  | with_reducible refine rd_seq ?_
  | with_reducible refine rd_asg ?_
  | with_reducible refine rd_ret ?_
  | with_reducible refine rd_next ?_
  | with_reducible refine rd_drop ?_
  | with_reducible refine rd_if ?_
  | with_reducible refine rd_ifE ?_
  | ((with_reducible refine' rd_var ?hv ?_); (case hv => rfl))
  | with_reducible refine rd_c ?_
  | with_reducible refine rd_op ?_
  | with_reducible refine rd_chain ?_
  | with_reducible refine rd_I0 ?_
  | with_reducible refine rd_test ?_
  | with_reducible refine rd_B ?_
  | with_reducible refine rd_bl ?_
  | with_reducible refine rd_not ?_
  | with_reducible refine rd_and ?_
  | with_reducible refine rd_or ?_
  | with_reducible refine rd_andV ?_
  | with_reducible refine rd_orV ?_
  | with_reducible refine rd_notV ?_
  | with_reducible refine rd_cons ?_
  | with_reducible refine rd_nil ?_
  | with_reducible refine rd_CB ?_
  | with_reducible refine rd_callS ?_
  | with_reducible refine rd_raise0 ?_
  | with_reducible refine rd_raise1 ?_
  | with_reducible refine rd_raise2 ?_
  | ((with_reducible refine' rd_eq ?hs ?_); (case hs => rfl))
  | ((with_reducible refine' rd_ne ?hs ?_); (case hs => rfl))
  | ((with_reducible refine' rd_isT ?th ?hT ?_); (case th => assumption); (case hT => decide))
  | with_reducible refine rd_tup ?_
  | with_reducible refine rd_lst ?_
  | with_reducible refine rd_iEnum ?_
  | with_reducible refine rd_iEnumA ?_
  | ((with_reducible refine' rd_ixl ?hl ?hk ?_); (case hl => assumption); (case hk => rfl))
  | with_reducible refine rd_int1 ?_
  | with_reducible refine rd_sub ?_
  | with_reducible refine rd_gcons ?_
  | with_reducible refine rd_gnil ?_
  | with_reducible refine rd_iZip ?_
  | with_reducible refine rd_BM ?_
  | with_reducible refine rd_neg ?_
  | ((with_reducible refine' rd_last ?hl ?_); (case hl => assumption))
  | with_reducible refine rd_lc2 ?_
  | with_reducible refine rd_Rg1 ?_
  | with_reducible refine rd_tupRg ?_
  | with_reducible refine rd_sl ?_
  | with_reducible refine rd_noPart ?_
  | with_reducible refine rd_part ?_
  | with_reducible refine rd_for ?_
  | with_reducible refine rd_iRev ?_
  | with_reducible refine rd_gname ?_
  | with_reducible refine rd_NN ?_
  | with_reducible refine rd_NL ?_
  | with_reducible refine rd_LN ?_
  | ((with_reducible refine' rd_shl1 ?hs ?_); (case hs => omega))
  | ((with_reducible refine' rd_I ?hs ?_); (case hs => first | omega | decide | exact ⟨by decide, by decide, by decide⟩ | exact ⟨by omega, by omega⟩))
  | with_reducible refine rd_tr ?_
  | with_reducible refine rd_trI ?_
  | with_reducible refine rd_star ?_
  | with_reducible refine rd_fmtB ?_
  | with_reducible refine rd_M1 ?_
  | with_reducible refine rd_un ?_
  | with_reducible refine rd_lc ?_
  | with_reducible refine rd_iT ?_
  | with_reducible refine rd_iL ?_
  | with_reducible refine rd_iR1 ?_
  | with_reducible refine rd_iR2 ?_
  | dsimp only [List.set, start]))
section
variable {P : Program} {w : World} {K : PySem.W.Frag} {mg : Str → Option Value} {base : Heap}

/-- a new tuple comes back -/
def RetV (H : Hp) (Q : VK) (xs : List V) : Prop := ∀ p H', H p = none → Ex H H' → H' p = some (.tup xs) → Q (.ref p) H'
theorem ex_none {H H' : Hp} {p : Addr} (e : Ex H H') (h : H' p = none) : H p = none := by
  cases x : H p with
  | none => rfl
  | some o => rw [e _ _ x] at h; exact nomatch h
theorem rd_xf {σ : L2.St} {H : Hp} {Q : VK} {a C : Addr} {cls : Value} {d : Option Addr} {f : Str} {te : TE} (h : te σ H fun x H1 => x = .ref a ∧ cls = .ref C ∧ ∃ (dd : Addr) (fs : List (Str × V)) (v : V), d = some dd ∧ H1 dd = some (.xd fs) ∧ fs.lookup f = some v ∧ Q v H1) : tXf a cls d C f te σ H Q := h
def spAnyWord (K : PySem.W.Frag) : Sp := fun vs H Q _ => ∃ (h c : Addr) (m : Nat), vs = [.ref h, .int (m : Int)] ∧ HandC c H h ∧ m ≤ 5 ∧ ∀ (n : Nat) (H' : Hp), n < 2 ^ (2 ^ m) → Dh h H H' → HandC c H' h → Q (.int (n : Int)) H'
theorem h__law_any_word (E : Ctx K mg) : Has P w K mg base 17 "_law_any_word" ["_law_hand_here", "_law_m"] (spAnyWord K) := by
  obtain ⟨fd, F⟩ := f__law_any_word E
  refine ⟨⟨fd, ?_, F.bindsN fun _ _ _ _ _ _ us hl => match us, hl with | [_, _], _ => rfl⟩, g__law_any_word E, F.kp⟩
  refine F.ok sc__law_any_word (fun vs H Q E' h => ?len) (fun cdv A outer s H vs Q E' hr h => ⟨_, (pss_one (ps_ret (pe_H (h__law_wide E) (hr.mono (by decide)) (takes_of rfl rfl rfl rfl) (pa_cons (pv 0) (pa_cons (pe_op on_shl pe_int (pv 1)) pa_nil))))), ?rd⟩)
  case len =>
    obtain ⟨h0, c, m, rfl, _⟩ := h
    rfl
  case rd =>
    obtain ⟨h0, c, m, rfl, hh, hm, q⟩ := h
    have p5 : 2 ^ m ≤ 32 := Nat.le_trans (Nat.pow_le_pow_right (by decide) hm) (by decide)
    walk_at "rd"
    exact ⟨h0, c, 2 ^ m, rfl, hh, by omega, fun r H1 hr d1 hand1 => q r H1 hr d1 hand1⟩
def atV (m : Nat) (ns : List Nat) : V → List V
  | .int z => if wholeV 0 ((2 ^ ns.length - 1 : Nat) : Int) (.int z) = true then [.str "good", .int (wordN m ns z.toNat : Int)] else [.str "number", .int ((2 ^ ns.length - 1 : Nat) : Int)]
  | _ => [.str "number", .int ((2 ^ ns.length - 1 : Nat) : Int)]
theorem atV_bad {m : Nat} {ns : List Nat} {x : V} (h : wholeV 0 ((2 ^ ns.length - 1 : Nat) : Int) x = false) : atV m ns x = [.str "number", .int ((2 ^ ns.length - 1 : Nat) : Int)] := by
  cases x with
  | int z => exact if_neg (fun e => by rw [h] at e; cases e)
  | _ => rfl
theorem atV_good {m : Nat} {ns : List Nat} {n : Nat} (h : n < 2 ^ ns.length) : atV m ns (.int (n : Int)) = [.str "good", .int (wordN m ns n : Int)] :=
  if_pos (whole_of (by omega) (by omega))
def spAt (K : PySem.W.Frag) : Sp := fun vs H Q _ => ∃ (c : Addr) (m : Nat) (ns : List Nat) (x : V), vs = [.ref c, x] ∧ Ch K H c m ns ∧ Thg K H x ∧ RetV H Q (atV m ns x)
theorem h__law_at (E : Ctx K mg) : Has P w K mg base 17 "_law_at" ["_law_choice_here", "_law_number_here"] (spAt K) := by
  obtain ⟨fd, F⟩ := f__law_at E
  refine ⟨⟨fd, ?_, F.bindsN fun _ _ _ _ _ _ us hl => match us, hl with | [_, _], _ => rfl⟩, g__law_at E, F.kp⟩
  refine F.ok sc__law_at (fun vs H Q E' h => ?len) (fun cdv A outer s H vs Q E' hr h => ⟨_, (pss_one (kts_try_as (K := K) rfl (i := 2) rfl rfl sc__law_at.nd rfl rfl ⟨rfl, by decide, .inl (g_BadNumber E)⟩ (takes_of rfl rfl rfl rfl) (fun W pn xe tk _ => (pss_one (ps_ret (pe_tup (pa_cons pe_str (pa_cons (pe_H (h_word_at E) (hr.mono (by decide)) tk (pa_cons (pv 0) (pa_cons (pv 1) pa_nil))) pa_nil)))))) (fun a oe cls d pn hz hf => (pss_one (ps_ret (pe_tup (pa_cons pe_str (pa_cons (pe_xf (x_BadNumber E).f ((x_BadNumber E).n _ (by decide)) hz.zc hf (pv 2)) pa_nil)))))))), ?rd⟩)
  case len =>
    obtain ⟨c, m, ns, x, rfl, _⟩ := h
    rfl
  case rd =>
    obtain ⟨c, m, ns, x, rfl, ch, tx, q⟩ := h
    walk_at "rd"
    refine rd_tryAs ?_
    walk_at "rd"
    refine ⟨c, m, ns, x, rfl, ch, tx, fun z dd hd => ?_, fun n en hn H1 e1 => ?_⟩
    · refine ⟨true, m_BadNumber_BadNumber E, fun _ a ha => ?_, (fun z => nomatch z)⟩
      walk_at "rd"
      refine rd_xf ?_
      walk_at "rd"
      refine ⟨rfl, rfl, dd, _, _, rfl, upd_same, rfl, ?_⟩
      walk_at "rd"
      exact ⟨by show 2 ≤ sizeLine; decide, fun p hp => q p _ (ex_none (Ex.new hd) hp) ((Ex.new hd).trans (Ex.new hp)) (by rw [atV_bad z]; exact upd_same)⟩
    · subst en
      walk_at "rd"
      exact ⟨by show 2 ≤ sizeLine; decide, fun p hp => q p _ (ex_none e1 hp) (e1.trans (Ex.new hp)) (by rw [atV_good hn]; exact upd_same)⟩
def hoV (m : Nat) (ns : List Nat) : V → List V
  | .int z => if wholeV 0 ((fullW m : Nat) : Int) (.int z) = true then [.str "good", .bl (outN ns (heapsN m z.toNat)).isNone] else [.str "word", .int 0]
  | _ => [.str "word", .int 0]
theorem hoV_bad {m : Nat} {ns : List Nat} {x : V} (h : wholeV 0 ((fullW m : Nat) : Int) x = false) : hoV m ns x = [.str "word", .int 0] := by
  cases x with
  | int z => exact if_neg (fun e => by rw [h] at e; cases e)
  | _ => rfl
theorem full_le {m n : Nat} (h : n < 2 ^ (2 ^ m)) : (n : Int) ≤ ((fullW m : Nat) : Int) := by
  unfold fullW
  omega
theorem hoV_good {m : Nat} {ns : List Nat} {n : Nat} (h : n < 2 ^ (2 ^ m)) : hoV m ns (.int (n : Int)) = [.str "good", .bl (outN ns (heapsN m n)).isNone] :=
  if_pos (whole_of (by omega) (full_le h))
def spLHolds (K : PySem.W.Frag) : Sp := fun vs H Q _ => ∃ (c : Addr) (m : Nat) (ns : List Nat) (x : V), vs = [.ref c, x] ∧ Ch K H c m ns ∧ Thg K H x ∧ RetV H Q (hoV m ns x)
theorem h__law_holds (E : Ctx K mg) : Has P w K mg base 20 "_law_holds" ["_law_choice_here", "_law_word"] (spLHolds K) := by
  obtain ⟨fd, F⟩ := f__law_holds E
  refine ⟨⟨fd, ?_, F.bindsN fun _ _ _ _ _ _ us hl => match us, hl with | [_, _], _ => rfl⟩, g__law_holds E, F.kp⟩
  refine F.ok sc__law_holds (fun vs H Q E' h => ?len) (fun cdv A outer s H vs Q E' hr h => ⟨_, (pss_one (kts_try_as (K := K) rfl (i := 2) rfl rfl sc__law_holds.nd rfl rfl ⟨rfl, by decide, .inl (g_BadWord E)⟩ (takes_of rfl rfl rfl rfl) (fun W pn xe tk _ => (pss_one (ps_ret (pe_tup (pa_cons pe_str (pa_cons (pe_H (h_holds E) (hr.mono (by decide)) tk (pa_cons (pv 0) (pa_cons (pv 1) pa_nil))) pa_nil)))))) (fun a oe cls d pn hz hf => (pss_one (ps_ret (pe_tup (pa_cons pe_str (pa_cons (pe_xf (x_BadWord E).f ((x_BadWord E).n _ (by decide)) hz.zc hf (pv 2)) pa_nil)))))))), ?rd⟩)
  case len =>
    obtain ⟨c, m, ns, x, rfl, _⟩ := h
    rfl
  case rd =>
    obtain ⟨c, m, ns, x, rfl, ch, tx, q⟩ := h
    walk_at "rd"
    refine rd_tryAs ?_
    walk_at "rd"
    refine ⟨c, m, ns, x, rfl, ch, tx, fun z dd hd => ?_, fun n en hn H1 e1 => ?_⟩
    · refine ⟨true, m_BadWord_BadWord E, fun _ a ha => ?_, (fun z => nomatch z)⟩
      walk_at "rd"
      refine rd_xf ?_
      walk_at "rd"
      refine ⟨rfl, rfl, dd, _, _, rfl, upd_same, rfl, ?_⟩
      walk_at "rd"
      exact ⟨by show 2 ≤ sizeLine; decide, fun p hp => q p _ (ex_none (Ex.new hd) hp) ((Ex.new hd).trans (Ex.new hp)) (by rw [hoV_bad z]; exact upd_same)⟩
    · subst en
      walk_at "rd"
      exact ⟨by show 2 ≤ sizeLine; decide, fun p hp => q p _ (ex_none e1 hp) (e1.trans (Ex.new hp)) (by rw [hoV_good hn]; exact upd_same)⟩
def nuV (m : Nat) (ns : List Nat) : V → List V
  | .int z => if wholeV 0 ((fullW m : Nat) : Int) (.int z) = true then (match outN ns (heapsN m z.toNat) with
    | some h => [.str "strange", .int (h : Int)]
    | none => [.str "good", .int (numN ns (heapsN m z.toNat) : Int)]) else [.str "word", .int 0]
  | _ => [.str "word", .int 0]
theorem nuV_bad {m : Nat} {ns : List Nat} {x : V} (h : wholeV 0 ((fullW m : Nat) : Int) x = false) : nuV m ns x = [.str "word", .int 0] := by
  cases x with
  | int z => exact if_neg (fun e => by rw [h] at e; cases e)
  | _ => rfl
theorem nuV_out {m : Nat} {ns : List Nat} {n h : Nat} (hn : n < 2 ^ (2 ^ m)) (o : outN ns (heapsN m n) = some h) : nuV m ns (.int (n : Int)) = [.str "strange", .int (h : Int)] := by
  refine (if_pos (whole_of (by omega) (full_le hn))).trans ?_
  rw [Int.toNat_natCast, o]
theorem nuV_good {m : Nat} {ns : List Nat} {n : Nat} (hn : n < 2 ^ (2 ^ m)) (o : outN ns (heapsN m n) = none) : nuV m ns (.int (n : Int)) = [.str "good", .int (numN ns (heapsN m n) : Int)] := by
  refine (if_pos (whole_of (by omega) (full_le hn))).trans ?_
  rw [Int.toNat_natCast, o]
def spLNumber (K : PySem.W.Frag) : Sp := fun vs H Q _ => ∃ (c : Addr) (m : Nat) (ns : List Nat) (x : V), vs = [.ref c, x] ∧ Ch K H c m ns ∧ Thg K H x ∧ RetV H Q (nuV m ns x)
theorem h__law_number (E : Ctx K mg) : Has P w K mg base 21 "_law_number" ["_law_choice_here", "_law_word"] (spLNumber K) := by
  obtain ⟨fd, F⟩ := f__law_number E
  refine ⟨⟨fd, ?_, F.bindsN fun _ _ _ _ _ _ us hl => match us, hl with | [_, _], _ => rfl⟩, g__law_number E, F.kp⟩
  refine F.ok sc__law_number (fun vs H Q E' h => ?len) (fun cdv A outer s H vs Q E' hr h => ⟨_, (pss_one (ps_tryMix (K := K) rfl rfl rfl sc__law_number.nd (takes_of rfl rfl rfl rfl) (fun W pn xe tk _ => (pss_one (ps_ret (pe_tup (pa_cons pe_str (pa_cons (pe_H (h_number_of E) (hr.mono (by decide)) tk (pa_cons (pv 0) (pa_cons (pv 1) pa_nil))) pa_nil)))))) (Mix.as (i := 2) rfl rfl ⟨rfl, by decide, .inl (g_BadWord E)⟩ (fun a oe cls d pn hz hf => (pss_one (ps_ret (pe_tup (pa_cons pe_str (pa_cons (pe_xf (x_BadWord E).f ((x_BadWord E).n _ (by decide)) hz.zc hf (pv 2)) pa_nil))))))
 (Mix.as (i := 2) rfl rfl ⟨rfl, by decide, .inl (g_NotInCode E)⟩ (fun a oe cls d pn hz hf => (pss_one (ps_ret (pe_tup (pa_cons pe_str (pa_cons (pe_xf (x_NotInCode E).f ((x_NotInCode E).n _ (by decide)) hz.zc hf (pv 2)) pa_nil))))))
 Mix.nil)))), ?rd⟩)
  case len =>
    obtain ⟨c, m, ns, x, rfl, _⟩ := h
    rfl
  case rd =>
    obtain ⟨c, m, ns, x, rfl, ch, tx, q⟩ := h
    walk_at "rd"
    refine rd_tryMix ?_
    walk_at "rd"
    refine ⟨c, m, ns, x, rfl, ch, tx, fun z dd hd => ?_, fun n en hn => ⟨fun h o H1 e1 dd hd => ?_, fun o H1 e1 => ?_⟩⟩
    · refine ⟨true, m_BadWord_BadWord E, fun _ a ha => ?_, (fun z => nomatch z)⟩
      walk_at "rd"
      refine rd_xf ?_
      walk_at "rd"
      refine ⟨rfl, rfl, dd, _, _, rfl, upd_same, rfl, ?_⟩
      walk_at "rd"
      exact ⟨by show 2 ≤ sizeLine; decide, fun p hp => q p _ (ex_none (Ex.new hd) hp) ((Ex.new hd).trans (Ex.new hp)) (by rw [nuV_bad z]; exact upd_same)⟩
    · subst en
      refine ⟨false, m_NotInCode_BadWord E, (fun z => nomatch z), fun _ => ⟨true, m_NotInCode_NotInCode E, fun _ a ha => ?_, (fun z => nomatch z)⟩⟩
      walk_at "rd"
      refine rd_xf ?_
      walk_at "rd"
      refine ⟨rfl, rfl, dd, _, _, rfl, upd_same, rfl, ?_⟩
      walk_at "rd"
      exact ⟨by show 2 ≤ sizeLine; decide, fun p hp => q p _ (ex_none (e1.trans (Ex.new hd)) hp) ((e1.trans (Ex.new hd)).trans (Ex.new hp)) (by rw [nuV_out hn o]; exact upd_same)⟩
    · subst en
      walk_at "rd"
      exact ⟨by show 2 ≤ sizeLine; decide, fun p hp => q p _ (ex_none e1 hp) (e1.trans (Ex.new hp)) (by rw [nuV_good hn o]; exact upd_same)⟩

end
end Lw

set_option Elab.async false
set_option linter.all false
set_option maxRecDepth 100000
set_option maxHeartbeats 4000000
namespace Lw
open PySem PySem.Spec PyProof.Rows L2 He Evl StX
local macro_rules | `(tactic| walk_at "rd") => `(tactic| (repeat first
  | with_reducible refine rd_seq ?_
  | with_reducible refine rd_asg ?_
  | with_reducible refine rd_ret ?_
  | with_reducible refine rd_next ?_
  | with_reducible refine rd_drop ?_
  | with_reducible refine rd_if ?_
  | with_reducible refine rd_ifE ?_
  | ((with_reducible refine' rd_var ?hv ?_); (case hv => rfl))
  | with_reducible refine rd_c ?_
  | with_reducible refine rd_op ?_
  | with_reducible refine rd_chain ?_
  | with_reducible refine rd_I0 ?_
  | with_reducible refine rd_test ?_
  | with_reducible refine rd_B ?_
  | with_reducible refine rd_bl ?_
  | with_reducible refine rd_not ?_
  | with_reducible refine rd_and ?_
  | with_reducible refine rd_or ?_
  | with_reducible refine rd_andV ?_
  | with_reducible refine rd_orV ?_
  | with_reducible refine rd_notV ?_
  | with_reducible refine rd_cons ?_
  | with_reducible refine rd_nil ?_
  | with_reducible refine rd_CB ?_
  | with_reducible refine rd_callS ?_
  | with_reducible refine rd_raise0 ?_
  | with_reducible refine rd_raise1 ?_
  | with_reducible refine rd_raise2 ?_
  | ((with_reducible refine' rd_eq ?hs ?_); (case hs => rfl))
  | ((with_reducible refine' rd_ne ?hs ?_); (case hs => rfl))
  | ((with_reducible refine' rd_isT ?th ?hT ?_); (case th => assumption); (case hT => decide))
  | with_reducible refine rd_tup ?_
  | with_reducible refine rd_lst ?_
  | with_reducible refine rd_iEnum ?_
  | with_reducible refine rd_iEnumA ?_
  | ((with_reducible refine' rd_ixl ?hl ?hk ?_); (case hl => assumption); (case hk => rfl))
  | with_reducible refine rd_int1 ?_
  | with_reducible refine rd_sub ?_
  | with_reducible refine rd_gcons ?_
  | with_reducible refine rd_gnil ?_
  | with_reducible refine rd_iZip ?_
  | with_reducible refine rd_BM ?_
  | with_reducible refine rd_neg ?_
  | ((with_reducible refine' rd_last ?hl ?_); (case hl => assumption))
  | with_reducible refine rd_lc2 ?_
  | with_reducible refine rd_Rg1 ?_
  | with_reducible refine rd_tupRg ?_
  | with_reducible refine rd_sl ?_
  | with_reducible refine rd_noPart ?_
  | with_reducible refine rd_part ?_
  | with_reducible refine rd_for ?_
  | with_reducible refine rd_iRev ?_
  | with_reducible refine rd_gname ?_
  | with_reducible refine rd_NN ?_
  | with_reducible refine rd_NL ?_
  | with_reducible refine rd_LN ?_
  | ((with_reducible refine' rd_shl1 ?hs ?_); (case hs => omega))
  | ((with_reducible refine' rd_I ?hs ?_); (case hs => first | omega | decide | exact ⟨by decide, by decide, by decide⟩ | exact ⟨by omega, by omega⟩))
  | with_reducible refine rd_tr ?_
  | with_reducible refine rd_trI ?_
  | with_reducible refine rd_star ?_
  | with_reducible refine rd_fmtB ?_
  | with_reducible refine rd_M1 ?_
  | with_reducible refine rd_un ?_
  | with_reducible refine rd_lc ?_
  | with_reducible refine rd_iT ?_
  | with_reducible refine rd_iL ?_
  | with_reducible refine rd_iR1 ?_
  | with_reducible refine rd_iR2 ?_
  | dsimp only [List.set, start]))
section
variable {P : Program} {w : World} {K : PySem.W.Frag} {mg : Str → Option Value} {base : Heap}

theorem whole_low {lo hi i : Int} (h : i < lo) : wholeV lo hi (.int i) = false := by
  show (decide (lo ≤ i) && decide (i ≤ hi)) = false
  rw [decide_eq_false (by omega), Bool.false_and]
theorem whole_high {lo hi i : Int} (h : hi < i) : wholeV lo hi (.int i) = false := by
  show (decide (lo ≤ i) && decide (i ≤ hi)) = false
  rw [decide_eq_false (show ¬ i ≤ hi by omega), Bool.and_false]
theorem hit_int {r : Nat} {k : Int} (h : decide (V.int (r : Int) = V.int k) = true) : (r : Int) = k := V.int.inj (of_decide_eq_true h)
theorem mis_int {r : Nat} {k : Int} (h : decide (V.int (r : Int) = V.int k) = false) : (r : Int) ≠ k := fun e => of_decide_eq_false h (congrArg V.int e)
def spOdd (K : PySem.W.Frag) : Sp := fun vs H Q _ => ∃ (h c : Addr) (lo hi : Int), vs = [.ref h, .int lo, .int hi] ∧ HandC c H h ∧ ∀ (v : V) (H' : Hp), wholeV lo hi v = false → Odd K H' v → Dh h H H' → HandC c H' h → Q v H'
theorem h__law_odd (E : Ctx K mg) : Has P w K mg base 16 "_law_odd" ["_law_hand_here", "_law_low", "_law_high"] (spOdd K) := by
  obtain ⟨fd, F⟩ := f__law_odd E
  refine ⟨⟨fd, ?_, F.bindsN fun _ _ _ _ _ _ us hl => match us, hl with | [_, _, _], _ => rfl⟩, g__law_odd E, F.kp⟩
  refine F.ok sc__law_odd (fun vs H Q E' h => ?len) (fun cdv A outer s H vs Q E' hr h => ⟨_, (pss_cons (ps_set (i := 3) sc__law_odd.nd rfl (.inl rfl) (pe_H (h__law_draw E) (hr.mono (by decide)) (takes_of rfl rfl rfl rfl) (pa_cons (pv 0) (pa_cons pe_int pa_nil))))
 (pss_cons (ps_if (pt_cmpR op_eq (pv 3) pe_int (nomark _))
 (pss_one (ps_ret pe_bl))
 pss_nil)
 (pss_cons (ps_if (pt_cmpR op_eq (pv 3) pe_int (nomark _))
 (pss_one (ps_ret (pe_op op_sub (pe_op op_sub (pv 1) pe_int) (pe_H (h__law_draw E) (hr.mono (by decide)) (takes_of rfl rfl rfl rfl) (pa_cons (pv 0) (pa_cons pe_int pa_nil))))))
 pss_nil)
 (pss_cons (ps_if (pt_cmpR op_eq (pv 3) pe_int (nomark _))
 (pss_one (ps_ret (pe_op op_add (pv 2) pe_int)))
 pss_nil)
 (pss_cons (ps_if (pt_cmpR op_eq (pv 3) pe_int (nomark _))
 (pss_one (ps_ret (pe_op op_add (pe_op op_add (pv 2) pe_int) (pe_H (h__law_draw E) (hr.mono (by decide)) (takes_of rfl rfl rfl rfl) (pa_cons (pv 0) (pa_cons pe_int pa_nil))))))
 pss_nil)
 (pss_cons (ps_if (pt_cmpR op_eq (pv 3) pe_int (nomark _))
 (pss_one (ps_ret (pe_op op_sub (pv 1) pe_int)))
 pss_nil)
 (pss_one (ps_ret (pe_ix (kx_list (K := K) rfl) (pe_lst (pa_cons pe_non (pa_cons pe_str (pa_cons (pe_tup (pa_cons pe_int pa_nil)) (pa_cons pe_bl pa_nil))))) (pe_op op_sub (pv 3) pe_int) (fun _ _ => rfl)))))))))), ?rd⟩)
  case len =>
    obtain ⟨h0, c, lo, hi, rfl, _⟩ := h
    rfl
  case rd =>
    obtain ⟨h0, c, lo, hi, rfl, hh, q⟩ := h
    walk_at "rd"
    refine ⟨h0, c, 9, rfl, hh, ⟨by decide, by decide⟩, fun r H1 hr d1 hand1 => ?_⟩
    walk_at "rd"
    refine ⟨fun z => ?_, fun z0 => ?_⟩
    · walk_at "rd"
      exact q _ _ rfl (fun _ _ => ⟨_, th_bl _⟩) d1 hand1
    walk_at "rd"
    refine ⟨fun z => ?_, fun z1 => ?_⟩
    · walk_at "rd"
      refine ⟨h0, c, 5, rfl, hand1, ⟨by decide, by decide⟩, fun r2 H2 hr2 d2 hand2 => ?_⟩
      walk_at "rd"
      exact q _ _ (whole_low (by omega)) (odd_int _) (d1.trans d2) hand2
    walk_at "rd"
    refine ⟨fun z => ?_, fun z2 => ?_⟩
    · walk_at "rd"
      exact q _ _ (whole_high (by omega)) (odd_int _) d1 hand1
    walk_at "rd"
    refine ⟨fun z => ?_, fun z3 => ?_⟩
    · walk_at "rd"
      refine ⟨h0, c, 1000000007, rfl, hand1, ⟨by decide, by decide⟩, fun r2 H2 hr2 d2 hand2 => ?_⟩
      walk_at "rd"
      exact q _ _ (whole_high (by omega)) (odd_int _) (d1.trans d2) hand2
    walk_at "rd"
    refine ⟨fun z => ?_, fun z4 => ?_⟩
    · walk_at "rd"
      exact q _ _ (whole_low (by omega)) (odd_int _) d1 hand1
    have r5 : 5 ≤ r := by
      have := mis_int z0
      have := mis_int z1
      have := mis_int z2
      have := mis_int z3
      have := mis_int z4
      omega
    walk_at "rd"
    refine ⟨by show 1 ≤ sizeLine; decide, fun t1 ht1 => ?_⟩
    walk_at "rd"
    refine ⟨by show 4 ≤ sizeLine; decide, fun p hp => ?_⟩
    walk_at "rd"
    have e5 : (r : Int) - 5 = ((r - 5 : Nat) : Int) := by omega
    rw [e5]
    have tp : upd (upd H1 t1 (.tup [.int 1])) p (.lst [.non, .str "1", .ref t1, .bl false]) t1 = some (.tup [.int 1]) := (Ex.new hp) _ _ upd_same
    have e3 : Ex H1 (upd (upd H1 t1 (.tup [.int 1])) p (.lst [.non, .str "1", .ref t1, .bl false])) := (Ex.new ht1).trans (Ex.new hp)
    have d3 := d1.trans (Dh.of e3)
    have hand3 := hand1.ex e3
    have sq : SqL K (upd (upd H1 t1 (.tup [.int 1])) p (.lst [.non, .str "1", .ref t1, .bl false])) p [.non, .str "1", .ref t1, .bl false] := sq_of upd_same
    rcases (show r = 5 ∨ r = 6 ∨ r = 7 ∨ r = 8 by omega) with rfl | rfl | rfl | rfl
    · exact rd_ix sq (v := .non) rfl (q _ _ rfl (fun _ _ => ⟨_, th_non⟩) d3 hand3)
    · exact rd_ix sq (v := .str "1") rfl (q _ _ rfl (fun _ _ => ⟨_, th_str _⟩) d3 hand3)
    · exact rd_ix sq (v := .ref t1) rfl (q _ _ rfl (fun _ e => ⟨_, th_tup (e _ _ tp)⟩) d3 hand3)
    · exact rd_ix sq (v := .bl false) rfl (q _ _ rfl (fun _ _ => ⟨_, th_bl _⟩) d3 hand3)

end
end Lw

set_option Elab.async false
set_option linter.all false
set_option maxRecDepth 100000
set_option maxHeartbeats 4000000
namespace Lw
open PySem PySem.Spec PyProof.Rows L2 He Evl StX
local macro_rules | `(tactic| walk_at "rd") => `(tactic| (repeat first
  | with_reducible refine rd_seq ?_
  | with_reducible refine rd_asg ?_
  | with_reducible refine rd_ret ?_
  | with_reducible refine rd_next ?_
  | with_reducible refine rd_drop ?_
  | with_reducible refine rd_if ?_
  | with_reducible refine rd_ifE ?_
  | ((with_reducible refine' rd_var ?hv ?_); (case hv => rfl))
  | with_reducible refine rd_c ?_
  | with_reducible refine rd_op ?_
  | with_reducible refine rd_chain ?_
  | with_reducible refine rd_I0 ?_
  | with_reducible refine rd_test ?_
  | with_reducible refine rd_B ?_
  | with_reducible refine rd_bl ?_
  | with_reducible refine rd_not ?_
  | with_reducible refine rd_and ?_
  | with_reducible refine rd_or ?_
  | with_reducible refine rd_andV ?_
  | with_reducible refine rd_orV ?_
  | with_reducible refine rd_notV ?_
  | with_reducible refine rd_cons ?_
  | with_reducible refine rd_nil ?_
  | with_reducible refine rd_CB ?_
  | with_reducible refine rd_callS ?_
  | with_reducible refine rd_raise0 ?_
  | with_reducible refine rd_raise1 ?_
  | with_reducible refine rd_raise2 ?_
  | ((with_reducible refine' rd_eq ?hs ?_); (case hs => rfl))
  | ((with_reducible refine' rd_ne ?hs ?_); (case hs => rfl))
  | ((with_reducible refine' rd_isT ?th ?hT ?_); (case th => assumption); (case hT => decide))
  | with_reducible refine rd_tup ?_
  | with_reducible refine rd_lst ?_
  | with_reducible refine rd_iEnum ?_
  | with_reducible refine rd_iEnumA ?_
  | ((with_reducible refine' rd_ixl ?hl ?hk ?_); (case hl => assumption); (case hk => rfl))
  | with_reducible refine rd_int1 ?_
  | with_reducible refine rd_sub ?_
  | with_reducible refine rd_gcons ?_
  | with_reducible refine rd_gnil ?_
  | with_reducible refine rd_iZip ?_
  | with_reducible refine rd_BM ?_
  | with_reducible refine rd_neg ?_
  | ((with_reducible refine' rd_last ?hl ?_); (case hl => assumption))
  | with_reducible refine rd_lc2 ?_
  | with_reducible refine rd_Rg1 ?_
  | with_reducible refine rd_tupRg ?_
  | with_reducible refine rd_sl ?_
  | with_reducible refine rd_noPart ?_
  | with_reducible refine rd_part ?_
  | with_reducible refine rd_for ?_
  | with_reducible refine rd_iRev ?_
  | with_reducible refine rd_gname ?_
  | with_reducible refine rd_NN ?_
  | with_reducible refine rd_NL ?_
  | with_reducible refine rd_LN ?_
  | ((with_reducible refine' rd_shl1 ?hs ?_); (case hs => omega))
  | ((with_reducible refine' rd_I ?hs ?_); (case hs => first | omega | decide | exact ⟨by decide, by decide, by decide⟩ | exact ⟨by omega, by omega⟩))
  | with_reducible refine rd_tr ?_
  | with_reducible refine rd_trI ?_
  | with_reducible refine rd_star ?_
  | with_reducible refine rd_fmtB ?_
  | with_reducible refine rd_M1 ?_
  | with_reducible refine rd_un ?_
  | with_reducible refine rd_lc ?_
  | with_reducible refine rd_iT ?_
  | with_reducible refine rd_iL ?_
  | with_reducible refine rd_iR1 ?_
  | with_reducible refine rd_iR2 ?_
  | dsimp only [List.set, start]))
section
variable {P : Program} {w : World} {K : PySem.W.Frag} {mg : Str → Option Value} {base : Heap}

def spUnique (K : PySem.W.Frag) : Sp := fun vs H Q _ => ∃ (p : Addr) (ns : List Int), vs = [.ref p] ∧ H p = some (.lst (ns.map V.int)) ∧ ns.length < 5000 ∧ RetT H Q (uniq ns)
def dedup (l : List Int) (z : Int) : List Int := if l = [] ∨ l.getLastD 0 ≠ z then l ++ [z] else l
theorem dedup_uniq {ns : List Int} : (isort ns).foldl dedup [] = uniq ns := by
  have key : ∀ (r l : List Int), (∀ a ∈ l, ∀ b ∈ r, a ≤ b) → l.Pairwise (· < ·) → r.Pairwise (· ≤ ·) → (r.foldl dedup l).Pairwise (· < ·) ∧ ∀ z, z ∈ r.foldl dedup l ↔ z ∈ l ∨ z ∈ r := by
    intro r
    induction r with
    | nil => exact fun l _ h _ => ⟨h, fun z => by simp⟩
    | cons x r ih =>
      intro l hl hp hr
      cases hr with
      | cons hr1 hr2 =>
        rw [List.foldl_cons]
        by_cases c : l = [] ∨ l.getLastD 0 ≠ x
        · have e : dedup l x = l ++ [x] := if_pos c
          rw [e]
          have lt : ∀ a ∈ l, a < x := fun a ha => by
            have le := hl a ha x List.mem_cons_self
            rcases c with rfl | c
            · exact nomatch ha
            · have ne : l ≠ [] := List.ne_nil_of_mem ha
              have el : l = l.dropLast ++ [l.getLastD 0] := by
                rw [List.getLastD_eq_getLast?, List.getLast?_eq_some_getLast ne]
                exact (List.dropLast_concat_getLast ne).symm
              have ll : l.getLastD 0 ∈ l := by rw [el]; simp
              have l2 := hl _ ll x List.mem_cons_self
              rw [el] at ha
              rcases List.mem_append.mp ha with h | h
              · rw [el, List.pairwise_append] at hp
                have := hp.2.2 a h _ (List.mem_singleton.mpr rfl)
                omega
              · rw [List.mem_singleton.mp h]
                omega
          obtain ⟨i1, i2⟩ := ih (l ++ [x]) (fun a ha b hb => by
            rcases List.mem_append.mp ha with h | h
            · exact hl a h b (List.mem_cons_of_mem _ hb)
            · rw [List.mem_singleton.mp h]
              exact hr1 b hb) (by
            rw [List.pairwise_append]
            exact ⟨hp, List.pairwise_singleton _ _, fun a ha b hb => by rw [List.mem_singleton.mp hb]; exact lt a ha⟩) hr2
          exact ⟨i1, fun z => by rw [i2, List.mem_append, List.mem_singleton, List.mem_cons, or_assoc]⟩
        · have e : dedup l x = l := if_neg c
          rw [e]
          have c2 : ¬ l = [] ∧ l.getLastD 0 = x := by
            refine ⟨fun z => c (.inl z), ?_⟩
            by_cases h : l.getLastD 0 = x
            · exact h
            · exact absurd (.inr h) c
          have xl : x ∈ l := by
            rw [← c2.2, List.getLastD_eq_getLast?, List.getLast?_eq_some_getLast c2.1]
            exact List.getLast_mem c2.1
          obtain ⟨i1, i2⟩ := ih l (fun a ha b hb => hl a ha b (List.mem_cons_of_mem _ hb)) hp hr2
          exact ⟨i1, fun z => by
            rw [i2, List.mem_cons]
            constructor
            · rintro (h | h) <;> simp [h]
            · rintro (h | rfl | h)
              · exact .inl h
              · exact .inl xl
              · exact .inr h⟩
  obtain ⟨k1, k2⟩ := key (isort ns) [] (fun _ h => nomatch h) .nil (isort_sorted ns)
  exact strict_eq k1 (uniq_sorted ns) fun z => by rw [k2, uniq_mem, (isort_perm ns).mem_iff]; simp
theorem h__law_unique (E : Ctx K mg) : Has P w K mg base 14 "_law_unique" ["_law_rows"] (spUnique K) := by
  obtain ⟨fd, F⟩ := f__law_unique E
  refine ⟨⟨fd, ?_, F.bindsN fun _ _ _ _ _ _ us hl => match us, hl with | [_], _ => rfl⟩, g__law_unique E, F.kp⟩
  refine F.ok sc__law_unique (fun vs H Q E' h => ?len) (fun cdv A outer s H vs Q E' hr h => ⟨_, (pss_cons (ps_set (i := 1) sc__law_unique.nd rfl (.inl rfl) (pe_lst pa_nil))
 (pss_cons (ps_for (passes_of rfl) rfl (ki_list (K := K) rfl (pe_callB (kc_sorted (K := K) rfl) rfl (b_sorted E) (by decide +kernel) (pa_cons (pv 0) pa_nil))) (pg_name (i := 2) sc__law_unique.nd rfl (.inl rfl))
 (pss_one (ps_if (PW.pt (pw_or (pt_cmpR (ko_eqD hr (K := K) rfl) (pv 1) (pe_lst pa_nil) (nomark _)) (pw_or1 (pt_cmpR op_ne (pe_ix (kx_list (K := K) rfl) (pv 1) (pe_un un_neg pe_int) (fun _ _ => rfl)) (pv 2) (nomark _)))))
 (pss_one (ps_expr (pe_bm PySem.F.plainAttrs_list PySem.F.slot_list_append PySem.F.type_list_append mt_append (pv 1) (pa_cons (pv 2) pa_nil))))
 pss_nil)))
 (pss_one (ps_ret (pe_callTy (kc_tup (K := K) rfl) rfl (b_tuple E) (by decide +kernel) (pa_cons (pv 1) pa_nil)))))), ?rd⟩)
  case len =>
    obtain ⟨p, ns, rfl, _⟩ := h
    rfl
  case rd =>
    obtain ⟨p, ns, rfl, at_, few, q⟩ := h
    walk_at "rd"
    refine ⟨by show 0 ≤ sizeLine; omega, fun f hf => ?_⟩
    walk_at "rd"
    refine rd_sorted (sq_of ((Ex.new hf) _ _ at_)) fun s hs => ?_
    have sf : f ≠ s := fun e => by
      subst e
      rw [upd_same] at hs
      cases hs
    have sq0 : SqL K (upd (upd H f (.lst [])) s (.lst ((isort ns).map V.int))) s ((isort ns).map V.int) := sq_of upd_same
    have len : ((isort ns).map V.int).length = (isort ns).length := by simp
    have il : (isort ns).length = ns.length := (isort_perm ns).length_eq
    refine ⟨s, rfl, ⟨_, sq0⟩, for_it walk_list (fun i σ H' => ∃ (l : List Int) (v2 : Option V), σ = [some (.ref p), some (.ref f), v2] ∧ l = ((isort ns).take i).foldl dedup [] ∧ Fill H f (l.map V.int) H' ∧ H' s = some (.lst ((isort ns).map V.int)) ∧ l.length ≤ i)
      ⟨[], none, rfl, rfl, ⟨hf, (Ex.new hf).trans (Ex.new hs), by rw [upd_ne sf]; exact upd_same⟩, upd_same, Nat.le_refl _⟩ (fun i σ H' _ ⟨_, _, _, _, _, e, _⟩ => sq_of e) ?_ ?_⟩
    · rintro i x σ H1 H2 hlt ⟨l, v2, rfl, el, F, hs1, ll⟩ ⟨rfl, hx⟩
      rw [List.getElem?_map] at hx
      cases ez : (isort ns)[i]? with
      | none => rw [ez] at hx; cases hx
      | some z =>
        rw [ez] at hx
        obtain rfl : V.int z = x := Option.some.inj hx
        have et : ((isort ns).take (i + 1)).foldl dedup [] = dedup l z := by
          rw [List.take_add_one, ez, List.foldl_append, ← el]
          rfl
        walk_at "rd"
        refine ⟨by show 0 ≤ sizeLine; omega, fun e0 he0 => ?_⟩
        have F2 := F.ex (Ex.new he0 (o := .lst []))
        have hs2 := (Ex.new he0 (o := .lst [])) _ _ hs1
        refine rd_eqL (a := l) (b := []) (sq_of F2.2.2) (sq_of upd_same) ?_
        walk_at "rd"
        refine ⟨fun c => ?_, fun c => ?_⟩
        · have c1 : l = [] ∨ l.getLastD 0 ≠ z := .inl (of_decide_eq_true c)
          refine ⟨fun _ => ?_, (fun z => nomatch z)⟩
          walk_at "rd"
          refine ⟨ty_lst F2.2.2, ?_⟩
          walk_at "rd"
          refine rd_app F2.2.2 (by rw [List.length_map]; omega) ?_
          walk_at "rd"
          refine ⟨l ++ [z], _, rfl, by rw [et]; exact (if_pos c1).symm, by rw [List.map_append]; exact F2.set _, by rw [upd_ne (Ne.symm sf)]; exact hs2, by rw [List.length_append]; simp; omega⟩
        · have ne : l ≠ [] := of_decide_eq_false c
          have ed : l = l.dropLast ++ [l.getLastD 0] := by
            rw [List.getLastD_eq_getLast?, List.getLast?_eq_some_getLast ne]
            exact (List.dropLast_concat_getLast ne).symm
          have at2 : (upd H2 e0 (.lst [])) f = some (.lst (l.dropLast.map V.int ++ [.int (l.getLastD 0)])) := by
            rw [F2.2.2]
            conv => lhs; rw [ed]
            rw [List.map_append]
            rfl
          walk_at "rd"
          refine ⟨fun c2 => ?_, fun c2 => ?_⟩
          · have c1 : l = [] ∨ l.getLastD 0 ≠ z := .inr fun e => by
              rw [e, decide_eq_true rfl] at c2
              cases c2
            walk_at "rd"
            refine ⟨ty_lst F2.2.2, ?_⟩
            walk_at "rd"
            refine rd_app F2.2.2 (by rw [List.length_map]; omega) ?_
            walk_at "rd"
            refine ⟨l ++ [z], _, rfl, by rw [et]; exact (if_pos c1).symm, by rw [List.map_append]; exact F2.set _, by rw [upd_ne (Ne.symm sf)]; exact hs2, by rw [List.length_append]; simp; omega⟩
          · have c1 : ¬ (l = [] ∨ l.getLastD 0 ≠ z) := by
              rintro (h | h)
              · exact ne h
              · have : decide (V.int (l.getLastD 0) = V.int z) = true := by simpa using c2
                exact h (V.int.inj (of_decide_eq_true this))
            walk_at "rd"
            exact ⟨l, _, rfl, by rw [et]; exact (if_neg c1).symm, F2, hs2, by omega⟩
    · rintro σ H1 ⟨l, v2, rfl, el, F, hs1, ll⟩
      rw [len, List.take_length, dedup_uniq] at el
      subst el
      walk_at "rd"
      refine ⟨f, _, rfl, .inl ⟨sq_of F.2.2, fun t ht => ?_⟩⟩
      exact q t _ (fresh_back F.2.1 ht) (F.2.1.trans (Ex.new ht)) upd_same

def spLSumL (K : PySem.W.Frag) : Sp := fun vs H Q _ => ∃ (m : Nat) (a : Addr) (ps : List Nat), vs = [.int (m : Int), .ref a] ∧ m ≤ 5 ∧ H a = some (.lst ((intsL ps).map V.int)) ∧ Q (.int ((sumW m ps : Nat) : Int)) H
theorem h__law_sum (E : Ctx K mg) : Has P w K mg base 15 "_law_sum" ["_law_m", "_law_heaps"] (spLSumL K) := by
  obtain ⟨fd, F⟩ := f__law_sum E
  refine ⟨⟨fd, ?_, F.bindsN fun _ _ _ _ _ _ us hl => match us, hl with | [_, _], _ => rfl⟩, g__law_sum E, F.kp⟩
  refine F.ok sc__law_sum (fun vs H Q E' h => ?len) (fun cdv A outer s H vs Q E' hr h => ⟨_, (pss_cons (ps_set (i := 2) sc__law_sum.nd rfl (.inl rfl) pe_int)
 (pss_cons (ps_for (passes_of rfl) rfl (ki_list (K := K) rfl (pv 1)) (pg_name (i := 3) sc__law_sum.nd rfl (.inl rfl))
 (pss_one (ps_set (i := 2) sc__law_sum.nd rfl (.inl rfl) (pe_op on_xor (pv 2) (pe_H (h__law_heap_word E) (hr.mono (by decide)) (takes_of rfl rfl rfl rfl) (pa_cons (pv 0) (pa_cons (pv 3) pa_nil)))))))
 (pss_one (ps_ret (pv 2))))), ?rd⟩)
  case len =>
    obtain ⟨m, a, ps, rfl, _⟩ := h
    rfl
  case rd =>
    obtain ⟨m, a, ps, rfl, hm, at_, q⟩ := h
    have sq : SqL K H a ((intsL ps).map V.int) := sq_of at_
    have el : ((intsL ps).map V.int).length = ps.length := by simp [intsL]
    walk_at "rd"
    refine ⟨a, rfl, ⟨_, sq⟩, for_it walk_list (fun i σ H' => ∃ v3 : Option V, σ = [some (.int (m : Int)), some (.ref a), some (.int (((ps.take i).foldl (fun w p => w ^^^ heapW m p) 0 : Nat) : Int)), v3] ∧ H' = H) ⟨none, rfl, rfl⟩ (fun i σ H' _ ⟨_, _, e⟩ => e ▸ sq) ?_ ?_⟩
    · rintro i x σ H1 H2 hlt ⟨v3, rfl, rfl⟩ ⟨rfl, hx⟩
      have hi2 : ∃ p, ps[i]? = some p ∧ x = .int (p : Int) := by
        unfold intsL at hx
        rw [List.map_map, List.getElem?_map] at hx
        cases e : ps[i]? with
        | none => rw [e] at hx; cases hx
        | some p => rw [e] at hx; exact ⟨p, rfl, (Option.some.inj hx).symm⟩
      obtain ⟨p, ep, rfl⟩ := hi2
      walk_at "rd"
      refine ⟨m, p, rfl, hm, ?_⟩
      walk_at "rd"
      refine ⟨some (.int (p : Int)), ?_, rfl⟩
      rw [List.take_add_one, ep, List.foldl_append]
      rfl
    · rintro σ H1 ⟨v3, rfl, rfl⟩
      rw [el, List.take_length]
      walk_at "rd"
      exact q


end
end Lw

set_option Elab.async false
set_option linter.all false
set_option maxRecDepth 100000
set_option maxHeartbeats 4000000
namespace Lw
open PySem PySem.Spec PyProof.Rows L2 He Evl StX
local macro_rules | `(tactic| walk_at "rd") => `(tactic| (repeat first
  | with_reducible refine rd_seq ?_
  | with_reducible refine rd_asg ?_
  | with_reducible refine rd_ret ?_
  | with_reducible refine rd_next ?_
  | with_reducible refine rd_drop ?_
  | with_reducible refine rd_if ?_
  | with_reducible refine rd_ifE ?_
  | ((with_reducible refine' rd_var ?hv ?_); (case hv => rfl))
  | with_reducible refine rd_c ?_
  | with_reducible refine rd_op ?_
  | with_reducible refine rd_chain ?_
  | with_reducible refine rd_I0 ?_
  | with_reducible refine rd_test ?_
  | with_reducible refine rd_B ?_
  | with_reducible refine rd_bl ?_
  | with_reducible refine rd_not ?_
  | with_reducible refine rd_and ?_
  | with_reducible refine rd_or ?_
  | with_reducible refine rd_andV ?_
  | with_reducible refine rd_orV ?_
  | with_reducible refine rd_notV ?_
  | with_reducible refine rd_cons ?_
  | with_reducible refine rd_nil ?_
  | with_reducible refine rd_CB ?_
  | with_reducible refine rd_callS ?_
  | with_reducible refine rd_raise0 ?_
  | with_reducible refine rd_raise1 ?_
  | with_reducible refine rd_raise2 ?_
  | ((with_reducible refine' rd_eq ?hs ?_); (case hs => rfl))
  | ((with_reducible refine' rd_ne ?hs ?_); (case hs => rfl))
  | ((with_reducible refine' rd_isT ?th ?hT ?_); (case th => assumption); (case hT => decide))
  | with_reducible refine rd_tup ?_
  | with_reducible refine rd_lst ?_
  | with_reducible refine rd_iEnum ?_
  | with_reducible refine rd_iEnumA ?_
  | ((with_reducible refine' rd_ixl ?hl ?hk ?_); (case hl => assumption); (case hk => rfl))
  | with_reducible refine rd_int1 ?_
  | with_reducible refine rd_sub ?_
  | with_reducible refine rd_gcons ?_
  | with_reducible refine rd_gnil ?_
  | with_reducible refine rd_iZip ?_
  | with_reducible refine rd_BM ?_
  | with_reducible refine rd_neg ?_
  | ((with_reducible refine' rd_last ?hl ?_); (case hl => assumption))
  | with_reducible refine rd_lc2 ?_
  | with_reducible refine rd_Rg1 ?_
  | with_reducible refine rd_tupRg ?_
  | with_reducible refine rd_sl ?_
  | with_reducible refine rd_noPart ?_
  | with_reducible refine rd_part ?_
  | with_reducible refine rd_for ?_
  | with_reducible refine rd_iRev ?_
  | with_reducible refine rd_gname ?_
  | with_reducible refine rd_NN ?_
  | with_reducible refine rd_NL ?_
  | with_reducible refine rd_LN ?_
  | ((with_reducible refine' rd_shl1 ?hs ?_); (case hs => omega))
  | ((with_reducible refine' rd_I ?hs ?_); (case hs => first | omega | decide | exact ⟨by decide, by decide, by decide⟩ | exact ⟨by omega, by omega⟩))
  | with_reducible refine rd_tr ?_
  | with_reducible refine rd_trI ?_
  | with_reducible refine rd_star ?_
  | with_reducible refine rd_fmtB ?_
  | with_reducible refine rd_M1 ?_
  | with_reducible refine rd_un ?_
  | with_reducible refine rd_lc ?_
  | with_reducible refine rd_iT ?_
  | with_reducible refine rd_iL ?_
  | with_reducible refine rd_iR1 ?_
  | with_reducible refine rd_iR2 ?_
  | dsimp only [List.set, start]))
section
variable {P : Program} {w : World} {K : PySem.W.Frag} {mg : Str → Option Value} {base : Heap}

theorem lenV (l : List Nat) : ((intsL l).map V.int).length = l.length := by simp [intsL]
theorem zero_only {k : Nat} (h : 0 < k) : ((List.range k).filter fun i => decide (i = 0)) = [0] := by
  obtain ⟨j, rfl⟩ : ∃ j, k = j + 1 := ⟨k - 1, by omega⟩
  rw [List.range_succ_eq_map, List.filter_cons_of_pos (by rfl), List.filter_eq_nil_iff.mpr]
  intro x hx
  obtain ⟨y, _, rfl⟩ := List.mem_map.mp hx
  simp
def spPicked (K : PySem.W.Frag) : Sp := fun vs H Q _ => ∃ (a : Addr) (ns : List Nat) (n : Nat), vs = [.ref a, .int (n : Int)] ∧ H a = some (.lst ((intsL ns).map V.int)) ∧ ns.length ≤ 40 ∧ RetL H Q (intsL (pickN ns n))
theorem h__law_picked (E : Ctx K mg) : Has P w K mg base 14 "_law_picked" ["_law_heaps", "_law_number_here"] (spPicked K) := by
  obtain ⟨fd, F⟩ := f__law_picked E
  refine ⟨⟨fd, ?_, F.bindsN fun _ _ _ _ _ _ us hl => match us, hl with | [_, _], _ => rfl⟩, g__law_picked E, F.kp⟩
  refine F.ok sc__law_picked (fun vs H Q E' h => ?len) (fun cdv A outer s H vs Q E' hr h => ⟨_, (pss_one (ps_ret (pe_lc (own := [("_law_at_here", 2), ("_law_heap", 3)]) (g := gTup K 2 (gCons (gName 2) (gCons (gName 3) gNil))) rfl sc__law_picked.nd (kpi_enumA (K := K) rfl rfl (b_enumerate E) (pa_cons (pv 0) pa_nil)) (blkOk_by (own := [("_law_at_here", 2), ("_law_heap", 3)]) (N := N__law_picked) (sc := defScope s__law_picked) (by decide +kernel)) (fun _ _ _ _ _ => (kpg_tup (K := K) rfl rfl (pgs_cons (pg_name (i := 2) sc__law_picked.nd rfl (.inl rfl)) (pgs_cons (pg_name (i := 3) sc__law_picked.nd rfl (.inl rfl)) pgs_nil)))) (fun _ _ _ _ _ => (pts_one (pt_cmpR op_eq (pe_op on_and (pe_op on_shr (pv 1) (pv 2)) pe_int) pe_int (nomark _)))) (fun _ _ _ _ _ => (pv 3))))), ?rd⟩)
  case len =>
    obtain ⟨a, ns, n, rfl, _⟩ := h
    rfl
  case rd =>
    obtain ⟨a, ns, n, rfl, at_, few, q⟩ := h
    have sq : SqL K H a ((intsL ns).map V.int) := sq_of at_
    have el : ((intsL ns).map V.int).length = ns.length := by simp [intsL]
    walk_at "rd"
    refine ⟨a, _, rfl, .inl ⟨sq, fun D hD => lc_it walk_enum (Cw H (fun i => n / 2 ^ i % 2 == 1) (fun i => .int ((ns.getD i 0 : Nat) : Int)) D) ⟨hD, Ex.new hD, upd_same⟩ (fun i H' _ p => ex_l p.2.1 sq) (fun i v H1 H2 hi p y => ?_) (fun H' p => ?_)⟩⟩
    · obtain ⟨T, iv, xv, rfl, hT, rfl, e1, e2⟩ := y
      obtain rfl := Option.some.inj e1
      obtain ⟨h, hh, rfl⟩ := nat_at e2
      have eh : ns.getD i 0 = h := by rw [List.getD_eq_getElem?_getD, hh]; rfl
      obtain ⟨q1, q2, q3⟩ := p
      have nDT : D ≠ T := ne_of_none q3 hT
      refine rd_gtup upd_same rfl ?_
      walk_at "rd"
      refine ⟨rfl, cw_turn ⟨q1, q2.trans (Ex.new hT), by rw [upd_ne nDT]; exact q3⟩ (by have := (List.getElem?_eq_some_iff.mp hh).1; omega) (fun K1 k1 R r => ?_) (fun hf K1 k1 R r => ?_)⟩
      · walk_at "rd"
        rw [bit_eq1]
        exact r _ (Ex.refl _)
      · walk_at "rd"
        rw [← eh]
        exact r _ (Ex.refl _)
    · obtain ⟨_, e1, at1⟩ := p
      have at2 : H' D = some (.lst ((intsL (pickN ns n)).map V.int)) := by
        rw [at1, el]
        unfold given pickN intsL
        rw [List.map_map, List.map_map]
        rfl
      exact q D H' hD e1 at2
def spSmall (K : PySem.W.Frag) : Sp := fun vs H Q _ => ∃ (h c : Addr) (m : Nat), vs = [.ref h, .int (m : Int), .int 12] ∧ HandC c H h ∧ m ≤ 5 ∧
  ∀ (p : Addr) (f : Nat → Bool) (H' : Hp), H p = none → H' p = some (.lst ((intsL ((List.range (2 ^ m)).filter f)).map V.int)) → Dh h H H' → HandC c H' h → Q (.ref p) H'
theorem h__law_small_falling (E : Ctx K mg) : Has P w K mg base 17 "_law_small_falling" ["_law_hand_here", "_law_m", "_law_most"] (spSmall K) := by
  obtain ⟨fd, F⟩ := f__law_small_falling E
  refine ⟨⟨fd, ?_, F.bindsN fun _ _ _ _ _ _ us hl => match us, hl with | [_, _, _], _ => rfl⟩, g__law_small_falling E, F.kp⟩
  refine F.ok sc__law_small_falling (fun vs H Q E' h => ?len) (fun cdv A outer s H vs Q E' hr h => ⟨_, (pss_cons (ps_set (i := 3) sc__law_small_falling.nd rfl (.inl rfl) (pe_lst (pa_cons pe_int pa_nil)))
 (pss_cons (ps_for (passes_of rfl) rfl (ki_list (K := K) rfl (pe_H (h__law_seeds E) (hr.mono (by decide)) (takes_of rfl rfl rfl rfl) (pa_cons (pv 0) (pa_cons (pv 1) pa_nil)))) (pg_name (i := 4) sc__law_small_falling.nd rfl (.inl rfl))
 (pss_cons (ps_set (i := 5) sc__law_small_falling.nd rfl (.inl rfl) (pe_H (h__law_falling E) (hr.mono (by decide)) (takes_of rfl rfl rfl rfl) (pa_cons (pv 1) (pa_cons (pe_op op_cat (pv 3) (pe_lst (pa_cons (pv 4) pa_nil))) pa_nil))))
 (pss_one (ps_if (pt_cmpR op_le (pe_callB (kc_len (K := K) rfl) rfl (b_len E) (by decide +kernel) (pa_cons (pv 5) pa_nil)) (pv 2) (nomark _))
 (pss_one (ps_set (i := 3) sc__law_small_falling.nd rfl (.inl rfl) (pv 5)))
 pss_nil))))
 (pss_one (ps_ret (pv 3))))), ?rd⟩)
  case len =>
    obtain ⟨h0, c, m, rfl, _⟩ := h
    rfl
  case rd =>
    obtain ⟨h0, c, m, rfl, hand, hm, q⟩ := h
    have p5 : 2 ^ m ≤ 32 := Nat.le_trans (Nat.pow_le_pow_right (by decide) hm) (by decide)
    have p0 : 0 < 2 ^ m := Nat.pow_pos (by decide)
    walk_at "rd"
    refine ⟨by show 1 ≤ sizeLine; decide, fun p hp => ?_⟩
    have e0 : Ex H (upd H p (.lst [.int 0])) := Ex.new hp
    have at0 : (upd H p (.lst [.int 0])) p = some (.lst ((intsL ((List.range (2 ^ m)).filter fun i => decide (i = 0))).map V.int)) := by
      rw [show ((List.range (2 ^ m)).filter fun i => decide (i = 0)) = [0] from zero_only p0]
      exact upd_same
    have hand0 := hand.ex e0
    generalize upd H p (.lst [.int 0]) = H0 at e0 at0 hand0 ⊢
    walk_at "rd"
    refine ⟨h0, c, m, rfl, hand0, hm, fun s gs H1 hs1 at1 len bd d1 hand1 => ?_⟩
    have at0b := d1 _ _ (hand.away hp).1 at0
    have sqs : SqL K H1 s ((intsL gs).map V.int) := sq_of at1
    have els : ((intsL gs).map V.int).length = gs.length := by simp [intsL]
    refine ⟨s, rfl, ⟨_, sqs⟩, for_it walk_list (fun i σ H' => ∃ (v4 v5 : Option V) (x : Addr) (f : Nat → Bool), σ = [some (.ref h0), some (.int (m : Int)), some (.int 12), some (.ref x), v4, v5] ∧ Ex H1 H' ∧ H x = none ∧ H' x = some (.lst ((intsL ((List.range (2 ^ m)).filter f)).map V.int)))
      ⟨none, none, p, fun i => decide (i = 0), rfl, Ex.refl _, hp, at0b⟩ (fun i σ H' _ ⟨_, _, _, _, _, e, _⟩ => ex_l e sqs) ?_ ?_⟩
    · rintro i x σ H9 H2 hlt ⟨v4, v5, px, f, rfl, e2, hpx, atx⟩ ⟨rfl, hx⟩
      obtain ⟨g, hg, rfl⟩ := nat_at hx
      have hgm := bd g (List.mem_of_getElem? hg)
      have lenf : ((List.range (2 ^ m)).filter f).length ≤ 32 := Nat.le_trans (List.length_filter_le _ _) (by rw [List.length_range]; exact p5)
      walk_at "rd"
      refine ⟨by show 1 ≤ sizeLine; decide, fun t1 ht1 => ?_⟩
      walk_at "rd"
      have e3 : Ex H2 (upd H2 t1 (.lst [.int (g : Int)])) := Ex.new ht1
      refine ⟨px, t1, _, _, rfl, rfl, e3 _ _ atx, upd_same, Nat.le_trans (m := 1000) (by rw [lenV]; show _ + 1 ≤ 1000; omega) (by decide), fun t2 ht2 => ?_⟩
      have e4 := e3.trans (Ex.new (o := .lst ((intsL ((List.range (2 ^ m)).filter f)).map V.int ++ [.int (g : Int)])) ht2)
      have at2 : (upd (upd H2 t1 (.lst [.int (g : Int)])) t2 (.lst ((intsL ((List.range (2 ^ m)).filter f)).map V.int ++ [.int (g : Int)]))) t2 = some (.lst ((intsL ((List.range (2 ^ m)).filter f ++ [g])).map V.int)) := by
        rw [upd_same]
        unfold intsL
        rw [List.map_append, List.map_append]
        rfl
      generalize upd (upd H2 t1 (.lst [.int (g : Int)])) t2 (.lst ((intsL ((List.range (2 ^ m)).filter f)).map V.int ++ [.int (g : Int)])) = H4 at e4 at2 ⊢
      walk_at "rd"
      refine ⟨m, t2, _, rfl, hm, at2, fun z hz => ?_, by rw [List.length_append]; show _ + 1 ≤ _; omega, fun p2 H5 hp2 e5 at5 => ?_⟩
      · rcases List.mem_append.mp hz with hz | hz
        · have := List.mem_range.mp (List.mem_filter.mp hz).1
          omega
        · rw [List.mem_singleton.mp hz]
          omega
      have eA := (e2.trans e4)
      walk_at "rd"
      refine ⟨p2, _, rfl, .inl (sq_of at5), ?_⟩
      walk_at "rd"
      refine ⟨fun z => ?_, fun z => ?_⟩
      · walk_at "rd"
        exact ⟨_, _, p2, _, rfl, eA.trans e5, HandC.free ((Dh.of e0).trans (d1.trans (Dh.of eA))) (hand1.ex eA) hp2, at5⟩
      · walk_at "rd"
        exact ⟨_, _, px, f, rfl, eA.trans e5, hpx, (e4.trans e5) _ _ atx⟩
    · rintro σ H2 ⟨v4, v5, px, f, rfl, e2, hpx, atx⟩
      walk_at "rd"
      exact q px f H2 hpx atx ((Dh.of e0).trans (d1.trans (Dh.of e2))) (hand1.ex e2)

end
end Lw

set_option Elab.async false
set_option linter.all false
set_option maxRecDepth 100000
set_option maxHeartbeats 4000000
namespace Lw
open PySem PySem.Spec PyProof.Rows L2 He Evl StX
local macro_rules | `(tactic| walk_at "rd") => `(tactic| (repeat first
  | with_reducible refine rd_seq ?_
  | with_reducible refine rd_asg ?_
  | with_reducible refine rd_ret ?_
  | with_reducible refine rd_next ?_
  | with_reducible refine rd_drop ?_
  | with_reducible refine rd_if ?_
  | with_reducible refine rd_ifE ?_
  | ((with_reducible refine' rd_var ?hv ?_); (case hv => rfl))
  | with_reducible refine rd_c ?_
  | with_reducible refine rd_op ?_
  | with_reducible refine rd_chain ?_
  | with_reducible refine rd_I0 ?_
  | with_reducible refine rd_test ?_
  | with_reducible refine rd_B ?_
  | with_reducible refine rd_bl ?_
  | with_reducible refine rd_not ?_
  | with_reducible refine rd_and ?_
  | with_reducible refine rd_or ?_
  | with_reducible refine rd_andV ?_
  | with_reducible refine rd_orV ?_
  | with_reducible refine rd_notV ?_
  | with_reducible refine rd_cons ?_
  | with_reducible refine rd_nil ?_
  | with_reducible refine rd_CB ?_
  | with_reducible refine rd_callS ?_
  | with_reducible refine rd_raise0 ?_
  | with_reducible refine rd_raise1 ?_
  | with_reducible refine rd_raise2 ?_
  | ((with_reducible refine' rd_eq ?hs ?_); (case hs => rfl))
  | ((with_reducible refine' rd_ne ?hs ?_); (case hs => rfl))
  | ((with_reducible refine' rd_isT ?th ?hT ?_); (case th => assumption); (case hT => decide))
  | with_reducible refine rd_tup ?_
  | with_reducible refine rd_lst ?_
  | with_reducible refine rd_iEnum ?_
  | with_reducible refine rd_iEnumA ?_
  | ((with_reducible refine' rd_ixl ?hl ?hk ?_); (case hl => assumption); (case hk => rfl))
  | with_reducible refine rd_int1 ?_
  | with_reducible refine rd_sub ?_
  | with_reducible refine rd_gcons ?_
  | with_reducible refine rd_gnil ?_
  | with_reducible refine rd_iZip ?_
  | with_reducible refine rd_BM ?_
  | with_reducible refine rd_neg ?_
  | ((with_reducible refine' rd_last ?hl ?_); (case hl => assumption))
  | with_reducible refine rd_lc2 ?_
  | with_reducible refine rd_Rg1 ?_
  | with_reducible refine rd_tupRg ?_
  | with_reducible refine rd_sl ?_
  | with_reducible refine rd_noPart ?_
  | with_reducible refine rd_part ?_
  | with_reducible refine rd_for ?_
  | with_reducible refine rd_iRev ?_
  | with_reducible refine rd_gname ?_
  | with_reducible refine rd_NN ?_
  | with_reducible refine rd_NL ?_
  | with_reducible refine rd_LN ?_
  | ((with_reducible refine' rd_shl1 ?hs ?_); (case hs => omega))
  | ((with_reducible refine' rd_I ?hs ?_); (case hs => first | omega | decide | exact ⟨by decide, by decide, by decide⟩ | exact ⟨by omega, by omega⟩))
  | with_reducible refine rd_tr ?_
  | with_reducible refine rd_trI ?_
  | with_reducible refine rd_star ?_
  | with_reducible refine rd_fmtB ?_
  | with_reducible refine rd_M1 ?_
  | with_reducible refine rd_un ?_
  | with_reducible refine rd_lc ?_
  | with_reducible refine rd_iT ?_
  | with_reducible refine rd_iL ?_
  | with_reducible refine rd_iR1 ?_
  | with_reducible refine rd_iR2 ?_
  | dsimp only [List.set, start]))
section
variable {P : Program} {w : World} {K : PySem.W.Frag} {mg : Str → Option Value} {base : Heap}

theorem bit_div (n i : Nat) : (n / 2 ^ i % 2 == 1) = n.testBit i := by
  rw [Nat.testBit_eq_decide_div_mod_eq]
  rfl
/-- strictly ascending lists with the same members -/
theorem srt_eq {a b : List Nat} (ha : a.Pairwise (· < ·)) (hb : b.Pairwise (· < ·)) (h : ∀ z, z ∈ a ↔ z ∈ b) : a = b := by
  have ha2 : (intsL a).Pairwise (· < ·) := by
    unfold intsL
    rw [List.pairwise_map]
    exact ha.imp fun h => by omega
  have hb2 : (intsL b).Pairwise (· < ·) := by
    unfold intsL
    rw [List.pairwise_map]
    exact hb.imp fun h => by omega
  have e : intsL a = intsL b := strict_eq ha2 hb2 fun z => by
    unfold intsL
    rw [List.mem_map, List.mem_map]
    exact ⟨fun ⟨p, hp, e⟩ => ⟨p, (h p).mp hp, e⟩, fun ⟨p, hp, e⟩ => ⟨p, (h p).mpr hp, e⟩⟩
  exact (ints_inj ▸ e : a = b)
theorem srt_nodup {l : List Nat} (h : l.Pairwise (· < ·)) : l.Nodup := h.imp fun h => Nat.ne_of_lt h
theorem mem_places {m n p : Nat} : p ∈ placesN m n ↔ p < 2 ^ m ∧ n.testBit p = true := by
  unfold placesN
  rw [List.mem_filter, List.mem_range, bit_div]
/-- the places of a marked word -/
theorem places_mark {m : Nat} {ps : List Nat} (srt : ps.Pairwise (· < ·)) (bd : ∀ p ∈ ps, p < 2 ^ m) : placesN m (markN ps) = ps := by
  refine srt_eq ?_ srt fun z => ?_
  · unfold placesN
    exact List.Pairwise.filter _ List.pairwise_lt_range
  · rw [mem_places, markN_bit z (2 ^ m) ps (srt_nodup srt) bd, decide_eq_true_eq]
    exact ⟨fun h => h.2, fun h => ⟨bd z h, h⟩⟩
/-- a word of the code has the heaps that were picked -/
theorem heaps_word {m : Nat} {ns : List Nat} (hm : m ≤ 5) (srt : ns.Pairwise (· < ·)) (bd : ∀ p ∈ ns, p < 2 ^ m) (n : Nat) : heapsN m (wordN m ns n) = pickN ns n := by
  have s := pick_srt srt n
  have b : ∀ p ∈ pickN ns n, p < 2 ^ m := fun p hp => bd p (pick_mem hp)
  unfold heapsN wordN
  rw [stepN_back hm (markN_lt (srt_nodup s) b), places_mark s b]
theorem out_pick (ns : List Nat) (n : Nat) : outN ns (pickN ns n) = none := by
  unfold outN
  rw [List.find?_eq_none]
  intro x hx
  have := pick_mem hx
  simp [this]
theorem mem_pick {ns : List Nat} {n z : Nat} : z ∈ pickN ns n ↔ ∃ i, ∃ h : i < ns.length, ns[i] = z ∧ n.testBit i = true := by
  unfold pickN
  rw [List.mem_map]
  constructor
  · rintro ⟨i, hi, rfl⟩
    obtain ⟨h1, h2⟩ := List.mem_filter.mp hi
    have h1 := List.mem_range.mp h1
    rw [bit_div] at h2
    exact ⟨i, h1, by rw [List.getD_eq_getElem?_getD, List.getElem?_eq_getElem h1]; rfl, h2⟩
  · rintro ⟨i, h1, rfl, h2⟩
    exact ⟨i, List.mem_filter.mpr ⟨List.mem_range.mpr h1, by rw [bit_div]; exact h2⟩, by rw [List.getD_eq_getElem?_getD, List.getElem?_eq_getElem h1]; rfl⟩
theorem at_inj {ns : List Nat} (srt : ns.Pairwise (· < ·)) {i j : Nat} (hi : i < ns.length) (hj : j < ns.length) (e : ns[i] = ns[j]) : i = j := by
  rcases Nat.lt_trichotomy i j with h | h | h
  · exact absurd e (Nat.ne_of_lt (List.pairwise_iff_getElem.mp srt i j hi hj h))
  · exact h
  · exact absurd e.symm (Nat.ne_of_lt (List.pairwise_iff_getElem.mp srt j i hj hi h))
/-- the number of a word that was picked by a number is this number -/
theorem num_pick {ns : List Nat} (srt : ns.Pairwise (· < ·)) {n : Nat} (hn : n < 2 ^ ns.length) : numN ns (pickN ns n) = n := by
  unfold numN
  have e : ((List.range ns.length).filter fun i => decide (ns.getD i 0 ∈ pickN ns n)) = (List.range ns.length).filter fun i => n.testBit i := by
    refine List.filter_congr fun i hi => ?_
    have h := List.mem_range.mp hi
    have eg : ns.getD i 0 = ns[i] := by rw [List.getD_eq_getElem?_getD, List.getElem?_eq_getElem h]; rfl
    rw [eg]
    refine Bool.eq_iff_iff.mpr ?_
    rw [decide_eq_true_eq, mem_pick]
    constructor
    · rintro ⟨j, hj, ej, b⟩
      rw [at_inj srt hj h ej] at b
      exact b
    · intro b
      exact ⟨i, h, rfl, b⟩
  rw [e]
  refine Nat.eq_of_testBit_eq fun i => ?_
  rw [markN_bit i ns.length _ (List.nodup_range.filter _) fun p hp => List.mem_range.mp (List.mem_filter.mp hp).1]
  by_cases c : i < ns.length
  · cases b : n.testBit i with
    | true => exact decide_eq_true (List.mem_filter.mpr ⟨List.mem_range.mpr c, b⟩)
    | false => exact decide_eq_false fun z => by rw [(List.mem_filter.mp z).2] at b; cases b
  · rw [Nat.testBit_lt_two_pow (Nat.lt_of_lt_of_le hn (Nat.pow_le_pow_right (by decide) (by omega)))]
    exact decide_eq_false fun z => c (List.mem_range.mp (List.mem_filter.mp z).1)
/-- the sum of two words of the code has the sum of their numbers -/
theorem word_xor {m : Nat} {ns : List Nat} (srt : ns.Pairwise (· < ·)) (bd : ∀ p ∈ ns, p < 2 ^ m) (a b : Nat) : wordN m ns (a ^^^ b) = wordN m ns a ^^^ wordN m ns b := by
  unfold wordN
  rw [← stepN_xor]
  congr 1
  have nd := fun n => srt_nodup (pick_srt srt n)
  have lt : ∀ n, ∀ p ∈ pickN ns n, p < 2 ^ m := fun n p hp => bd p (pick_mem hp)
  refine Nat.eq_of_testBit_eq fun i => ?_
  rw [Nat.testBit_xor, markN_bit i (2 ^ m) _ (nd _) (lt _), markN_bit i (2 ^ m) _ (nd _) (lt _), markN_bit i (2 ^ m) _ (nd _) (lt _)]
  by_cases c : i ∈ ns
  · obtain ⟨j, hj, ej⟩ := List.getElem_of_mem c
    have key : ∀ n, decide (i ∈ pickN ns n) = n.testBit j := fun n => by
      refine Bool.eq_iff_iff.mpr ?_
      rw [decide_eq_true_eq, mem_pick]
      constructor
      · rintro ⟨k, hk, ek, b⟩
        rw [at_inj srt hk hj (ek.trans ej.symm)] at b
        exact b
      · intro b
        exact ⟨j, hj, ej, b⟩
    rw [key, key, key, Nat.testBit_xor]
  · have key : ∀ n, decide (i ∈ pickN ns n) = false := fun n => decide_eq_false fun z => c (pick_mem z)
    rw [key, key, key]
    rfl
theorem word_sum {m : Nat} {ns : List Nat} (hm : m ≤ 5) (srt : ns.Pairwise (· < ·)) (bd : ∀ p ∈ ns, p < 2 ^ m) (n : Nat) : wordN m ns n = sumW m (pickN ns n) :=
  stepN_marks hm (srt_nodup (pick_srt srt n)) fun p hp => bd p (pick_mem hp)
theorem word_lt2 {m : Nat} {ns : List Nat} (hm : m ≤ 5) (srt : ns.Pairwise (· < ·)) (bd : ∀ p ∈ ns, p < 2 ^ m) (n : Nat) : wordN m ns n < 2 ^ (2 ^ m) :=
  stepN_lt hm (markN_lt (srt_nodup (pick_srt srt n)) fun p hp => bd p (pick_mem hp)) m (Nat.le_refl m)
/-- words of unlike numbers are unlike -/
theorem word_inj {m : Nat} {ns : List Nat} (hm : m ≤ 5) (srt : ns.Pairwise (· < ·)) (bd : ∀ p ∈ ns, p < 2 ^ m) {a b : Nat} (ha : a < 2 ^ ns.length) (hb : b < 2 ^ ns.length) (e : wordN m ns a = wordN m ns b) : a = b := by
  have h : numN ns (heapsN m (wordN m ns a)) = numN ns (heapsN m (wordN m ns b)) := congrArg (fun w => numN ns (heapsN m w)) e
  rw [heaps_word hm srt bd, heaps_word hm srt bd, num_pick srt ha, num_pick srt hb] at h
  exact h
theorem xor_pow {n k : Nat} (h : n < 2 ^ k) : n ^^^ 2 ^ k = n + 2 ^ k := by
  refine Nat.eq_of_testBit_eq fun i => ?_
  rw [Nat.testBit_xor, Nat.testBit_two_pow, Nat.add_comm n]
  rcases Nat.lt_trichotomy i k with c | c | c
  · rw [Nat.testBit_two_pow_add_gt c, decide_eq_false (by omega)]
    simp
  · subst c
    rw [Nat.testBit_two_pow_add_eq, decide_eq_true rfl]
    simp
  · have e : 2 ^ (k + 1) ≤ 2 ^ i := Nat.pow_le_pow_right (by decide) (by omega)
    have e2 : 2 ^ (k + 1) = 2 ^ k + 2 ^ k := by rw [Nat.pow_succ]; omega
    rw [Nat.testBit_lt_two_pow (show n < 2 ^ i by omega), Nat.testBit_lt_two_pow (show 2 ^ k + n < 2 ^ i by omega), decide_eq_false (by omega)]
    rfl
theorem word_pow {m : Nat} {ns : List Nat} (hm : m ≤ 5) (srt : ns.Pairwise (· < ·)) (bd : ∀ p ∈ ns, p < 2 ^ m) {k : Nat} (hk : k < ns.length) : wordN m ns (2 ^ k) = heapW m ns[k] := by
  have e : pickN ns (2 ^ k) = [ns[k]] := srt_eq (pick_srt srt _) (List.pairwise_singleton _ _) fun z => by
    rw [mem_pick, List.mem_singleton]
    constructor
    · rintro ⟨i, hi, rfl, b⟩
      rw [Nat.testBit_two_pow, decide_eq_true_eq] at b
      subst b
      rfl
    · rintro rfl
      exact ⟨k, hk, rfl, by rw [Nat.testBit_two_pow]; exact decide_eq_true rfl⟩
  rw [word_sum hm srt bd, e]
  show 0 ^^^ heapW m ns[k] = _
  exact Nat.zero_xor _
/-- the words by their numbers, doubled -/
theorem dues_step {m : Nat} {ns : List Nat} (hm : m ≤ 5) (srt : ns.Pairwise (· < ·)) (bd : ∀ p ∈ ns, p < 2 ^ m) {k : Nat} (hk : k < ns.length) :
    (List.range (2 ^ (k + 1))).map (wordN m ns) = (List.range (2 ^ k)).map (wordN m ns) ++ ((List.range (2 ^ k)).map (wordN m ns)).map (fun w => w ^^^ heapW m ns[k]) := by
  rw [show 2 ^ (k + 1) = 2 ^ k + 2 ^ k by rw [Nat.pow_succ]; omega, List.range_add, List.map_append, List.map_map, List.map_map]
  congr 1
  refine List.map_congr_left fun n hn => ?_
  have h := List.mem_range.mp hn
  show wordN m ns (2 ^ k + n) = wordN m ns n ^^^ heapW m ns[k]
  rw [← word_pow hm srt bd hk, ← word_xor srt bd, xor_pow h, Nat.add_comm]
theorem dues_zero (m : Nat) (ns : List Nat) (hm : m ≤ 5) (srt : ns.Pairwise (· < ·)) (bd : ∀ p ∈ ns, p < 2 ^ m) : (List.range (2 ^ 0)).map (wordN m ns) = [0] := by
  have e : pickN ns 0 = [] := List.eq_nil_iff_forall_not_mem.mpr fun z hz => by
    obtain ⟨i, hi, _, b⟩ := mem_pick.mp hz
    rw [Nat.zero_testBit] at b
    cases b
  show [wordN m ns 0] = [0]
  rw [word_sum hm srt bd, e]
  rfl

end
end Lw

set_option Elab.async false
set_option linter.all false
set_option maxRecDepth 100000
set_option maxHeartbeats 4000000
namespace Lw
open PySem PySem.Spec PyProof.Rows L2 He Evl StX
local macro_rules | `(tactic| walk_at "rd") => `(tactic| (repeat first
  | with_reducible refine rd_seq ?_
  | with_reducible refine rd_asg ?_
  | with_reducible refine rd_ret ?_
  | with_reducible refine rd_next ?_
  | with_reducible refine rd_drop ?_
  | with_reducible refine rd_if ?_
  | with_reducible refine rd_ifE ?_
  | ((with_reducible refine' rd_var ?hv ?_); (case hv => rfl))
  | with_reducible refine rd_c ?_
  | with_reducible refine rd_op ?_
  | with_reducible refine rd_chain ?_
  | with_reducible refine rd_I0 ?_
  | with_reducible refine rd_test ?_
  | with_reducible refine rd_B ?_
  | with_reducible refine rd_bl ?_
  | with_reducible refine rd_not ?_
  | with_reducible refine rd_and ?_
  | with_reducible refine rd_or ?_
  | with_reducible refine rd_andV ?_
  | with_reducible refine rd_orV ?_
  | with_reducible refine rd_notV ?_
  | with_reducible refine rd_cons ?_
  | with_reducible refine rd_nil ?_
  | with_reducible refine rd_CB ?_
  | with_reducible refine rd_callS ?_
  | with_reducible refine rd_raise0 ?_
  | with_reducible refine rd_raise1 ?_
  | with_reducible refine rd_raise2 ?_
  | ((with_reducible refine' rd_eq ?hs ?_); (case hs => rfl))
  | ((with_reducible refine' rd_ne ?hs ?_); (case hs => rfl))
  | ((with_reducible refine' rd_isT ?th ?hT ?_); (case th => assumption); (case hT => decide))
  | with_reducible refine rd_tup ?_
  | with_reducible refine rd_lst ?_
  | with_reducible refine rd_iEnum ?_
  | with_reducible refine rd_iEnumA ?_
  | ((with_reducible refine' rd_ixl ?hl ?hk ?_); (case hl => assumption); (case hk => rfl))
  | with_reducible refine rd_int1 ?_
  | with_reducible refine rd_sub ?_
  | with_reducible refine rd_gcons ?_
  | with_reducible refine rd_gnil ?_
  | with_reducible refine rd_iZip ?_
  | with_reducible refine rd_BM ?_
  | with_reducible refine rd_neg ?_
  | ((with_reducible refine' rd_last ?hl ?_); (case hl => assumption))
  | with_reducible refine rd_lc2 ?_
  | with_reducible refine rd_Rg1 ?_
  | with_reducible refine rd_tupRg ?_
  | with_reducible refine rd_sl ?_
  | with_reducible refine rd_noPart ?_
  | with_reducible refine rd_part ?_
  | with_reducible refine rd_for ?_
  | with_reducible refine rd_iRev ?_
  | with_reducible refine rd_gname ?_
  | with_reducible refine rd_NN ?_
  | with_reducible refine rd_NL ?_
  | with_reducible refine rd_LN ?_
  | ((with_reducible refine' rd_shl1 ?hs ?_); (case hs => omega))
  | ((with_reducible refine' rd_I ?hs ?_); (case hs => first | omega | decide | exact ⟨by decide, by decide, by decide⟩ | exact ⟨by omega, by omega⟩))
  | with_reducible refine rd_tr ?_
  | with_reducible refine rd_trI ?_
  | with_reducible refine rd_star ?_
  | with_reducible refine rd_fmtB ?_
  | with_reducible refine rd_M1 ?_
  | with_reducible refine rd_un ?_
  | with_reducible refine rd_lc ?_
  | with_reducible refine rd_iT ?_
  | with_reducible refine rd_iL ?_
  | with_reducible refine rd_iR1 ?_
  | with_reducible refine rd_iR2 ?_
  | dsimp only [List.set, start]))
section
variable {P : Program} {w : World} {K : PySem.W.Frag} {mg : Str → Option Value} {base : Heap}

/-- what _law_listed tells -/
def spListed (K : PySem.W.Frag) : Sp := fun vs H Q _ => ∃ (c : Addr) (m : Nat) (ns : List Nat), vs = [.ref c] ∧ Ch K H c m ns ∧
  (ns.length ≤ 12 → ∀ p l H', H p = none → H l = none → Ex H H' → H' l = some (.lst ((intsL ((List.range (2 ^ ns.length)).map (wordN m ns))).map V.int)) → H' p = some (.tup [.str "good", .ref l]) → Q (.ref p) H') ∧
  (12 < ns.length → RetV H Q [.str "many", .int 12])
abbrev N_all_words : List Str := ["choice", "number"]
theorem sg_all_words : GScope N_all_words ["choice"] (defScope s_all_words) := ⟨rfl, rfl, rfl, by decide +kernel, rfl, by decide +kernel, by decide +kernel⟩
def spAllWords (K : PySem.W.Frag) : SpG := fun vs H Q E => ∃ (c : Addr) (m : Nat) (ns : List Nat), vs = [.ref c] ∧ Ch K H c m ns ∧ (12 < ns.length → Er K "TooMany" [("most", .int 12)] E H) ∧
  (ns.length ≤ 12 → ∀ H', Ex H H' → Q ((intsL ((List.range (2 ^ ns.length)).map (wordN m ns))).map V.int) H')
theorem grow {m : Nat} {ns : List Nat} (i : Nat) : (intsL ((List.range i).map (wordN m ns))).map V.int ++ [V.int (wordN m ns i : Int)] = (intsL ((List.range (i + 1)).map (wordN m ns))).map V.int := by
  unfold intsL
  rw [List.range_succ, List.map_append, List.map_append, List.map_append]
  rfl
theorem h_all_words (E : Ctx K mg) : HasG P w K mg base 17 "all_words" ["choice"] (spAllWords K) := by
  obtain ⟨fd, F⟩ := f_all_words E
  refine ⟨⟨fd, ?_, F.bindsN fun _ _ _ _ _ _ us hl => match us, hl with | [_], _ => rfl⟩, g_all_words E, F.kp⟩
  refine gok F sg_all_words (fun vs H Q E' h => ?len) (fun cdv A outer s H vs Q E' pn hr h => ⟨_, gss_cons (gs_ps (ps_if (pt_cmpR op_gt (kprop (K := K) rfl (hp_Choice_size E) (hr.mono (by decide)) (pv 0)) (pe_glob (v := .int 12) rfl (k_MOST_LISTED_SIZE E).choose_spec ⟨_, rfl⟩) (nomark _))
 (pss_one (ps_raise1 rfl (takesN takes_gcx) (i_TooMany E) (hr.mono (by decide)) (pe_glob (v := .int 12) rfl (k_MOST_LISTED_SIZE E).choose_spec ⟨_, rfl⟩)))
 pss_nil)) (gss_cons (gs_for owns_gcx rfl (pi_range1 rfl (b_range E) (pa_cons (pe_op on_shl pe_int (kprop (K := K) rfl (hp_Choice_size E) (hr.mono (by decide)) (pv 0))) pa_nil)) (pg_name (i := 1) sg_all_words.nd rfl (.inl rfl))
   (gss_cons (gs_yield (pe_H (h_word_at E) (hr.mono (by decide)) (takesN takes_gcx) (pa_cons (pv 0) (pa_cons (pv 1) pa_nil)))) gss_nil)) gss_nil), ?rd⟩)
  case len =>
    obtain ⟨c, m, ns, rfl, _⟩ := h
    rfl
  case rd =>
    obtain ⟨c, m, ns, rfl, ch, many, few⟩ := h
    have nl := len_nats ch.srt ch.lt
    have p5 := ch.p5
    obtain ⟨dx, l, h1, h2⟩ := id ch.at_
    have el : ((intsL ns).map V.int).length = ns.length := by simp [intsL]
    refine rd_gps ?_
    walk_at "rd"
    refine rd_pr ?_
    walk_at "rd"
    refine ⟨c, dx, _, rfl, h1, c, m, ns, rfl, ch, ?_⟩
    walk_at "rd"
    refine ⟨fun z => ?_, fun z => ?_⟩
    · walk_at "rd"
      exact rd_mk1 (many (by have := of_decide_eq_true z; omega))
    · have le : ns.length ≤ 12 := by have := of_decide_eq_false z; omega
      have p12 : 2 ^ ns.length ≤ 4096 := Nat.le_trans (Nat.pow_le_pow_right (by decide) le) (show 2 ^ 12 ≤ 4096 by decide)
      have k0 : 0 < 2 ^ ns.length := Nat.pow_pos (by decide)
      walk_at "rd"
      dsimp only
      refine rd_gfor ?_
      unfold tGFor
      walk_at "rd"
      refine rd_pr ?_
      walk_at "rd"
      refine ⟨c, dx, _, rfl, h1, c, m, ns, rfl, ch, ?_⟩
      walk_at "rd"
      refine ⟨_, rfl, by omega, by omega, ?_⟩
      rw [Int.toNat_natCast]
      refine gfor_range (fun i ys σ H' => ∃ v1 : Option V, σ = [some (.ref c), v1] ∧ Ex H H' ∧ ys = (intsL ((List.range i).map (wordN m ns))).map V.int) ⟨none, rfl, Ex.refl _, rfl⟩ ?_ ?_
      · rintro i ys σ H1 hi ⟨v1, rfl, e1, rfl⟩
        rw [Int.zero_add]
        walk_at "rd"
        refine rd_gyield (by rw [List.length_map]; unfold intsL; rw [List.length_map, List.length_map, List.length_range, sizeLine_eq]; omega) ?_
        walk_at "rd"
        refine ⟨c, m, ns, .int (i : Int), rfl, ch.ex e1, ⟨_, th_int _⟩, fun z => absurd ((whole_of (Int.natCast_nonneg _) (by omega)).symm.trans z) Bool.noConfusion, fun n en hn H2 e2 => ?_⟩
        obtain rfl : i = n := by have := V.int.inj en; omega
        exact ⟨_, rfl, e1.trans e2, grow i⟩
      · rintro ys σ H1 ⟨v1, rfl, e1, rfl⟩
        exact few le H1 e1
theorem ktg_try_as {X : Cx} {K : PySem.W.Frag} {x n : Str} {c : Value} {i : Nat} {body suite : List Stmt} {b₀ : Stmt} {np pos pos' : Pos} {tb : WX → TS} {ts : Addr → Value → Option Addr → TS} {Wout : WX} (h : X.K = K) (hs : X.stack = X.env :: X.outer) (hf : X.env.frame = some X.env.locals) (hN : X.N.Nodup) (hi : X.N[i]? = some n) (hln : X.env.kindOf n = some .local) (hc : Names X x c) (tk : L2.Takes X Wout)
    (hb : ∀ (W : WX) (pn : List (Addr × Obj)) (xe : Value → Shared → Prop), L2.Takes (X.tr pn xe) W → PassesOwn (model X.prog X.w) X.A X.env xe → PSs (X.tr pn xe) body (tb W))
    (hsu : ∀ (a : Addr) (oe : Obj) (cls : Value) (d : Option Addr) (pn : List (Addr × Obj)), Zc cls d oe → (∃ vs, oe.data = .fields vs) → PSs (X.suite a ((a, oe) :: pn)) (b₀ :: suite) (ts a cls d)) :
    PS X (.Try body [.ExceptHandler (some (.Name x np)) (some n) (b₀ :: suite) pos'] [] [] pos) (tTryAs K c i ts Wout tb) := h ▸ L2.ps_try_as hs hf hN hi hln hc tk hb hsu
theorem h__law_listed (E : Ctx K mg) : Has P w K mg base 21 "_law_listed" ["_law_choice_here"] (spListed K) := by
  obtain ⟨fd, F⟩ := f__law_listed E
  refine ⟨⟨fd, ?_, F.bindsN fun _ _ _ _ _ _ us hl => match us, hl with | [_], _ => rfl⟩, g__law_listed E, F.kp⟩
  refine F.ok sc__law_listed (fun vs H Q E' h => ?len) (fun cdv A outer s H vs Q E' hr h => ⟨_, (pss_one (ktg_try_as (K := K) rfl (i := 1) rfl rfl sc__law_listed.nd rfl rfl ⟨rfl, by decide, .inl (g_TooMany E)⟩ takesF (fun W pn xe tk _ => (pss_one (ps_ret (pe_tup (pa_cons pe_str (pa_cons (pe_listHG (K := K) (n := 2) rfl rfl (h_all_words E) (hr.mono (by decide)) tk (b_list E) (pa_cons (pv 0) pa_nil)) pa_nil)))))) (fun a oe cls d pn hz hf => (pss_one (ps_ret (pe_tup (pa_cons pe_str (pa_cons (pe_xf (x_TooMany E).f ((x_TooMany E).n _ (by decide)) hz hf (pv 1)) pa_nil)))))))), ?rd⟩)
  case len =>
    obtain ⟨c, m, ns, rfl, _⟩ := h
    rfl
  case rd =>
    obtain ⟨c, m, ns, rfl, ch, qf, qm⟩ := h
    walk_at "rd"
    refine rd_tryAs ?_
    walk_at "rd"
    refine rd_listG (rd_callG ?_)
    walk_at "rd"
    refine ⟨c, m, ns, rfl, ch, fun z dd hd => ⟨no_stop (x_TooMany E).o, fun σ hσ => ?_⟩, fun z H1 e1 l hl => ?_⟩
    · obtain ⟨s0, s1, rfl⟩ : ∃ s0 s1, σ = [s0, s1] := match σ, hσ with | [s0, s1], _ => ⟨s0, s1, rfl⟩
      refine ⟨true, m_TooMany_TooMany E, fun _ a ha => ?_, (fun z => nomatch z)⟩
      walk_at "rd"
      refine rd_xf ?_
      walk_at "rd"
      refine ⟨rfl, rfl, dd, _, _, rfl, upd_same, rfl, ?_⟩
      walk_at "rd"
      exact ⟨by show 2 ≤ sizeLine; decide, fun p hp => qm z p _ (ex_none (Ex.new hd) hp) ((Ex.new hd).trans (Ex.new hp)) upd_same⟩
    · walk_at "rd"
      refine ⟨by show 2 ≤ sizeLine; decide, fun p hp => ?_⟩
      have e2 : Ex H1 (upd H1 l (.lst ((intsL ((List.range (2 ^ ns.length)).map (wordN m ns))).map V.int))) := Ex.new hl
      exact qf z p l _ (ex_none (e1.trans e2) hp) (ex_none e1 hl) ((e1.trans e2).trans (Ex.new hp)) ((Ex.new hp) _ _ upd_same) upd_same

end
end Lw

set_option Elab.async false
set_option linter.all false
set_option maxRecDepth 100000
set_option maxHeartbeats 4000000
namespace Lw
open PySem PySem.Spec PyProof.Rows L2 He Evl StX
local macro_rules | `(tactic| walk_at "rd") => `(tactic| (repeat first
  | with_reducible refine rd_seq ?_
  | with_reducible refine rd_asg ?_
  | with_reducible refine rd_ret ?_
  | with_reducible refine rd_next ?_
  | with_reducible refine rd_drop ?_
  | with_reducible refine rd_if ?_
  | with_reducible refine rd_ifE ?_
  | ((with_reducible refine' rd_var ?hv ?_); (case hv => rfl))
  | with_reducible refine rd_c ?_
  | with_reducible refine rd_op ?_
  | with_reducible refine rd_chain ?_
  | with_reducible refine rd_I0 ?_
  | with_reducible refine rd_test ?_
  | with_reducible refine rd_B ?_
  | with_reducible refine rd_bl ?_
  | with_reducible refine rd_not ?_
  | with_reducible refine rd_and ?_
  | with_reducible refine rd_or ?_
  | with_reducible refine rd_andV ?_
  | with_reducible refine rd_orV ?_
  | with_reducible refine rd_notV ?_
  | with_reducible refine rd_cons ?_
  | with_reducible refine rd_nil ?_
  | with_reducible refine rd_CB ?_
  | with_reducible refine rd_callS ?_
  | with_reducible refine rd_raise0 ?_
  | with_reducible refine rd_raise1 ?_
  | with_reducible refine rd_raise2 ?_
  | ((with_reducible refine' rd_eq ?hs ?_); (case hs => rfl))
  | ((with_reducible refine' rd_ne ?hs ?_); (case hs => rfl))
  | ((with_reducible refine' rd_isT ?th ?hT ?_); (case th => assumption); (case hT => decide))
  | with_reducible refine rd_tup ?_
  | with_reducible refine rd_lst ?_
  | with_reducible refine rd_iEnum ?_
  | with_reducible refine rd_iEnumA ?_
  | ((with_reducible refine' rd_ixl ?hl ?hk ?_); (case hl => assumption); (case hk => rfl))
  | with_reducible refine rd_int1 ?_
  | with_reducible refine rd_sub ?_
  | with_reducible refine rd_gcons ?_
  | with_reducible refine rd_gnil ?_
  | with_reducible refine rd_iZip ?_
  | with_reducible refine rd_BM ?_
  | with_reducible refine rd_neg ?_
  | ((with_reducible refine' rd_last ?hl ?_); (case hl => assumption))
  | with_reducible refine rd_lc2 ?_
  | with_reducible refine rd_Rg1 ?_
  | with_reducible refine rd_tupRg ?_
  | with_reducible refine rd_sl ?_
  | with_reducible refine rd_noPart ?_
  | with_reducible refine rd_part ?_
  | with_reducible refine rd_for ?_
  | with_reducible refine rd_iRev ?_
  | with_reducible refine rd_gname ?_
  | with_reducible refine rd_NN ?_
  | with_reducible refine rd_NL ?_
  | with_reducible refine rd_LN ?_
  | ((with_reducible refine' rd_shl1 ?hs ?_); (case hs => omega))
  | ((with_reducible refine' rd_I ?hs ?_); (case hs => first | omega | decide | exact ⟨by decide, by decide, by decide⟩ | exact ⟨by omega, by omega⟩))
  | with_reducible refine rd_tr ?_
  | with_reducible refine rd_trI ?_
  | with_reducible refine rd_star ?_
  | with_reducible refine rd_fmtB ?_
  | with_reducible refine rd_M1 ?_
  | with_reducible refine rd_un ?_
  | with_reducible refine rd_lc ?_
  | with_reducible refine rd_iT ?_
  | with_reducible refine rd_iL ?_
  | with_reducible refine rd_iR1 ?_
  | with_reducible refine rd_iR2 ?_
  | dsimp only [List.set, start]))
section
variable {P : Program} {w : World} {K : PySem.W.Frag} {mg : Str → Option Value} {base : Heap}

theorem uniq_nodup {l : List Int} (nd : l.Nodup) : (uniq l).length = l.length := by
  have u : (uniq l).Nodup := (uniq_sorted l).imp fun h => by omega
  exact ((List.perm_ext_iff_of_nodup u nd).mpr fun z => uniq_mem z l).length_eq
theorem dues_nodup {m : Nat} {ns : List Nat} (hm : m ≤ 5) (srt : ns.Pairwise (· < ·)) (bd : ∀ p ∈ ns, p < 2 ^ m) : (intsL ((List.range (2 ^ ns.length)).map (wordN m ns))).Nodup := by
  unfold intsL
  rw [List.map_map]
  refine List.pairwise_map.mpr ?_
  have p : (List.range (2 ^ ns.length)).Pairwise (· < ·) := List.pairwise_lt_range
  refine (List.Pairwise.and_mem.mp p).imp fun {a b} ⟨ha, hb, lt⟩ e => ?_
  have e2 : wordN m ns a = wordN m ns b := by
    have e : ((wordN m ns a : Nat) : Int) = ((wordN m ns b : Nat) : Int) := e
    omega
  have := word_inj hm srt bd (List.mem_range.mp ha) (List.mem_range.mp hb) e2
  omega
theorem shaped_good (s : Str) (hs : PyData.canLay0 (.str s) = true) (ns : List Int) : SeqAt.shaped (.tuple [.str s, .list (ns.map PyData.int)]) = true := by
  unfold SeqAt.shaped
  simp only [PyData.canLay0, PyData.canLayAll0, PyData.depth, PyData.depthAll, lay_ints, depth_ints]
  simp only [PyData.canLay0] at hs
  rw [hs]
  decide
theorem rd_eqGood {K : PySem.W.Frag} {H : Hp} {Q : VK} {p q la lb : Addr} {s : Str} {a b : List Int} (hs : PyData.canLay0 (.str s) = true) (h1 : H p = some (.tup [.str s, .ref la])) (h2 : H q = some (.tup [.str s, .ref lb])) (ha : H la = some (.lst (a.map V.int))) (hb : H lb = some (.lst (b.map V.int))) (k : Q (.bl (decide (a = b))) H) : rEqD K (.ref p) (.ref q) H Q :=
  ⟨_, _, .tup (st_of h1) (.cons (.str s) (.cons (.lst (sq_of ha) (dp_ints a)) .nil)), .tup (st_of h2) (.cons (.str s) (.cons (.lst (sq_of hb) (dp_ints b)) .nil)), shaped_good s hs a, shaped_good s hs b, by
    have e : PyData.eqv (.tuple [.str s, .list (a.map PyData.int)]) (.tuple [.str s, .list (b.map PyData.int)]) = decide (a = b) := by
      simp only [PyData.eqv, PyData.eqvAll, eqv_ints]
      simp
    rw [e]
    exact k⟩
/-- what _law_listed tells: the words by their numbers, or too many -/
def liV (m : Nat) (ns : List Nat) (l : Addr) : List V := if ns.length ≤ 12 then [.str "good", .ref l] else [.str "many", .int 12]
def spListRight (K : PySem.W.Frag) : Sp := fun vs H Q _ => ∃ (c a : Addr) (m : Nat) (ns : List Nat), vs = [.ref c, .int (m : Int), .ref a] ∧ Ch K H c m ns ∧ ns.length ≤ 12 ∧ H a = some (.lst ((intsL ns).map V.int)) ∧ ∀ H', Ex H H' → Q (.bl true) H'
theorem h__law_list_right (E : Ctx K mg) : Has P w K mg base 22 "_law_list_right" ["_law_choice_here", "_law_m", "_law_heaps"] (spListRight K) := by
  obtain ⟨fd, F⟩ := f__law_list_right E
  refine ⟨⟨fd, ?_, F.bindsN fun _ _ _ _ _ _ us hl => match us, hl with | [_, _, _], _ => rfl⟩, g__law_list_right E, F.kp⟩
  refine F.ok sc__law_list_right (fun vs H Q E' h => ?len) (fun cdv A outer s H vs Q E' hr h => ⟨_, (pss_cons (ps_setLc (i := 3) (own := [("_law_heap", 7)]) (g := gName 7) (tt := tYes) rfl sc__law_list_right.nd rfl rfl (sw_true rfl rfl rfl (by decide +kernel)) (ki_list (K := K) rfl (pv 2)) (blkOk_by (own := [("_law_heap", 7)]) (N := N__law_list_right) (sc := defScope s__law_list_right) (by decide +kernel)) (fun _ _ _ _ _ => (pg_name (i := 7) sc__law_list_right.nd rfl (.inl rfl))) (fun _ _ _ _ _ => pts_nil) (fun _ _ _ _ _ => (pe_H (h__law_heap_word E) (hr.mono (by decide)) takes0 (pa_cons (pv 1) (pa_cons (pv 7) pa_nil)))))
 (pss_cons (ps_set (i := 4) sc__law_list_right.nd rfl (.inl rfl) (pe_lst (pa_cons pe_int pa_nil)))
 (pss_cons (ps_for (passes_of rfl) rfl (ki_list (K := K) rfl (pv 3)) (pg_name (i := 5) sc__law_list_right.nd rfl (.inr rfl))
 (pss_one (ps_set (i := 4) sc__law_list_right.nd rfl (.inl rfl) (pe_op op_cat (pv 4) (pe_lc (own := [("_law_due", 8)]) (g := gName 8) (tt := tYes) rfl sc__law_list_right.nd (ki_list (K := K) rfl (pv 4)) (blkOk_by (own := [("_law_due", 8)]) (N := N__law_list_right) (sc := defScope s__law_list_right) (by decide +kernel)) (fun _ _ _ _ _ => (pg_name (i := 8) sc__law_list_right.nd rfl (.inl rfl))) (fun _ _ _ _ _ => pts_nil) (fun _ _ _ _ _ => (pe_op on_xor (pv 8) (pv 5))))))))
 (pss_cons (ps_set (i := 6) sc__law_list_right.nd rfl (.inl rfl) (pe_H (h__law_listed E) (hr.mono (by decide)) (takes_of rfl rfl rfl rfl) (pa_cons (pv 0) pa_nil)))
 (pss_one (ps_ret (pe_and (pe_cmpR (ko_eqD hr (K := K) rfl) (pv 6) (pe_tup (pa_cons pe_str (pa_cons (pv 4) pa_nil))) (nomark _)) (pe_one (pe_cmpR op_eq (pe_callB (kc_len (K := K) rfl) rfl (b_len E) (by decide +kernel) (pa_cons (pe_H (h__law_unique E) (hr.mono (by decide)) (takes_of rfl rfl rfl rfl) (pa_cons (pv 4) pa_nil)) pa_nil)) (pe_op on_shl pe_int (pe_callB (kc_len (K := K) rfl) rfl (b_len E) (by decide +kernel) (pa_cons (pv 2) pa_nil))) (nomark _)))))))))), ?rd⟩)
  case len =>
    obtain ⟨c, a, m, ns, rfl, _⟩ := h
    rfl
  case rd =>
    obtain ⟨c, a, m, ns, rfl, ch, few, at_, q⟩ := h
    have sq : SqL K H a ((intsL ns).map V.int) := sq_of at_
    have el : ((intsL ns).map V.int).length = ns.length := by simp [intsL]
    walk_at "rd"
    refine ⟨a, rfl, ⟨_, sq⟩, lc_lstT (fun _ => true) (fun i => .int ((heapW m (ns.getD i 0) : Nat) : Int)) sq (by rw [el]; omega) (fun _ => rfl) (fun i x H6 e6 hi H7 e7 R q => q _ (Ex.refl _)) (fun i x H6 e6 hi hf H7 e7 R q => ?_) fun pw H1 hpw e1 at1 => ?_⟩
    · obtain ⟨n, hn, rfl⟩ := nat_at hi
      have en : ns.getD i 0 = n := by rw [List.getD_eq_getElem?_getD, hn]; rfl
      walk_at "rd"
      refine ⟨m, n, rfl, ch.m5, ?_⟩
      rw [← en]
      exact q _ (Ex.refl _)
    rw [el, given_nats (fun _ => true) (fun n => .int ((heapW m n : Nat) : Int)), List.filter_eq_self.mpr (fun _ _ => rfl)] at at1
    have at1 : H1 pw = some (.lst ((intsL (ns.map (heapW m))).map V.int)) := by rw [at1]; unfold intsL; rw [List.map_map, List.map_map]; rfl
    have ch1 := ch.ex e1
    walk_at "rd"
    refine ⟨by show 1 ≤ sizeLine; decide, fun pz hpz => ?_⟩
    have e2 : Ex H1 (upd H1 pz (.lst [.int 0])) := Ex.new hpz
    have at2 : (upd H1 pz (.lst [.int 0])) pz = some (.lst ((intsL ((List.range (2 ^ 0)).map (wordN m ns))).map V.int)) := by
      rw [dues_zero m ns ch.m5 ch.srt ch.lt]
      exact upd_same
    have at1b := e2 _ _ at1
    have hz : H pz = none := ex_none e1 hpz
    generalize upd H1 pz (.lst [.int 0]) = H2 at e2 at2 at1b ⊢
    have sq2 : SqL K H2 pw ((intsL (ns.map (heapW m))).map V.int) := sq_of at1b
    have el2 : ((intsL (ns.map (heapW m))).map V.int).length = ns.length := by rw [List.length_map]; unfold intsL; rw [List.length_map, List.length_map]
    walk_at "rd"
    refine ⟨pw, rfl, ⟨_, sq2⟩, for_it walk_list (fun i σ H' => ∃ (v5 : Option V) (pd : Addr), σ = [some (.ref c), some (.int (m : Int)), some (.ref a), some (.ref pw), some (.ref pd), v5, none, none, none] ∧ Ex H2 H' ∧ H' pd = some (.lst ((intsL ((List.range (2 ^ i)).map (wordN m ns))).map V.int)))
      ⟨none, pz, rfl, Ex.refl _, at2⟩ (fun i σ H' _ ⟨_, _, _, e, _⟩ => ex_l e sq2) ?_ ?_⟩
    · rintro i x σ H9 H3 hlt ⟨v5, pd, rfl, e3, atd⟩ ⟨rfl, hx⟩
      obtain ⟨w, hw, rfl⟩ := nat_at hx
      have hi : i < ns.length := by rw [el2] at hlt; exact hlt
      rw [List.getElem?_map, List.getElem?_eq_getElem hi] at hw
      obtain rfl : heapW m ns[i] = w := Option.some.inj hw
      have st := dues_step ch.m5 ch.srt ch.lt hi
      have p12 : 2 ^ i ≤ 4096 := Nat.le_trans (Nat.pow_le_pow_right (by decide) (by omega)) (show 2 ^ 12 ≤ 4096 by decide)
      have ll : ((List.range (2 ^ i)).map (wordN m ns)).length = 2 ^ i := by rw [List.length_map, List.length_range]
      generalize (List.range (2 ^ i)).map (wordN m ns) = L at atd st ll
      generalize heapW m ns[i] = w at st
      have sqd : SqL K H3 pd ((intsL L).map V.int) := sq_of atd
      walk_at "rd"
      try dsimp only [List.set_cons_succ, List.set_cons_zero]
      refine ⟨pd, rfl, ⟨_, sqd⟩, lc_lstT (fun _ => true) (fun j => .int ((L.getD j 0 ^^^ w : Nat) : Int)) sqd (by rw [lenV]; omega) (fun _ => rfl) (fun j x H6 e6 hj H7 e7 R q => q _ (Ex.refl _)) (fun j x H6 e6 hj hf H7 e7 R q => ?_) fun pl H4 hpl e4 atl => ?_⟩
      · obtain ⟨d, hd, rfl⟩ := nat_at hj
        have ed : L.getD j 0 = d := by rw [List.getD_eq_getElem?_getD, hd]; rfl
        walk_at "rd"
        try dsimp only [List.set_cons_succ, List.set_cons_zero]
        rw [← ed]
        exact q _ (Ex.refl _)
      rw [lenV, given_nats (fun _ => true) (fun d => .int ((d ^^^ w : Nat) : Int)), List.filter_eq_self.mpr (fun _ _ => rfl)] at atl
      have atl : H4 pl = some (.lst ((intsL (L.map fun d => d ^^^ w)).map V.int)) := by rw [atl]; unfold intsL; rw [List.map_map, List.map_map]; rfl
      refine ⟨pd, pl, _, _, rfl, rfl, e4 _ _ atd, atl, Nat.le_trans (m := 8192) (by rw [lenV, lenV, List.length_map]; omega) (by decide), fun t ht => ?_⟩
      walk_at "rd"
      try dsimp only [List.set_cons_succ, List.set_cons_zero]
      refine ⟨_, t, rfl, (e3.trans e4).trans (Ex.new ht), ?_⟩
      rw [upd_same, st]
      unfold intsL
      rw [List.map_append, List.map_append]
    · rintro σ H3 ⟨v5, pd, rfl, e3, atd⟩
      rw [el2] at atd
      have p12 : 2 ^ ns.length ≤ 4096 := Nat.le_trans (Nat.pow_le_pow_right (by decide) few) (show 2 ^ 12 ≤ 4096 by decide)
      have ch3 := ch1.ex (e2.trans e3)
      walk_at "rd"
      try dsimp only [List.set_cons_succ, List.set_cons_zero]
      refine ⟨c, m, ns, rfl, ch3, fun _ pt pl H4 hpt hpl e4 atl att => ?_, fun z => by omega⟩
      have atd4 := e4 _ _ atd
      walk_at "rd"
      try dsimp only [List.set_cons_succ, List.set_cons_zero]
      refine ⟨by show 2 ≤ sizeLine; decide, fun t ht => ?_⟩
      have e5 : Ex H4 (upd H4 t (.tup [.str "good", .ref pd])) := Ex.new ht
      refine rd_eqGood (by decide +kernel) (e5 _ _ att) upd_same (e5 _ _ atl) (e5 _ _ atd4) ?_
      rw [decide_eq_true rfl]
      refine ⟨true, rfl, fun _ => ?_, (fun z => nomatch z)⟩
      have nd := dues_nodup ch.m5 ch.srt ch.lt
      have ul := uniq_nodup nd
      have ll : (intsL ((List.range (2 ^ ns.length)).map (wordN m ns))).length = 2 ^ ns.length := by unfold intsL; rw [List.length_map, List.length_map, List.length_range]
      have eA := ((e1.trans e2).trans (e3.trans e4)).trans e5
      refine rd_op ?_
      walk_at "rd"
      try dsimp only [List.set_cons_succ, List.set_cons_zero]
      refine ⟨pd, _, rfl, e5 _ _ atd4, by rw [ll]; omega, fun p5 H5 hp5 e6 at5 => ?_⟩
      walk_at "rd"
      try dsimp only [List.set_cons_succ, List.set_cons_zero]
      refine ⟨p5, _, rfl, .inr (st_of at5), ?_⟩
      rw [List.length_map, ul, ll]
      walk_at "rd"
      try dsimp only [List.set_cons_succ, List.set_cons_zero]
      refine ⟨a, _, rfl, .inl (sq_of ((eA.trans e6) _ _ at_)), ?_⟩
      rw [el]
      walk_at "rd"
      try dsimp only [List.set_cons_succ, List.set_cons_zero]
      rw [decide_eq_true rfl]
      exact q H5 (eA.trans e6)

end
end Lw

set_option Elab.async false
set_option linter.all false
set_option maxRecDepth 100000
set_option maxHeartbeats 4000000
namespace Lw
open PySem PySem.Spec PyProof.Rows L2 He Evl StX
local macro_rules | `(tactic| walk_at "rd") => `(tactic| (repeat first
  | with_reducible refine rd_seq ?_
  | with_reducible refine rd_asg ?_
  | with_reducible refine rd_ret ?_
  | with_reducible refine rd_next ?_
  | with_reducible refine rd_drop ?_
  | with_reducible refine rd_if ?_
  | with_reducible refine rd_ifE ?_
  | ((with_reducible refine' rd_var ?hv ?_); (case hv => rfl))
  | with_reducible refine rd_c ?_
  | with_reducible refine rd_op ?_
  | with_reducible refine rd_chain ?_
  | with_reducible refine rd_I0 ?_
  | with_reducible refine rd_test ?_
  | with_reducible refine rd_B ?_
  | with_reducible refine rd_bl ?_
  | with_reducible refine rd_not ?_
  | with_reducible refine rd_and ?_
  | with_reducible refine rd_or ?_
  | with_reducible refine rd_andV ?_
  | with_reducible refine rd_orV ?_
  | with_reducible refine rd_notV ?_
  | with_reducible refine rd_cons ?_
  | with_reducible refine rd_nil ?_
  | with_reducible refine rd_CB ?_
  | with_reducible refine rd_callS ?_
  | with_reducible refine rd_raise0 ?_
  | with_reducible refine rd_raise1 ?_
  | with_reducible refine rd_raise2 ?_
  | ((with_reducible refine' rd_eq ?hs ?_); (case hs => rfl))
  | ((with_reducible refine' rd_ne ?hs ?_); (case hs => rfl))
  | ((with_reducible refine' rd_isT ?th ?hT ?_); (case th => assumption); (case hT => decide))
  | with_reducible refine rd_tup ?_
  | with_reducible refine rd_lst ?_
  | with_reducible refine rd_iEnum ?_
  | with_reducible refine rd_iEnumA ?_
  | ((with_reducible refine' rd_ixl ?hl ?hk ?_); (case hl => assumption); (case hk => rfl))
  | with_reducible refine rd_int1 ?_
  | with_reducible refine rd_sub ?_
  | with_reducible refine rd_gcons ?_
  | with_reducible refine rd_gnil ?_
  | with_reducible refine rd_iZip ?_
  | with_reducible refine rd_BM ?_
  | with_reducible refine rd_neg ?_
  | ((with_reducible refine' rd_last ?hl ?_); (case hl => assumption))
  | with_reducible refine rd_lc2 ?_
  | with_reducible refine rd_Rg1 ?_
  | with_reducible refine rd_tupRg ?_
  | with_reducible refine rd_sl ?_
  | with_reducible refine rd_noPart ?_
  | with_reducible refine rd_part ?_
  | with_reducible refine rd_for ?_
  | with_reducible refine rd_iRev ?_
  | with_reducible refine rd_gname ?_
  | with_reducible refine rd_NN ?_
  | with_reducible refine rd_NL ?_
  | with_reducible refine rd_LN ?_
  | ((with_reducible refine' rd_shl1 ?hs ?_); (case hs => omega))
  | ((with_reducible refine' rd_I ?hs ?_); (case hs => first | omega | decide | exact ⟨by decide, by decide, by decide⟩ | exact ⟨by omega, by omega⟩))
  | with_reducible refine rd_tr ?_
  | with_reducible refine rd_trI ?_
  | with_reducible refine rd_star ?_
  | with_reducible refine rd_fmtB ?_
  | with_reducible refine rd_M1 ?_
  | with_reducible refine rd_un ?_
  | with_reducible refine rd_lc ?_
  | with_reducible refine rd_iT ?_
  | with_reducible refine rd_iL ?_
  | with_reducible refine rd_iR1 ?_
  | with_reducible refine rd_iR2 ?_
  | dsimp only [List.set, start]))
section
variable {P : Program} {w : World} {K : PySem.W.Frag} {mg : Str → Option Value} {base : Heap}

theorem rd_mkC {H : Hp} {R : Addr → Hp → Prop} {m : Nat} {y : V} {ns : List Int} (m1 : 1 ≤ m) (m5 : m ≤ 5) (row : RowV K H y (some (ns.map V.int))) (bd : ∀ z ∈ ns, 0 ≤ z ∧ z ≤ ((2 ^ m - 1 : Nat) : Int)) (q : ∀ c H', H c = none → Ex H H' → Ch K H' c m (natsU ns) → R c H') :
    ∀ x dx, H x = none → H dx = none → dx ≠ x → spInit K (.ref x :: ([.int (m : Int), y] ++ [])) (upd (upd H dx (.own x)) x (.ins (ga K "Choice") dx [])) (fun v H2 => v = .non ∧ R x H2) (fun _ _ _ => False) := by
  intro x dx hx hdx ne
  have e0 : Ex H (upd (upd H dx (.own x)) x (.ins (ga K "Choice") dx [])) := (Ex.new hdx).trans (Ex.new (by rw [upd_ne (Ne.symm ne)]; exact hx))
  have nn : ∀ z ∈ ns, 0 ≤ z := fun z hz => (bd z hz).1
  refine ⟨x, dx, m, y, ns, rfl, ⟨m1, m5⟩, upd_same, row.ex e0, bd, fun l H1 e1 hl h1 => ⟨rfl, q x _ hx (fun b o hb => ?_) ⟨m1, m5, natsU_sorted nn, fun p hp => ?_, dx, l, upd_same, ?_⟩⟩⟩
  · have c : b ≠ x := fun c => by rw [c, hx] at hb; cases hb
    rw [upd_ne c]
    exact e1 _ _ (e0 _ _ hb)
  · have := bd _ ((mem_natsU nn p).mp hp)
    have p0 : 0 < 2 ^ m := Nat.pow_pos (by decide)
    omega
  · have c : l ≠ x := fun c => by rw [c, upd_same] at hl; cases hl
    rw [upd_ne c, ← natsU_int nn]
    exact h1
/-- the first heap of a row, and the first made of it, that are not both there -/
theorem rd_make {C : Addr} {sp : Sp} {t : TA} {σ : L2.St} {H : Hp} {Q : VK} (h : t σ H fun vs H1 => ∀ x dx, H1 x = none → H1 dx = none → dx ≠ x → sp (.ref x :: (vs ++ [])) (upd (upd H1 dx (.own x)) x (.ins C dx [])) (fun v H2 => v = .non ∧ Q (.ref x) H2) (fun _ _ _ => False)) : tMakO C sp t σ H Q := h
theorem Ch.dh {H H' : Hp} {c h : Addr} {m : Nat} {ns : List Nat} {cc : Addr} (C : Ch K H c m ns) (hand : HandC cc H h) (d : Dh h H H') : Ch K H' c m ns := by
  obtain ⟨cells, i, r, t, hh, _⟩ := hand
  refine ⟨C.m1, C.m5, C.srt, C.lt, ?_⟩
  obtain ⟨dx, l, h1, h2⟩ := C.at_
  exact ⟨dx, l, d _ _ (fun e => by rw [e, hh] at h1; exact nomatch h1) h1, d _ _ (fun e => by rw [e, hh] at h2; exact nomatch h2) h2⟩
theorem pair_data {H : Hp} {s : Str} {v : V} (hs : PyData.canLay0 (.str s) = true) (hv : (∃ i, v = .int i) ∨ ∃ b, v = .bl b) : ∃ d, Dp K H v d ∧ SeqAt.shaped (.tuple [.str s, d]) = true ∧ PyData.eqv (.tuple [.str s, d]) (.tuple [.str s, d]) = true := by
  simp only [PyData.canLay0] at hs
  rcases hv with ⟨i, rfl⟩ | ⟨b, rfl⟩
  · refine ⟨_, .int i, ?_, by simp [PyData.eqv, PyData.eqvAll]⟩
    unfold SeqAt.shaped
    simp only [PyData.canLay0, PyData.canLayAll0, PyData.depth, PyData.depthAll, hs]
    rfl
  · refine ⟨_, .bl b, ?_, by cases b <;> simp [PyData.eqv, PyData.eqvAll]⟩
    unfold SeqAt.shaped
    simp only [PyData.canLay0, PyData.canLayAll0, PyData.depth, PyData.depthAll, hs]
    rfl
theorem eq_pair {H : Hp} {Q : VK} {p q : Addr} {s : Str} {v : V} (hs : PyData.canLay0 (.str s) = true) (hv : (∃ i, v = .int i) ∨ ∃ b, v = .bl b) (h1 : H p = some (.tup [.str s, v])) (h2 : H q = some (.tup [.str s, v])) (k : Q (.bl true) H) : rEqD K (.ref p) (.ref q) H Q := by
  obtain ⟨d, hd, sh, ev⟩ := pair_data (K := K) (H := H) hs hv
  exact ⟨_, _, .tup (st_of h1) (.cons (.str s) (.cons hd .nil)), .tup (st_of h2) (.cons (.str s) (.cons hd .nil)), sh, sh, by rw [ev]; exact k⟩
theorem ne_pair {H : Hp} {Q : VK} {p q : Addr} {s : Str} {v : V} (hs : PyData.canLay0 (.str s) = true) (hv : (∃ i, v = .int i) ∨ ∃ b, v = .bl b) (h1 : H p = some (.tup [.str s, v])) (h2 : H q = some (.tup [.str s, v])) (k : Q (.bl false) H) : rNeD K (.ref p) (.ref q) H Q := by
  obtain ⟨d, hd, sh, ev⟩ := pair_data (K := K) (H := H) hs hv
  exact ⟨_, _, .tup (st_of h1) (.cons (.str s) (.cons hd .nil)), .tup (st_of h2) (.cons (.str s) (.cons hd .nil)), sh, sh, by rw [ev]; exact k⟩
theorem few_at : ∀ r : Nat, r < 8 → ∃ k : Nat, ([V.int 9, .int 9, .int 9, .int 9, .int 9, .int 9, .int 9, .int 12])[r]? = some (.int (k : Int)) ∧ k ≤ 12 := by
  intro r h
  rcases (show r = 0 ∨ r = 1 ∨ r = 2 ∨ r = 3 ∨ r = 4 ∨ r = 5 ∨ r = 6 ∨ r = 7 by omega) with rfl | rfl | rfl | rfl | rfl | rfl | rfl | rfl
  all_goals first | exact ⟨9, rfl, by decide⟩ | exact ⟨12, rfl, by decide⟩
def spLaw (K : PySem.W.Frag) : Sp := fun vs H Q _ => ∃ (a : Addr) (ns : List Int), vs = [.ref a] ∧ SqL K H a (ns.map V.int) ∧ ns.length ≤ 63 ∧ (∀ z ∈ ns, bits z ≤ 1048576) ∧ ∀ H', Q (.bl true) H'
theorem rd_mid3 {s1 s2 s3 u : TS} {D : Ends} {σ : L2.St} {H : Hp} (Mid : L2.St → Hp → Prop) (h : ∀ N : L2.St → Hp → Prop, (∀ σ' H', Mid σ' H' → N σ' H') → tSeq s1 (tSeq s2 s3) { D with nx := N } σ H) (k : ∀ σ' H', Mid σ' H' → u D σ' H') : tSeq s1 (tSeq s2 (tSeq s3 u)) D σ H := h _ k
theorem rd_mid4 {s1 s2 s3 s4 u : TS} {D : Ends} {σ : L2.St} {H : Hp} (Mid : L2.St → Hp → Prop) (h : ∀ N : L2.St → Hp → Prop, (∀ σ' H', Mid σ' H' → N σ' H') → tSeq s1 (tSeq s2 (tSeq s3 s4)) { D with nx := N } σ H) (k : ∀ σ' H', Mid σ' H' → u D σ' H') : tSeq s1 (tSeq s2 (tSeq s3 (tSeq s4 u))) D σ H := h _ k
theorem HandC.off {H : Hp} {h c p : Addr} {l : List Int} (x : HandC c H h) (e : H p = some (.lst (l.map V.int))) : p ≠ h := fun q => by
  obtain ⟨cells, i, r, t, h1, _⟩ := x
  rw [q, h1] at e
  cases l with
  | nil => exact nomatch e
  | cons z r => exact nomatch e
/-- what stands behind the making of the choice -/
def Made (K : PySem.W.Frag) (H : Hp) (hh c p ch : Addr) (m : Nat) (ns : List Nat) : Prop := HandC c H hh ∧ H p = some (.lst ((intsL ns).map V.int)) ∧ Ch K H ch m ns
theorem Made.ex {H H' : Hp} {hh c p ch : Addr} {m : Nat} {ns : List Nat} (e : Ex H H') (x : Made K H hh c p ch m ns) : Made K H' hh c p ch m ns := ⟨x.1.ex e, e _ _ x.2.1, x.2.2.ex e⟩
theorem Made.dh {H H' : Hp} {hh c p ch : Addr} {m : Nat} {ns : List Nat} (d : Dh hh H H') (hand : HandC c H' hh) (x : Made K H hh c p ch m ns) : Made K H' hh c p ch m ns := ⟨hand, d _ _ (x.1.off x.2.1) x.2.1, x.2.2.dh x.1 d⟩
theorem Fill.app {H H' : Hp} {f : Addr} {l : List Nat} {z : Nat} (F : Fill H f ((intsL l).map V.int) H') : Fill H f ((intsL (l ++ [z])).map V.int) (upd H' f (.lst ((intsL l).map V.int ++ [V.int (z : Int)]))) := by
  have e : (intsL (l ++ [z])).map V.int = (intsL l).map V.int ++ [V.int (z : Int)] := by unfold intsL; rw [List.map_append, List.map_append]; rfl
  rw [e]
  exact F.set _
theorem shaped_list (l : List Int) : SeqAt.shaped (.list (l.map PyData.int)) = true := by
  unfold SeqAt.shaped
  simp only [PyData.canLay0, PyData.canLayAll0, PyData.depth, PyData.depthAll, lay_ints, depth_ints]
  decide
theorem eqv_list (a b : List Int) : PyData.eqv (.list (a.map PyData.int)) (.list (b.map PyData.int)) = decide (a = b) := by
  simp only [PyData.eqv, PyData.eqvAll, eqv_ints]
theorem eq_lists {H : Hp} {Q : VK} {p q : Addr} {a b : List Int} (ha : H p = some (.lst (a.map V.int))) (hb : H q = some (.lst (b.map V.int))) (k : Q (.bl (decide (a = b))) H) : rEqD K (.ref p) (.ref q) H Q :=
  ⟨_, _, .lst (sq_of ha) (dp_ints a), .lst (sq_of hb) (dp_ints b), shaped_list a, shaped_list b, by rw [eqv_list]; exact k⟩
theorem ne_lists {H : Hp} {Q : VK} {p q : Addr} {a b : List Int} (ha : H p = some (.lst (a.map V.int))) (hb : H q = some (.lst (b.map V.int))) (k : Q (.bl (!decide (a = b))) H) : rNeD K (.ref p) (.ref q) H Q :=
  ⟨_, _, .lst (sq_of ha) (dp_ints a), .lst (sq_of hb) (dp_ints b), shaped_list a, shaped_list b, by rw [eqv_list]; exact k⟩
theorem mark_places {m n : Nat} (hn : n < 2 ^ (2 ^ m)) : markN (placesN m n) = n := by
  have srt : (placesN m n).Pairwise (· < ·) := List.Pairwise.filter _ List.pairwise_lt_range
  have bd : ∀ p ∈ placesN m n, p < 2 ^ m := fun p hp => List.mem_range.mp (List.mem_filter.mp hp).1
  rw [markN_xor (srt_nodup srt) bd]
  exact (num_places hn).symm
theorem pick_num {ns ws : List Nat} (srt : ns.Pairwise (· < ·)) (wsrt : ws.Pairwise (· < ·)) (o : outN ns ws = none) : pickN ns (numN ns ws) = ws := by
  refine srt_eq (pick_srt srt _) wsrt fun z => ?_
  have bit : ∀ i, (numN ns ws).testBit i = decide (i ∈ (List.range ns.length).filter fun i => decide (ns.getD i 0 ∈ ws)) := fun i =>
    markN_bit i ns.length _ ((List.nodup_range).filter _) fun p hp => List.mem_range.mp (List.mem_filter.mp hp).1
  have getD_at : ∀ {i : Nat} (h : i < ns.length), ns.getD i 0 = ns[i] := fun {i} h => by rw [List.getD_eq_getElem?_getD, List.getElem?_eq_getElem h]; rfl
  rw [mem_pick]
  constructor
  · rintro ⟨i, h, rfl, b⟩
    rw [bit] at b
    have := (List.mem_filter.mp (of_decide_eq_true b)).2
    rw [getD_at h] at this
    exact of_decide_eq_true this
  · intro hz
    have inn : z ∈ ns := by
      have := List.find?_eq_none.mp o z hz
      simpa using this
    obtain ⟨i, h, rfl⟩ := List.getElem_of_mem inn
    refine ⟨i, h, rfl, ?_⟩
    rw [bit]
    exact decide_eq_true (List.mem_filter.mpr ⟨List.mem_range.mpr h, by rw [getD_at h]; exact decide_eq_true hz⟩)
theorem back_word {m wd : Nat} {ns : List Nat} (hm : m ≤ 5) (srt : ns.Pairwise (· < ·)) (hw : wd < 2 ^ (2 ^ m)) (o : outN ns (heapsN m wd) = none) : wordN m ns (numN ns (heapsN m wd)) = wd := by
  have wsrt : (heapsN m wd).Pairwise (· < ·) := List.Pairwise.filter _ List.pairwise_lt_range
  unfold wordN
  rw [pick_num srt wsrt o]
  unfold heapsN
  rw [show markN (placesN m (stepN m wd)) = stepN m wd from mark_places (stepN_lt hm hw m (Nat.le_refl m))]
  exact stepN_back hm hw
theorem num_lt (ns ws : List Nat) : numN ns ws < 2 ^ ns.length := markN_filter_lt _ _
theorem h_law (E : Ctx K mg) {fd : FuncData} (F : FunD K "law" "law" (defArgs s_law) (defBody s_law) (defScope s_law) [] [] (ga K "law") fd) : FnOk P w K mg base (L2N.CX P w) 23 (ga K "law") fd ["_law_script"] (spLaw K) := by
  refine F.ok sc_law (fun vs H Q E' h => ?len) (fun cdv A outer s H vs Q E' hr h => ⟨_, (pss_cons (ps_set (i := 1) sc_law.nd rfl (.inl rfl) (pe_H (h__law_hand E) (hr.mono (by decide)) (takes_of rfl rfl rfl rfl) (pa_cons (pv 0) pa_nil)))
 (pss_cons (ps_set (i := 2) sc_law.nd rfl (.inl rfl) (pe_H (h__law_letters E) (hr.mono (by decide)) (takes_of rfl rfl rfl rfl) (pa_cons (pv 1) pa_nil)))
 (pss_cons (ps_set (i := 3) sc_law.nd rfl (.inr rfl) (pe_ifExp (pt_cmpR op_gt (pe_H (h__law_draw E) (hr.mono (by decide)) (takes_of rfl rfl rfl rfl) (pa_cons (pv 1) (pa_cons pe_int pa_nil))) pe_int (nomark _)) (pe_H (h__law_choice E) (hr.mono (by decide)) (takes_of rfl rfl rfl rfl) (pa_cons (pv 1) (pa_cons (pv 2) pa_nil))) (pe_H (h__law_small_falling E) (hr.mono (by decide)) (takes_of rfl rfl rfl rfl) (pa_cons (pv 1) (pa_cons (pv 2) (pa_cons pe_int pa_nil))))))
 (pss_cons (ps_set (i := 4) sc_law.nd rfl (.inl rfl) (kmkO (K := K) rfl (hm_Choice___init__ E) (hr.mono (by decide)) (pa_cons (pv 2) (pa_cons (pv 3) pa_nil))))
 (pss_cons (ps_set (i := 5) sc_law.nd rfl (.inl rfl) (pe_ix (kx_list (K := K) rfl) (pe_lst (pa_cons pe_int (pa_cons pe_int (pa_cons pe_int (pa_cons pe_int (pa_cons pe_int (pa_cons pe_int (pa_cons pe_int (pa_cons pe_int pa_nil))))))))) (pe_H (h__law_draw E) (hr.mono (by decide)) (takes_of rfl rfl rfl rfl) (pa_cons (pv 1) (pa_cons pe_int pa_nil))) (fun _ _ => rfl)))
 (pss_cons (ps_if (pt_cmpR op_gt (pe_callB (kc_len (K := K) rfl) rfl (b_len E) (by decide +kernel) (pa_cons (pv 3) pa_nil)) pe_int (nomark _))
 (pss_one (ps_if (pt_cmpR (ko_neD hr (K := K) rfl) (pe_H (h__law_listed E) (hr.mono (by decide)) (takes_of rfl rfl rfl rfl) (pa_cons (pv 4) pa_nil)) (pe_tup (pa_cons pe_str (pa_cons pe_int pa_nil))) (nomark _))
 (pss_one (ps_ret pe_bl))
 pss_nil))
 (pss_one (ps_if (PW.pt (pw_and (pt_cmpR op_le (pe_callB (kc_len (K := K) rfl) rfl (b_len E) (by decide +kernel) (pa_cons (pv 3) pa_nil)) (pv 5) (nomark _)) (pw_and1 (pt_not (pt_val (pe_H (h__law_list_right E) (hr.mono (by decide)) (takes_of rfl rfl rfl rfl) (pa_cons (pv 4) (pa_cons (pv 2) (pa_cons (pv 3) pa_nil)))))))))
 (pss_one (ps_ret pe_bl))
 pss_nil)))
 (pss_cons (ps_set (i := 6) sc_law.nd rfl (.inl rfl) (pe_op op_sub (pe_op on_shl pe_int (pe_callB (kc_len (K := K) rfl) rfl (b_len E) (by decide +kernel) (pa_cons (pv 3) pa_nil))) pe_int))
 (pss_cons (ps_set (i := 7) sc_law.nd rfl (.inl rfl) (pe_lst (pa_cons pe_int (pa_cons (pv 6) (pa_cons (pe_H (h__law_wide E) (hr.mono (by decide)) (takes_of rfl rfl rfl rfl) (pa_cons (pv 1) (pa_cons (pe_callB (kc_len (K := K) rfl) rfl (b_len E) (by decide +kernel) (pa_cons (pv 3) pa_nil)) pa_nil))) (pa_cons (pe_H (h__law_wide E) (hr.mono (by decide)) (takes_of rfl rfl rfl rfl) (pa_cons (pv 1) (pa_cons (pe_callB (kc_len (K := K) rfl) rfl (b_len E) (by decide +kernel) (pa_cons (pv 3) pa_nil)) pa_nil))) pa_nil))))))
 (pss_cons (ps_set (i := 8) sc_law.nd rfl (.inl rfl) (pe_lst pa_nil))
 (pss_cons (ps_for (passes_of rfl) rfl (ki_list (K := K) rfl (pv 7)) (pg_name (i := 9) sc_law.nd rfl (.inl rfl))
 (pss_cons (ps_set (i := 10) sc_law.nd rfl (.inl rfl) (pe_H (h__law_sum E) (hr.mono (by decide)) (takes_of rfl rfl rfl rfl) (pa_cons (pv 2) (pa_cons (pe_H (h__law_picked E) (hr.mono (by decide)) (takes_of rfl rfl rfl rfl) (pa_cons (pv 3) (pa_cons (pv 9) pa_nil))) pa_nil))))
 (pss_cons (ps_expr (pe_bm PySem.F.plainAttrs_list PySem.F.slot_list_append PySem.F.type_list_append mt_append (pv 8) (pa_cons (pv 10) pa_nil)))
 (pss_cons (ps_if (PW.pt (pw_or (pt_cmpR (ko_neD hr (K := K) rfl) (pe_H (h__law_at E) (hr.mono (by decide)) (takes_of rfl rfl rfl rfl) (pa_cons (pv 4) (pa_cons (pv 9) pa_nil))) (pe_tup (pa_cons pe_str (pa_cons (pv 10) pa_nil))) (nomark _)) (pw_or1 (pt_cmpR (ko_neD hr (K := K) rfl) (pe_H (h__law_number E) (hr.mono (by decide)) (takes_of rfl rfl rfl rfl) (pa_cons (pv 4) (pa_cons (pv 10) pa_nil))) (pe_tup (pa_cons pe_str (pa_cons (pv 9) pa_nil))) (nomark _)))))
 (pss_one (ps_ret pe_bl))
 pss_nil)
 (pss_one (ps_if (PW.pt (pw_or (pt_cmpR op_ne (pe_H (h_word_of E) (hr.mono (by decide)) (takes_of rfl rfl rfl rfl) (pa_cons (pv 2) (pa_cons (pe_H (h__law_picked E) (hr.mono (by decide)) (takes_of rfl rfl rfl rfl) (pa_cons (pv 3) (pa_cons (pv 9) pa_nil))) pa_nil))) (pv 10) (nomark _)) (pw_or1 (pt_cmpR (ko_neD hr (K := K) rfl) (pe_H (h__law_holds E) (hr.mono (by decide)) (takes_of rfl rfl rfl rfl) (pa_cons (pv 4) (pa_cons (pv 10) pa_nil))) (pe_tup (pa_cons pe_str (pa_cons pe_bl pa_nil))) (nomark _)))))
 (pss_one (ps_ret pe_bl))
 pss_nil))))))
 (pss_cons (ps_if (pt_cmpR op_ne (pe_H (h_word_at E) (hr.mono (by decide)) (takes_of rfl rfl rfl rfl) (pa_cons (pv 4) (pa_cons (pe_op on_xor (pe_ix (kx_list (K := K) rfl) (pv 7) pe_int (fun _ _ => rfl)) (pe_ix (kx_list (K := K) rfl) (pv 7) pe_int (fun _ _ => rfl))) pa_nil))) (pe_op on_xor (pe_ix (kx_list (K := K) rfl) (pv 8) pe_int (fun _ _ => rfl)) (pe_ix (kx_list (K := K) rfl) (pv 8) pe_int (fun _ _ => rfl))) (nomark _))
 (pss_one (ps_ret pe_bl))
 pss_nil)
 (pss_cons (ps_if (PW.pt (pw_or (pt_cmpR (ko_neD hr (K := K) rfl) (pe_H (h__law_at E) (hr.mono (by decide)) (takes_of rfl rfl rfl rfl) (pa_cons (pv 4) (pa_cons (pe_op op_add (pv 6) pe_int) pa_nil))) (pe_tup (pa_cons pe_str (pa_cons (pv 6) pa_nil))) (nomark _)) (pw_or1 (pt_cmpR (ko_neD hr (K := K) rfl) (pe_H (h__law_at E) (hr.mono (by decide)) (takes_of rfl rfl rfl rfl) (pa_cons (pv 4) (pa_cons (pe_H (h__law_odd E) (hr.mono (by decide)) (takes_of rfl rfl rfl rfl) (pa_cons (pv 1) (pa_cons pe_int (pa_cons (pv 6) pa_nil)))) pa_nil))) (pe_tup (pa_cons pe_str (pa_cons (pv 6) pa_nil))) (nomark _)))))
 (pss_one (ps_ret pe_bl))
 pss_nil)
 (pss_cons (ps_set (i := 10) sc_law.nd rfl (.inl rfl) (pe_ifExp (pt_cmpR op_eq (pe_H (h__law_draw E) (hr.mono (by decide)) (takes_of rfl rfl rfl rfl) (pa_cons (pv 1) (pa_cons pe_int pa_nil))) pe_int (nomark _)) (pe_op on_xor (pe_ix (kx_list (K := K) rfl) (pv 8) pe_int (fun _ _ => rfl)) (pe_H (h__law_any_word E) (hr.mono (by decide)) (takes_of rfl rfl rfl rfl) (pa_cons (pv 1) (pa_cons (pv 2) pa_nil)))) (pe_op on_xor (pe_ix (kx_list (K := K) rfl) (pv 8) pe_int (fun _ _ => rfl)) (pe_H (h__law_heap_word E) (hr.mono (by decide)) (takes_of rfl rfl rfl rfl) (pa_cons (pv 2) (pa_cons (pe_H (h__law_draw E) (hr.mono (by decide)) (takes_of rfl rfl rfl rfl) (pa_cons (pv 1) (pa_cons (pe_op on_shl pe_int (pv 2)) pa_nil))) pa_nil))))))
 (pss_cons (ps_setLc (i := 11) (own := [("_law_heap", 14)]) (g := gName 14) rfl sc_law.nd rfl rfl (sw_true rfl rfl rfl (by decide +kernel)) (ki_list (K := K) rfl (pe_H (h__law_heaps_of E) (hr.mono (by decide)) (takes_of rfl rfl rfl rfl) (pa_cons (pv 2) (pa_cons (pv 10) pa_nil)))) (blkOk_by (own := [("_law_heap", 14)]) (N := N_law) (sc := defScope s_law) (by decide +kernel)) (fun _ _ _ _ _ => (pg_name (i := 14) sc_law.nd rfl (.inl rfl))) (fun _ _ _ _ _ => (pts_one (pt_cmpR (ko_notIn (K := K) rfl) (pv 14) (pv 3) (by with_unfolding_all rfl)))) (fun _ _ _ _ _ => (pv 14)))
 (pss_cons (ps_set (i := 12) sc_law.nd rfl (.inl rfl) (pe_ifExp (pt_cmpR (ko_neD hr (K := K) rfl) (pv 11) (pe_lst pa_nil) (nomark _)) (pe_tup (pa_cons pe_str (pa_cons (pe_ix (kx_list (K := K) rfl) (pv 11) pe_int (fun _ _ => rfl)) pa_nil))) (pe_H (h__law_number E) (hr.mono (by decide)) (takes_of rfl rfl rfl rfl) (pa_cons (pv 4) (pa_cons (pv 10) pa_nil)))))
 (pss_cons (ps_if (PW.pt (pw_or (pt_cmpR (ko_neD hr (K := K) rfl) (pe_H (h__law_number E) (hr.mono (by decide)) (takes_of rfl rfl rfl rfl) (pa_cons (pv 4) (pa_cons (pv 10) pa_nil))) (pv 12) (nomark _)) (pw_or (pt_cmpR op_eq (pe_ix (kx_tup (K := K) rfl) (pv 12) pe_int (fun _ _ => rfl)) pe_str (nomark _)) (pw_or1 (pt_cmpR (ko_neD hr (K := K) rfl) (pe_H (h__law_holds E) (hr.mono (by decide)) (takes_of rfl rfl rfl rfl) (pa_cons (pv 4) (pa_cons (pv 10) pa_nil))) (pe_tup (pa_cons pe_str (pa_cons (pe_cmpR (ko_eqD hr (K := K) rfl) (pv 11) (pe_lst pa_nil) (nomark _)) pa_nil))) (nomark _))))))
 (pss_one (ps_ret pe_bl))
 pss_nil)
 (pss_cons (ps_if (PW.pt (pw_and (pt_cmpR (ko_eqD hr (K := K) rfl) (pv 11) (pe_lst pa_nil) (nomark _)) (pw_and1 (PW.pt (pw_or (pt_cmpR op_ne (pe_ix (kx_tup (K := K) rfl) (pv 12) pe_int (fun _ _ => rfl)) pe_str (nomark _)) (pw_or1 (pt_cmpR (ko_neD hr (K := K) rfl) (pe_H (h__law_at E) (hr.mono (by decide)) (takes_of rfl rfl rfl rfl) (pa_cons (pv 4) (pa_cons (pe_ix (kx_tup (K := K) rfl) (pv 12) pe_int (fun _ _ => rfl)) pa_nil))) (pe_tup (pa_cons pe_str (pa_cons (pv 10) pa_nil))) (nomark _))))))))
 (pss_one (ps_ret pe_bl))
 pss_nil)
 (pss_cons (ps_set (i := 13) sc_law.nd rfl (.inl rfl) (pe_H (h__law_odd E) (hr.mono (by decide)) (takes_of rfl rfl rfl rfl) (pa_cons (pv 1) (pa_cons pe_int (pa_cons (pe_op op_sub (pe_op on_shl pe_int (pe_op on_shl pe_int (pv 2))) pe_int) pa_nil)))))
 (pss_one (ps_ret (pe_and (pe_cmpR (ko_eqD hr (K := K) rfl) (pe_H (h__law_number E) (hr.mono (by decide)) (takes_of rfl rfl rfl rfl) (pa_cons (pv 4) (pa_cons (pv 13) pa_nil))) (pe_tup (pa_cons pe_str (pa_cons pe_int pa_nil))) (nomark _)) (pe_one (pe_cmpR (ko_eqD hr (K := K) rfl) (pe_H (h__law_holds E) (hr.mono (by decide)) (takes_of rfl rfl rfl rfl) (pa_cons (pv 4) (pa_cons (pv 13) pa_nil))) (pe_tup (pa_cons pe_str (pa_cons pe_int pa_nil))) (nomark _)))))))))))))))))))))))), ?rd⟩)
  case len =>
    obtain ⟨a, ns, rfl, _⟩ := h
    rfl
  case rd =>
    obtain ⟨a, ss, rfl, hs, hlen, hbits, q⟩ := h
    rw [show L2.start N_law [V.ref a] = [some (.ref a), none, none, none, none, none, none, none, none, none, none, none, none, none, none] from rfl]
    refine rd_mid3 (fun σ H' => ∃ (hh c p : Addr) (m : Nat) (ns : List Nat), σ = [some (.ref a), some (.ref hh), some (.int (m : Int)), some (.ref p), none, none, none, none, none, none, none, none, none, none, none] ∧ 1 ≤ m ∧ m ≤ 5 ∧ ns.Pairwise (· < ·) ∧ (∀ z ∈ ns, z < 2 ^ m) ∧ HandC c H' hh ∧ H' p = some (.lst ((intsL ns).map V.int))) (fun N hN => ?_) ?_
    · walk_at "rd"
      try dsimp only [List.set_cons_succ, List.set_cons_zero]
      refine ⟨a, ss, rfl, hs, hlen, hbits, fun hh c H1 hf e1 hand1 => ?_⟩
      walk_at "rd"
      try dsimp only [List.set_cons_succ, List.set_cons_zero]
      refine ⟨hh, c, rfl, hand1, fun m H2 m1 m5 d2 hand2 => ?_⟩
      walk_at "rd"
      try dsimp only [List.set_cons_succ, List.set_cons_zero]
      refine ⟨hh, c, 6, rfl, hand2, ⟨by decide, by decide⟩, fun r3 H3 hr3 d3 hand3 => ?_⟩
      walk_at "rd"
      try dsimp only [List.set_cons_succ, List.set_cons_zero]
      refine ⟨fun z => ?_, fun z => ?_⟩
      all_goals
        walk_at "rd"
        try dsimp only [List.set_cons_succ, List.set_cons_zero]
        refine ⟨hh, c, m, rfl, hand3, m5, fun p f H4 hp at4 d4 hand4 => ?_⟩
        have srt : ((List.range (2 ^ m)).filter f).Pairwise (· < ·) := List.Pairwise.filter _ List.pairwise_lt_range
        have bd : ∀ z ∈ (List.range (2 ^ m)).filter f, z < 2 ^ m := fun p hp => List.mem_range.mp (List.mem_filter.mp hp).1
        exact hN _ _ ⟨hh, c, p, m, _, rfl, m1, m5, srt, bd, hand4, at4⟩
    · rintro σ H4 ⟨hh, c, p, m, ns, rfl, m1, m5, srt, bd, hand4, at4⟩
      have p5 : 2 ^ m ≤ 32 := Nat.le_trans (Nat.pow_le_pow_right (by decide) m5) (by decide)
      have nl := len_nats srt bd
      refine rd_mid3 (fun σ H' => ∃ (ch : Addr) (few : Nat), σ = [some (.ref a), some (.ref hh), some (.int (m : Int)), some (.ref p), some (.ref ch), some (.int (few : Int)), none, none, none, none, none, none, none, none, none] ∧ Made K H' hh c p ch m ns) (fun N hN => ?_) ?_
      · walk_at "rd"
        try dsimp only [List.set_cons_succ, List.set_cons_zero]
        refine rd_make ?_
        walk_at "rd"
        try dsimp only [List.set_cons_succ, List.set_cons_zero]
        refine rd_mkC m1 m5 ⟨p, rfl, .inl at4, by rw [lenV]; omega, ints_odd⟩ (fun z hz => ?_) fun ch H5 hch e5 C => ?_
        · obtain ⟨n, hn, rfl⟩ := List.mem_map.mp hz
          have := bd n hn
          omega
        rw [nats_self srt] at C
        have M5 : Made K H5 hh c p ch m ns := ⟨hand4.ex e5, e5 _ _ at4, C⟩
        walk_at "rd"
        try dsimp only [List.set_cons_succ, List.set_cons_zero]
        refine ⟨by show 8 ≤ sizeLine; decide, fun pf hpf => ?_⟩
        have e6 : Ex H5 (upd H5 pf (.lst [.int 9, .int 9, .int 9, .int 9, .int 9, .int 9, .int 9, .int 12])) := Ex.new hpf
        have M6 := M5.ex e6
        walk_at "rd"
        try dsimp only [List.set_cons_succ, List.set_cons_zero]
        refine ⟨hh, c, 8, rfl, M6.1, ⟨by decide, by decide⟩, fun r7 H7 hr7 d7 hand7 => ?_⟩
        walk_at "rd"
        try dsimp only [List.set_cons_succ, List.set_cons_zero]
        obtain ⟨few, hfew, fewle⟩ := few_at r7 (by omega)
        refine rd_ix (sq_of (d7 _ _ (M5.1.away hpf).1 upd_same)) hfew ?_
        have M7 := M6.dh d7 hand7
        clear M5 M6
        walk_at "rd"
        try dsimp only [List.set_cons_succ, List.set_cons_zero]
        refine ⟨p, _, rfl, .inl (sq_of M7.2.1), ?_⟩
        rw [lenV]
        walk_at "rd"
        try dsimp only [List.set_cons_succ, List.set_cons_zero]
        refine ⟨fun z => ?_, fun z => ?_⟩
        · have z : 12 < ns.length := by have := of_decide_eq_true z; omega
          walk_at "rd"
          try dsimp only [List.set_cons_succ, List.set_cons_zero]
          refine ⟨ch, m, ns, rfl, M7.2.2, fun z2 => by omega, fun _ pt H8 hpt e8 att => ?_⟩
          walk_at "rd"
          try dsimp only [List.set_cons_succ, List.set_cons_zero]
          refine ⟨by show 2 ≤ sizeLine; decide, fun pu hpu => ?_⟩
          refine ne_pair (by decide +kernel) (.inl ⟨_, rfl⟩) ((Ex.new hpu) _ _ att) upd_same ?_
          refine ⟨false, rfl, (fun z => nomatch z), fun _ => ?_⟩
          exact hN _ _ ⟨ch, few, rfl, M7.ex (e8.trans (Ex.new hpu))⟩
        · have z : ns.length ≤ 12 := by have := of_decide_eq_false z; omega
          walk_at "rd"
          try dsimp only [List.set_cons_succ, List.set_cons_zero]
          refine ⟨p, _, rfl, .inl (sq_of M7.2.1), ?_⟩
          rw [lenV]
          walk_at "rd"
          try dsimp only [List.set_cons_succ, List.set_cons_zero]
          refine ⟨fun y => ?_, fun y => ?_⟩
          · walk_at "rd"
            try dsimp only [List.set_cons_succ, List.set_cons_zero]
            refine ⟨ch, p, m, ns, rfl, M7.2.2, z, M7.2.1, fun H9 e9 => ?_⟩
            refine ⟨true, rfl, (fun z => nomatch z), fun _ => ?_⟩
            exact hN _ _ ⟨ch, few, rfl, M7.ex e9⟩
          · exact ⟨(fun z => nomatch z), fun _ => hN _ _ ⟨ch, few, rfl, M7⟩⟩
      · rintro σ H9 ⟨ch, few, rfl, M9⟩
        have k0 : 0 < 2 ^ ns.length := Nat.pow_pos (by decide)
        have eM : ((2 ^ ns.length : Nat) : Int) - 1 = ((2 ^ ns.length - 1 : Nat) : Int) := by omega
        refine rd_mid4 (fun σ H' => ∃ (pn pw : Addr) (r1 r2 : Nat) (v9 v10 : Option V), σ = [some (.ref a), some (.ref hh), some (.int (m : Int)), some (.ref p), some (.ref ch), some (.int (few : Int)), some (.int ((2 ^ ns.length - 1 : Nat) : Int)), some (.ref pn), some (.ref pw), v9, v10, none, none, none, none] ∧ Made K H' hh c p ch m ns ∧ r1 < 2 ^ ns.length ∧ r2 < 2 ^ ns.length ∧
          H' pn = some (.lst ((intsL [0, 2 ^ ns.length - 1, r1, r2]).map V.int)) ∧ H' pw = some (.lst ((intsL ([0, 2 ^ ns.length - 1, r1, r2].map (wordN m ns))).map V.int))) (fun N hN => ?_) ?_
        · walk_at "rd"
          try dsimp only [List.set_cons_succ, List.set_cons_zero]
          refine ⟨p, _, rfl, .inl (sq_of M9.2.1), ?_⟩
          rw [lenV]
          walk_at "rd"
          try dsimp only [List.set_cons_succ, List.set_cons_zero]
          rw [eM]
          walk_at "rd"
          try dsimp only [List.set_cons_succ, List.set_cons_zero]
          refine ⟨p, _, rfl, .inl (sq_of M9.2.1), ?_⟩
          rw [lenV]
          walk_at "rd"
          try dsimp only [List.set_cons_succ, List.set_cons_zero]
          refine ⟨hh, c, ns.length, rfl, M9.1, by omega, fun r1 H1 hr1 d1 hand1 => ?_⟩
          have M1 := M9.dh d1 hand1
          walk_at "rd"
          try dsimp only [List.set_cons_succ, List.set_cons_zero]
          refine ⟨p, _, rfl, .inl (sq_of M1.2.1), ?_⟩
          rw [lenV]
          walk_at "rd"
          try dsimp only [List.set_cons_succ, List.set_cons_zero]
          refine ⟨hh, c, ns.length, rfl, M1.1, by omega, fun r2 H2 hr2 d2 hand2 => ?_⟩
          have M2 := M1.dh d2 hand2
          clear M9 M1
          walk_at "rd"
          try dsimp only [List.set_cons_succ, List.set_cons_zero]
          refine ⟨by show 4 ≤ sizeLine; decide, fun pn hpn => ?_⟩
          have M3 := M2.ex (Ex.new hpn (o := .lst [.int 0, .int ((2 ^ ns.length - 1 : Nat) : Int), .int (r1 : Int), .int (r2 : Int)]))
          have atn : (upd H2 pn (.lst [.int 0, .int ((2 ^ ns.length - 1 : Nat) : Int), .int (r1 : Int), .int (r2 : Int)])) pn = some (.lst ((intsL [0, 2 ^ ns.length - 1, r1, r2]).map V.int)) := upd_same
          have small : ∀ n ∈ [0, 2 ^ ns.length - 1, r1, r2], n < 2 ^ ns.length := fun n hn => by
            simp only [List.mem_cons, List.not_mem_nil, or_false] at hn
            omega
          generalize upd H2 pn (.lst [.int 0, .int ((2 ^ ns.length - 1 : Nat) : Int), .int (r1 : Int), .int (r2 : Int)]) = H3 at M3 atn ⊢
          have many : [0, 2 ^ ns.length - 1, r1, r2].length = 4 := rfl
          generalize en : [0, 2 ^ ns.length - 1, r1, r2] = nums at atn small many
          walk_at "rd"
          try dsimp only [List.set_cons_succ, List.set_cons_zero]
          refine ⟨by show 0 ≤ sizeLine; omega, fun pw hpw => ?_⟩
          have sqn : ∀ {H' : Hp}, Ex H3 H' → SqL K H' pn ((intsL nums).map V.int) := fun e => sq_of (e _ _ atn)
          have F0 : Fill H3 pw ((intsL ((nums.take 0).map (wordN m ns))).map V.int) (upd H3 pw (.lst [])) := ⟨hpw, Ex.new hpw, by rw [List.take_zero]; exact upd_same⟩
          walk_at "rd"
          refine ⟨pn, rfl, ⟨_, sqn (Ex.new hpw)⟩, for_it walk_list (fun i σ H' => ∃ (v9 v10 : Option V), σ = [some (.ref a), some (.ref hh), some (.int (m : Int)), some (.ref p), some (.ref ch), some (.int (few : Int)), some (.int ((2 ^ ns.length - 1 : Nat) : Int)), some (.ref pn), some (.ref pw), v9, v10, none, none, none, none] ∧ Fill H3 pw ((intsL ((nums.take i).map (wordN m ns))).map V.int) H')
            ⟨none, none, rfl, F0⟩ (fun i σ H' _ ⟨_, _, _, F⟩ => sqn F.2.1) ?_ ?_⟩
          · rintro i x σ H4 H5 hlt ⟨v9, v10, rfl, F⟩ ⟨rfl, hx⟩
            obtain ⟨n, hn, rfl⟩ := nat_at hx
            have nlt := small n (List.mem_of_getElem? hn)
            have wl := word_lt2 m5 srt bd n
            have hw := heaps_word m5 srt bd n
            have ou := out_pick ns n
            have nm := num_pick srt nlt
            have e4 : (nums.take (i + 1)).map (wordN m ns) = (nums.take i).map (wordN m ns) ++ [wordN m ns n] := by
              rw [List.take_add_one, hn, List.map_append]
              rfl
            have il : ((nums.take i).map (wordN m ns)).length ≤ 4 := by rw [List.length_map, List.length_take]; omega
            rw [e4]
            generalize (nums.take i).map (wordN m ns) = L at F il
            have M5 := M3.ex F.2.1
            walk_at "rd"
            try dsimp only [List.set_cons_succ, List.set_cons_zero]
            refine ⟨p, ns, n, rfl, M5.2.1, by omega, fun q1 H6 hq1 e6 at6 => ?_⟩
            walk_at "rd"
            try dsimp only [List.set_cons_succ, List.set_cons_zero]
            refine ⟨m, q1, pickN ns n, rfl, m5, at6, ?_⟩
            rw [← word_sum m5 srt bd n]
            have F6 := F.ex e6
            walk_at "rd"
            try dsimp only [List.set_cons_succ, List.set_cons_zero]
            refine ⟨ty_lst F6.2.2, ?_⟩
            walk_at "rd"
            try dsimp only [List.set_cons_succ, List.set_cons_zero]
            refine rd_app F6.2.2 (by rw [lenV]; omega) ?_
            have F7 := F6.app (z := wordN m ns n)
            generalize upd H6 pw (.lst ((intsL L).map V.int ++ [V.int (wordN m ns n : Int)])) = H7 at F7 ⊢
            have M7 := M3.ex F7.2.1
            walk_at "rd"
            try dsimp only [List.set_cons_succ, List.set_cons_zero]
            refine ⟨ch, m, ns, .int (n : Int), rfl, M7.2.2, ⟨_, th_int _⟩, fun pt H8 hpt e8 att => ?_⟩
            rw [atV_good nlt] at att
            have F8 := F7.ex e8
            walk_at "rd"
            try dsimp only [List.set_cons_succ, List.set_cons_zero]
            refine ⟨by show 2 ≤ sizeLine; decide, fun pu hpu => ?_⟩
            refine ne_pair (by decide +kernel) (.inl ⟨_, rfl⟩) ((Ex.new hpu) _ _ att) upd_same ?_
            have F9 := F8.ex (Ex.new hpu (o := .tup [.str "good", .int (wordN m ns n : Int)]))
            generalize upd H8 pu (.tup [.str "good", .int (wordN m ns n : Int)]) = H9 at F9 ⊢
            have M9 := M3.ex F9.2.1
            refine ⟨false, rfl, (fun z => nomatch z), fun _ => ?_⟩
            walk_at "rd"
            try dsimp only [List.set_cons_succ, List.set_cons_zero]
            refine ⟨ch, m, ns, .int (wordN m ns n : Int), rfl, M9.2.2, ⟨_, th_int _⟩, fun pt2 H10 hpt2 e10 att2 => ?_⟩
            rw [nuV_good wl (by rw [hw]; exact ou), hw, nm] at att2
            have F10 := F9.ex e10
            walk_at "rd"
            try dsimp only [List.set_cons_succ, List.set_cons_zero]
            refine ⟨by show 2 ≤ sizeLine; decide, fun pu2 hpu2 => ?_⟩
            refine ne_pair (by decide +kernel) (.inl ⟨_, rfl⟩) ((Ex.new hpu2) _ _ att2) upd_same ?_
            have F11 := F10.ex (Ex.new hpu2 (o := .tup [.str "good", .int (n : Int)]))
            generalize upd H10 pu2 (.tup [.str "good", .int (n : Int)]) = H11 at F11 ⊢
            have M11 := M3.ex F11.2.1
            walk_at "rd"
            try dsimp only [List.set_cons_succ, List.set_cons_zero]
            refine ⟨(fun z => nomatch z), fun _ => ?_⟩
            walk_at "rd"
            try dsimp only [List.set_cons_succ, List.set_cons_zero]
            refine ⟨p, ns, n, rfl, M11.2.1, by omega, fun q2 H12 hq2 e12 at12 => ?_⟩
            have F12 := F11.ex e12
            have pl := pick_len ns n
            walk_at "rd"
            try dsimp only [List.set_cons_succ, List.set_cons_zero]
            refine ⟨_, _, some ((intsL (pickN ns n)).map V.int), rfl, ⟨q2, rfl, .inl at12, by rw [lenV]; omega, ints_odd⟩, letGood m1 m5 ⟨fun b eb => absurd ((in_off (fun z hz => ?_)).symm.trans eb) nofun, fun ns2 en2 _ => ?_⟩⟩
            · obtain ⟨q, hq, rfl⟩ := List.mem_map.mp hz
              have := bd q (pick_mem hq)
              omega
            obtain rfl : intsL (pickN ns n) = ns2 := (List.map_inj_right fun _ _ h => V.int.inj h).mp (Option.some.inj en2)
            refine ⟨by unfold intsL; rw [List.length_map]; omega, fun H13 e13 => ?_⟩
            rw [nats_self (pick_srt srt n)]
            have ew : (fun m ps => stepN m (markN ps)) m (pickN ns n) = wordN m ns n := rfl
            rw [ew]
            have F13 := F12.ex e13
            have M13 := M3.ex F13.2.1
            walk_at "rd"
            try dsimp only [List.set_cons_succ, List.set_cons_zero]
            refine ⟨fun z => absurd z (by rw [decide_eq_true rfl]; decide), fun _ => ?_⟩
            walk_at "rd"
            try dsimp only [List.set_cons_succ, List.set_cons_zero]
            refine ⟨ch, m, ns, .int (wordN m ns n : Int), rfl, M13.2.2, ⟨_, th_int _⟩, fun pt3 H14 hpt3 e14 att3 => ?_⟩
            rw [hoV_good wl, hw, ou] at att3
            have F14 := F13.ex e14
            walk_at "rd"
            try dsimp only [List.set_cons_succ, List.set_cons_zero]
            refine ⟨by show 2 ≤ sizeLine; decide, fun pu3 hpu3 => ?_⟩
            refine ne_pair (by decide +kernel) (.inr ⟨_, rfl⟩) ((Ex.new hpu3) _ _ att3) upd_same ?_
            have F15 := F14.ex (Ex.new hpu3 (o := .tup [.str "good", .bl true]))
            walk_at "rd"
            try dsimp only [List.set_cons_succ, List.set_cons_zero]
            refine ⟨(fun z => nomatch z), fun _ => ?_⟩
            exact ⟨_, _, rfl, F15⟩
          · rintro σ H4 ⟨v9, v10, rfl, F⟩
            have lt4 : ((intsL nums).map V.int).length = nums.length := lenV _
            rw [lt4, List.take_length] at F
            subst en
            exact hN _ _ ⟨pn, pw, r1, r2, v9, v10, rfl, M3.ex F.2.1, hr1, hr2, F.2.1 _ _ atn, F.2.2⟩
        · rintro σ H4 ⟨pn, pw, r1, r2, v9, v10, rfl, M4, hr1, hr2, atn, atw⟩
          have wl : ∀ n, wordN m ns n < 2 ^ (2 ^ m) := fun n => word_lt2 m5 srt bd n
          walk_at "rd"
          try dsimp only [List.set_cons_succ, List.set_cons_zero]
          refine ⟨ch, m, ns, .int ((r1 ^^^ r2 : Nat) : Int), rfl, M4.2.2, ⟨_, th_int _⟩, fun z => absurd ((whole_of (Int.natCast_nonneg _) (by have := Nat.xor_lt_two_pow hr1 hr2; omega)).symm.trans z) Bool.noConfusion, fun n en hn H5 e5 => ?_⟩
          obtain rfl : r1 ^^^ r2 = n := by have := V.int.inj en; omega
          have M5 := M4.ex e5
          have atw5 := e5 _ _ atw
          have atn5 := e5 _ _ atn
          clear M4 atw atn
          walk_at "rd"
          try dsimp only [List.set_cons_succ, List.set_cons_zero]
          refine ⟨fun z => absurd z (by rw [word_xor srt bd, decide_eq_true rfl]; decide), fun _ => ?_⟩
          walk_at "rd"
          try dsimp only [List.set_cons_succ, List.set_cons_zero]
          refine ⟨ch, m, ns, .int (((2 ^ ns.length - 1 : Nat) : Int) + 1), rfl, M5.2.2, ⟨_, th_int _⟩, fun pt H8 hpt e8 att => ?_⟩
          rw [atV_bad (whole_high (by omega))] at att
          walk_at "rd"
          try dsimp only [List.set_cons_succ, List.set_cons_zero]
          refine ⟨by show 2 ≤ sizeLine; decide, fun pu hpu => ?_⟩
          refine ne_pair (by decide +kernel) (.inl ⟨_, rfl⟩) ((Ex.new hpu) _ _ att) upd_same ?_
          have e9 := e8.trans (Ex.new hpu (o := .tup [.str "number", .int ((2 ^ ns.length - 1 : Nat) : Int)]))
          generalize upd H8 pu (.tup [.str "number", .int ((2 ^ ns.length - 1 : Nat) : Int)]) = H9 at e9 ⊢
          have M9 := M5.ex e9
          have atw9 := e9 _ _ atw5
          clear M5 atw5 atn5
          refine ⟨false, rfl, (fun z => nomatch z), fun _ => ?_⟩
          walk_at "rd"
          try dsimp only [List.set_cons_succ, List.set_cons_zero]
          refine ⟨hh, c, 0, ((2 ^ ns.length - 1 : Nat) : Int), rfl, M9.1, fun v HA wv ov dA handA => ?_⟩
          have atwA := dA _ _ (M9.1.off atw9) atw9
          have MA := M9.dh dA handA
          clear M9 atw9
          walk_at "rd"
          try dsimp only [List.set_cons_succ, List.set_cons_zero]
          refine ⟨ch, m, ns, v, rfl, MA.2.2, ov _ (Ex.refl _), fun pt2 HB hpt2 eB att2 => ?_⟩
          rw [atV_bad wv] at att2
          walk_at "rd"
          try dsimp only [List.set_cons_succ, List.set_cons_zero]
          refine ⟨by show 2 ≤ sizeLine; decide, fun pu2 hpu2 => ?_⟩
          refine ne_pair (by decide +kernel) (.inl ⟨_, rfl⟩) ((Ex.new hpu2) _ _ att2) upd_same ?_
          have eC := eB.trans (Ex.new hpu2 (o := .tup [.str "number", .int ((2 ^ ns.length - 1 : Nat) : Int)]))
          generalize upd HB pu2 (.tup [.str "number", .int ((2 ^ ns.length - 1 : Nat) : Int)]) = HC at eC ⊢
          have MC := MA.ex eC
          have atwC := eC _ _ atwA
          clear MA atwA
          walk_at "rd"
          try dsimp only [List.set_cons_succ, List.set_cons_zero]
          refine ⟨(fun z => nomatch z), fun _ => ?_⟩
          with_reducible refine rd_next ?_
          dsimp only
          refine rd_mid (fun σ H' => ∃ wd : Nat, σ = [some (.ref a), some (.ref hh), some (.int (m : Int)), some (.ref p), some (.ref ch), some (.int (few : Int)), some (.int ((2 ^ ns.length - 1 : Nat) : Int)), some (.ref pn), some (.ref pw), v9, some (.int (wd : Int)), none, none, none, none] ∧ Made K H' hh c p ch m ns ∧ wd < 2 ^ (2 ^ m)) (fun N hN => ?_) ?_
          · walk_at "rd"
            try dsimp only [List.set_cons_succ, List.set_cons_zero]
            refine ⟨hh, c, 2, rfl, MC.1, ⟨by decide, by decide⟩, fun r HD hr dD handD => ?_⟩
            have atwD := dD _ _ (MC.1.off atwC) atwC
            have MD := MC.dh dD handD
            clear MC atwC
            walk_at "rd"
            try dsimp only [List.set_cons_succ, List.set_cons_zero]
            refine ⟨fun z => ?_, fun z => ?_⟩
            · walk_at "rd"
              try dsimp only [List.set_cons_succ, List.set_cons_zero]
              refine ⟨hh, c, m, rfl, MD.1, m5, fun n HE hn dE handE => ?_⟩
              walk_at "rd"
              try dsimp only [List.set_cons_succ, List.set_cons_zero]
              exact hN _ _ ⟨_, rfl, MD.dh dE handE, Nat.xor_lt_two_pow (wl r1) hn⟩
            · walk_at "rd"
              try dsimp only [List.set_cons_succ, List.set_cons_zero]
              refine ⟨hh, c, ((2 ^ m : Nat) : Int), rfl, MD.1, ⟨by have : 0 < 2 ^ m := Nat.pow_pos (by decide); omega, by omega⟩, fun h HE hlt dE handE => ?_⟩
              walk_at "rd"
              try dsimp only [List.set_cons_succ, List.set_cons_zero]
              refine ⟨m, h, rfl, m5, ?_⟩
              walk_at "rd"
              try dsimp only [List.set_cons_succ, List.set_cons_zero]
              exact hN _ _ ⟨_, rfl, MD.dh dE handE, Nat.xor_lt_two_pow (wl r1) (markN_filter_lt _ _)⟩
          · rintro σ HD ⟨wd, rfl, MD, wdl⟩
            refine rd_mid4 (fun σ H' => ∃ v11 v12 : Option V, σ = [some (.ref a), some (.ref hh), some (.int (m : Int)), some (.ref p), some (.ref ch), some (.int (few : Int)), some (.int ((2 ^ ns.length - 1 : Nat) : Int)), some (.ref pn), some (.ref pw), v9, some (.int (wd : Int)), v11, v12, none, none] ∧ Made K H' hh c p ch m ns) (fun N hN => ?_) ?_
            rotate_left
            · rintro σ HX ⟨v11, v12, rfl, MX⟩
              walk_at "rd"
              try dsimp only [List.set_cons_succ, List.set_cons_zero]
              have k1 : 0 < 2 ^ (2 ^ m) := Nat.pow_pos (by decide)
              have eW : ((2 ^ (2 ^ m) : Nat) : Int) - 1 = ((fullW m : Nat) : Int) := by unfold fullW; omega
              rw [eW]
              refine ⟨hh, c, 0, ((fullW m : Nat) : Int), rfl, MX.1, fun v HY wv ov dY handY => ?_⟩
              have MY := MX.dh dY handY
              walk_at "rd"
              try dsimp only [List.set_cons_succ, List.set_cons_zero]
              refine ⟨ch, m, ns, v, rfl, MY.2.2, ov _ (Ex.refl _), fun pt HZ hpt eZ att => ?_⟩
              rw [nuV_bad wv] at att
              walk_at "rd"
              try dsimp only [List.set_cons_succ, List.set_cons_zero]
              refine ⟨by show 2 ≤ sizeLine; decide, fun pu hpu => ?_⟩
              refine eq_pair (by decide +kernel) (.inl ⟨_, rfl⟩) ((Ex.new hpu) _ _ att) upd_same ?_
              have e9 := eZ.trans (Ex.new hpu (o := .tup [.str "word", .int 0]))
              generalize upd HZ pu (.tup [.str "word", .int 0]) = H9 at e9 ⊢
              refine ⟨true, rfl, fun _ => ?_, (fun z => nomatch z)⟩
              walk_at "rd"
              try dsimp only [List.set_cons_succ, List.set_cons_zero]
              refine ⟨ch, m, ns, v, rfl, (MY.ex e9).2.2, ov _ e9, fun pt2 H10 hpt2 e10 att2 => ?_⟩
              rw [hoV_bad wv] at att2
              walk_at "rd"
              try dsimp only [List.set_cons_succ, List.set_cons_zero]
              refine ⟨by show 2 ≤ sizeLine; decide, fun pu2 hpu2 => ?_⟩
              refine eq_pair (by decide +kernel) (.inl ⟨_, rfl⟩) ((Ex.new hpu2) _ _ att2) upd_same ?_
              exact q _
            walk_at "rd"
            try dsimp only [List.set_cons_succ, List.set_cons_zero]
            refine ⟨m, wd, rfl, m5, wdl, fun pz HE hpz eE atz => ?_⟩
            have ME := MD.ex eE
            have eq : placesN m (stepN m wd) = heapsN m wd := rfl
            rw [eq] at atz
            have wsl : (heapsN m wd).length ≤ 2 ^ m := Nat.le_trans (List.length_filter_le _ _) (by rw [List.length_range]; exact Nat.le_refl _)
            have wsrt : (heapsN m wd).Pairwise (· < ·) := List.Pairwise.filter _ List.pairwise_lt_range
            have sqz : SqL K HE pz ((intsL (heapsN m wd)).map V.int) := sq_of atz
            refine ⟨pz, rfl, ⟨_, sqz⟩, lc_lstT (fun i => !decide ((heapsN m wd).getD i 0 ∈ ns)) (fun i => .int (((heapsN m wd).getD i 0 : Nat) : Int)) sqz (by rw [lenV]; omega) (fun _ => rfl) (fun i x H6 e6 hx H7 e7 R q7 => ?_) (fun i x H6 e6 hx hf H7 e7 R q7 => ?_) fun pl HF hpl eF atl => ?_⟩
            · walk_at "rd"
              try dsimp only [List.set_cons_succ, List.set_cons_zero]
              obtain ⟨n, hn, rfl⟩ := nat_at hx
              have en : (heapsN m wd).getD i 0 = n := by rw [List.getD_eq_getElem?_getD, hn]; rfl
              refine ⟨p, _, rfl, .inl (sq_of (e7 _ _ (e6 _ _ ME.2.1))), rfl, flat_ints _, ?_⟩
              rw [if_pos rfl, in_ints, any_nats]
              rw [en] at q7
              exact ⟨_, rfl, q7 _ (Ex.refl _)⟩
            · walk_at "rd"
              try dsimp only [List.set_cons_succ, List.set_cons_zero]
              obtain ⟨n, hn, rfl⟩ := nat_at hx
              have en : (heapsN m wd).getD i 0 = n := by rw [List.getD_eq_getElem?_getD, hn]; rfl
              rw [en] at q7
              exact q7 _ (Ex.refl _)
            · rw [lenV, given_nats (fun h => !decide (h ∈ ns)) (fun n => .int (n : Int))] at atl
              have atl : HF pl = some (.lst ((intsL ((heapsN m wd).filter fun h => !decide (h ∈ ns))).map V.int)) := by rw [atl]; unfold intsL; rw [List.map_map]; rfl
              have hd : ((heapsN m wd).filter fun h => !decide (h ∈ ns)).head? = outN ns (heapsN m wd) := List.head?_filter
              have MF := ME.ex eF
              clear MD ME
              generalize (heapsN m wd).filter (fun h => !decide (h ∈ ns)) = S at atl hd
              cases o : outN ns (heapsN m wd) with
              | some h =>
                obtain ⟨tl, rfl⟩ : ∃ tl, S = h :: tl := by
                  rw [o] at hd
                  cases S with
                  | nil => exact nomatch hd
                  | cons x r => exact ⟨r, by rw [Option.some.inj hd]⟩
                walk_at "rd"
                try dsimp only [List.set_cons_succ, List.set_cons_zero]
                refine ⟨by show 0 ≤ sizeLine; omega, fun pe hpe => ?_⟩
                have eG : Ex HF (upd HF pe (.lst [])) := Ex.new hpe
                refine ne_lists (a := intsL (h :: tl)) (b := []) (eG _ _ atl) upd_same ?_
                refine ⟨true, rfl, fun _ => ?_, (fun z => nomatch z)⟩
                have MG := MF.ex eG
                have atlG := eG _ _ atl
                walk_at "rd"
                try dsimp only [List.set_cons_succ, List.set_cons_zero]
                refine ⟨by show 2 ≤ sizeLine; decide, fun pd hpd => ?_⟩
                have eH : Ex (upd HF pe (.lst [])) (upd (upd HF pe (.lst [])) pd (.tup [.str "strange", .int (h : Int)])) := Ex.new hpd
                have atd : (upd (upd HF pe (.lst [])) pd (.tup [.str "strange", .int (h : Int)])) pd = some (.tup [.str "strange", .int (h : Int)]) := upd_same
                have MH := MG.ex eH
                have atlH := eH _ _ atlG
                generalize upd (upd HF pe (.lst [])) pd (.tup [.str "strange", .int (h : Int)]) = HH at MH atlH atd ⊢
                clear MF MG atl atlG eH eG
                walk_at "rd"
                try dsimp only [List.set_cons_succ, List.set_cons_zero]
                refine ⟨ch, m, ns, .int (wd : Int), rfl, MH.2.2, ⟨_, th_int _⟩, fun pt HI hpt eI att => ?_⟩
                rw [nuV_out wdl o] at att
                walk_at "rd"
                try dsimp only [List.set_cons_succ, List.set_cons_zero]
                refine ne_pair (by decide +kernel) (.inl ⟨_, rfl⟩) att (eI _ _ atd) ?_
                refine ⟨false, rfl, (fun z => nomatch z), fun _ => ?_⟩
                have MI := MH.ex eI
                have atlI := eI _ _ atlH
                have atdI := eI _ _ atd
                clear MH atlH atd
                walk_at "rd"
                try dsimp only [List.set_cons_succ, List.set_cons_zero]
                refine ⟨pd, _, 0, _, rfl, rfl, st_of atdI, rfl, ?_⟩
                walk_at "rd"
                try dsimp only [List.set_cons_succ, List.set_cons_zero]
                refine ⟨fun z => absurd (V.str.inj (of_decide_eq_true z)) (by decide), fun _ => ?_⟩
                walk_at "rd"
                try dsimp only [List.set_cons_succ, List.set_cons_zero]
                refine ⟨ch, m, ns, .int (wd : Int), rfl, MI.2.2, ⟨_, th_int _⟩, fun pt2 HJ hpt2 eJ att2 => ?_⟩
                rw [hoV_good wdl, o] at att2
                have att2 : HJ pt2 = some (.tup [.str "good", .bl false]) := att2
                have MJ := MI.ex eJ
                have atlJ := eJ _ _ atlI
                clear MI atlI atdI
                walk_at "rd"
                try dsimp only [List.set_cons_succ, List.set_cons_zero]
                refine ⟨by show 0 ≤ sizeLine; omega, fun pe2 hpe2 => ?_⟩
                have eK : Ex HJ (upd HJ pe2 (.lst [])) := Ex.new hpe2
                refine eq_lists (a := intsL (h :: tl)) (b := []) (eK _ _ atlJ) upd_same ?_
                rw [decide_eq_false (show ¬ intsL (h :: tl) = [] from nofun)]
                have MK := MJ.ex eK
                have atlK := eK _ _ atlJ
                have attK := eK _ _ att2
                generalize upd HJ pe2 (.lst []) = HK at MK atlK attK ⊢
                walk_at "rd"
                try dsimp only [List.set_cons_succ, List.set_cons_zero]
                refine ⟨by show 2 ≤ sizeLine; decide, fun pt3 hpt3 => ?_⟩
                have eL : Ex HK (upd HK pt3 (.tup [.str "good", .bl false])) := Ex.new hpt3
                refine ne_pair (by decide +kernel) (.inr ⟨_, rfl⟩) (eL _ _ attK) upd_same ?_
                have ML := MK.ex eL
                have atlL := eL _ _ atlK
                generalize upd HK pt3 (.tup [.str "good", .bl false]) = HL at ML atlL ⊢
                clear MJ MK atlJ atlK
                walk_at "rd"
                try dsimp only [List.set_cons_succ, List.set_cons_zero]
                refine ⟨(fun z => nomatch z), fun _ => ?_⟩
                walk_at "rd"
                try dsimp only [List.set_cons_succ, List.set_cons_zero]
                refine ⟨by show 0 ≤ sizeLine; omega, fun pe3 hpe3 => ?_⟩
                have eM2 : Ex HL (upd HL pe3 (.lst [])) := Ex.new hpe3
                refine eq_lists (a := intsL (h :: tl)) (b := []) (eM2 _ _ atlL) upd_same ?_
                rw [decide_eq_false (show ¬ intsL (h :: tl) = [] from nofun)]
                walk_at "rd"
                try dsimp only [List.set_cons_succ, List.set_cons_zero]
                exact ⟨(fun z => nomatch z), fun _ => ⟨(fun z => nomatch z), fun _ => hN _ _ ⟨_, _, rfl, ML.ex eM2⟩⟩⟩
              | none =>
                obtain rfl : S = [] := by
                  rw [o] at hd
                  cases S with
                  | nil => rfl
                  | cons x r => exact nomatch hd
                walk_at "rd"
                try dsimp only [List.set_cons_succ, List.set_cons_zero]
                refine ⟨by show 0 ≤ sizeLine; omega, fun pe hpe => ?_⟩
                have eG : Ex HF (upd HF pe (.lst [])) := Ex.new hpe
                refine ne_lists (a := []) (b := []) (eG _ _ atl) upd_same ?_
                refine ⟨false, rfl, (fun z => nomatch z), fun _ => ?_⟩
                have MG := MF.ex eG
                have atlG := eG _ _ atl
                walk_at "rd"
                try dsimp only [List.set_cons_succ, List.set_cons_zero]
                refine ⟨ch, m, ns, .int (wd : Int), rfl, MG.2.2, ⟨_, th_int _⟩, fun pd HH hpd eH atd => ?_⟩
                rw [nuV_good wdl o] at atd
                have klt := num_lt ns (heapsN m wd)
                have kb := back_word m5 srt wdl o
                have MH := MG.ex eH
                have atlH := eH _ _ atlG
                clear MF MG atl atlG eG
                walk_at "rd"
                try dsimp only [List.set_cons_succ, List.set_cons_zero]
                refine ⟨ch, m, ns, .int (wd : Int), rfl, MH.2.2, ⟨_, th_int _⟩, fun pt HI hpt eI att => ?_⟩
                rw [nuV_good wdl o] at att
                generalize numN ns (heapsN m wd) = k at atd att klt kb
                walk_at "rd"
                try dsimp only [List.set_cons_succ, List.set_cons_zero]
                refine ne_pair (by decide +kernel) (.inl ⟨_, rfl⟩) att (eI _ _ atd) ?_
                refine ⟨false, rfl, (fun z => nomatch z), fun _ => ?_⟩
                have MI := MH.ex eI
                have atlI := eI _ _ atlH
                have atdI := eI _ _ atd
                clear MH atlH atd
                walk_at "rd"
                try dsimp only [List.set_cons_succ, List.set_cons_zero]
                refine ⟨pd, _, 0, _, rfl, rfl, st_of atdI, rfl, ?_⟩
                walk_at "rd"
                try dsimp only [List.set_cons_succ, List.set_cons_zero]
                refine ⟨fun z => absurd (V.str.inj (of_decide_eq_true z)) (by decide), fun _ => ?_⟩
                walk_at "rd"
                try dsimp only [List.set_cons_succ, List.set_cons_zero]
                refine ⟨ch, m, ns, .int (wd : Int), rfl, MI.2.2, ⟨_, th_int _⟩, fun pt2 HJ hpt2 eJ att2 => ?_⟩
                rw [hoV_good wdl, o] at att2
                have att2 : HJ pt2 = some (.tup [.str "good", .bl true]) := att2
                have MJ := MI.ex eJ
                have atlJ := eJ _ _ atlI
                have atdJ := eJ _ _ atdI
                clear MI atlI atdI
                walk_at "rd"
                try dsimp only [List.set_cons_succ, List.set_cons_zero]
                refine ⟨by show 0 ≤ sizeLine; omega, fun pe2 hpe2 => ?_⟩
                have eK : Ex HJ (upd HJ pe2 (.lst [])) := Ex.new hpe2
                refine eq_lists (a := []) (b := []) (eK _ _ atlJ) upd_same ?_
                rw [decide_eq_true rfl]
                have MK := MJ.ex eK
                have atlK := eK _ _ atlJ
                have attK := eK _ _ att2
                have atdK := eK _ _ atdJ
                generalize upd HJ pe2 (.lst []) = HK at MK atlK attK atdK ⊢
                walk_at "rd"
                try dsimp only [List.set_cons_succ, List.set_cons_zero]
                refine ⟨by show 2 ≤ sizeLine; decide, fun pt3 hpt3 => ?_⟩
                have eL : Ex HK (upd HK pt3 (.tup [.str "good", .bl true])) := Ex.new hpt3
                refine ne_pair (by decide +kernel) (.inr ⟨_, rfl⟩) (eL _ _ attK) upd_same ?_
                have ML := MK.ex eL
                have atlL := eL _ _ atlK
                have atdL := eL _ _ atdK
                generalize upd HK pt3 (.tup [.str "good", .bl true]) = HL at ML atlL atdL ⊢
                clear MJ MK atlJ atlK atdJ atdK
                walk_at "rd"
                try dsimp only [List.set_cons_succ, List.set_cons_zero]
                refine ⟨(fun z => nomatch z), fun _ => ?_⟩
                walk_at "rd"
                try dsimp only [List.set_cons_succ, List.set_cons_zero]
                refine ⟨by show 0 ≤ sizeLine; omega, fun pe3 hpe3 => ?_⟩
                have eM2 : Ex HL (upd HL pe3 (.lst [])) := Ex.new hpe3
                refine eq_lists (a := []) (b := []) (eM2 _ _ atlL) upd_same ?_
                rw [decide_eq_true rfl]
                have MM := ML.ex eM2
                have atdM := eM2 _ _ atdL
                generalize upd HL pe3 (.lst []) = HM at MM atdM ⊢
                walk_at "rd"
                try dsimp only [List.set_cons_succ, List.set_cons_zero]
                refine ⟨fun _ => ?_, (fun z => nomatch z)⟩
                walk_at "rd"
                try dsimp only [List.set_cons_succ, List.set_cons_zero]
                refine ⟨pd, _, 0, _, rfl, rfl, st_of atdM, rfl, ?_⟩
                walk_at "rd"
                try dsimp only [List.set_cons_succ, List.set_cons_zero]
                refine ⟨fun z => absurd z (by rw [decide_eq_true rfl]; decide), fun _ => ?_⟩
                walk_at "rd"
                try dsimp only [List.set_cons_succ, List.set_cons_zero]
                refine ⟨pd, _, 1, _, rfl, rfl, st_of atdM, rfl, ?_⟩
                walk_at "rd"
                try dsimp only [List.set_cons_succ, List.set_cons_zero]
                refine ⟨ch, m, ns, .int (k : Int), rfl, MM.2.2, ⟨_, th_int _⟩, fun pt4 HO hpt4 eO att4 => ?_⟩
                rw [atV_good klt, kb] at att4
                walk_at "rd"
                try dsimp only [List.set_cons_succ, List.set_cons_zero]
                refine ⟨by show 2 ≤ sizeLine; decide, fun pt5 hpt5 => ?_⟩
                refine ne_pair (by decide +kernel) (.inl ⟨_, rfl⟩) ((Ex.new hpt5) _ _ att4) upd_same ?_
                walk_at "rd"
                try dsimp only [List.set_cons_succ, List.set_cons_zero]
                exact ⟨(fun z => nomatch z), fun _ => hN _ _ ⟨_, _, rfl, MM.ex (eO.trans (Ex.new hpt5))⟩⟩

end
end Lw

set_option Elab.async false
set_option linter.all false
set_option maxRecDepth 100000
set_option maxHeartbeats 0
namespace Lw
open PySem PySem.Spec PyProof.Rows L2 He
section
variable {P : Program} {w : World} {K : PySem.W.Frag} {mg : Str → Option Value}
theorem end_of {h : Heap} {f : Addr} (X : K.In h) (G : h.Ns mainGlobals mg) (hf : mg ("law" : Str) = some (.ref f)) (c : SaysP fa fn ex pr K) :
    ∃ fd : FuncData, (∀ (s : Shared) (v : Value), BindsTo s fd ⟨[v], []⟩ [("_law_script", v)]) ∧ ∀ base : Heap, K.In base → base.Ns mainGlobals mg → FnOk P w K mg base (L2N.CX P w) 23 f fd ["_law_script"] (spLaw K) := by
  have E : Ctx K mg := ⟨⟨h, X, G⟩, c⟩
  obtain ⟨fd, F⟩ := f_law E
  have e := hf.symm.trans (g_law E)
  cases e
  have b := FunD.bindsA (ps := ["_law_script"]) F fun _ _ _ _ _ _ us hl => match us, hl with | [_], _ => rfl
  refine ⟨fd, fun s v => b s [v] rfl, fun base _ _ => ?_⟩
  exact h_law E F
end
end Lw
open PySem PySem.W PySem.Calls PyProof.Rows
theorem PySem.Challenge.cw_lowerwords_k39_whole_all_words_by_number_holds : PySem.Challenge.rw_lowerwords_k39_whole_all_words_by_number.Holds := by
  w_on; o_law
  refine HandSHeadRun.head_any (r := Lw.R) (q := view Lw.R.prog [62]) (H := Lw.hk) (ob := Lw.ob) (M := 4000) (loose := Lw.loose) (d := HandSHeadRun.topDef Lw.R.prog 62) (kwd := []) Lw.ob_eq
    (by kernel_rfl) (fun s => by kernel_rfl) Lw.run (by kernel_rfl) (by kernel_rfl) (by kernel_rfl) (by rfl) (by first | assumption | decide +kernel) (by decide +kernel) ⟨rfl, rfl, rfl, rfl, rfl, by decide +kernel⟩ ?hw ?hc
  case hw => w_witness2
  case hc =>
    refine Lw.walk_ofEB (l := PySem.Challenge.rw_lowerwords_k39_whole_all_words_by_number) (n := 63) (k := 23) (x := "_law_script") (CX := fun w => L2N.CX (PySem.Challenge.rw_lowerwords_k39_whole_all_words_by_number).prog w) rfl (by decide) (by kernel_rfl) ⟨rfl, by decide, by decide⟩ ?F ?C
    case C =>
      rintro w H s e s' ⟨_, _, _, _, _, _, _, _, _, _, _, _, no⟩
      exact no
    case F =>
      intro w mg fa h Y G m0
      obtain ⟨K, KX, c⟩ := Y
      have m1 : mg ("law" : PySem.Str) = some (.ref fa) := by
        have e : (HandSHeadRun.topDef Lw.R.prog 62).name = ("law" : PySem.Str) := by kernel_rfl
        rw [← e]
        exact m0
      obtain ⟨fd, hb, hF⟩ := Lw.end_of (P := (PySem.Challenge.rw_lowerwords_k39_whole_all_words_by_number).prog) (w := w) KX G m1 c
      exact ⟨K, fd, Lw.spLaw K, KX, hb, fun H a ns hl hz _ hS => ⟨a, ns, rfl, hS, hl, hz, fun _ => rfl⟩, hF⟩

