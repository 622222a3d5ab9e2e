import PyProof.Rows.All
import Wide.All
import OpenK.AllK
import Wide.FinOn
import KE.KStateDown
import HandS.ForMost
import HandS.ForExc
import HandS.More
import HandS.Defaults
import HandS.Head0
import HandS.Head1
import HandS.Head2
import HandS.HeadEnd
import HandS.HeadHook1
import HandS.HeadHook2
import HandS.EndBits
import HandS.ExcInit
import HandS.ExcField
import HandS.IsInst
import HandS.Wide
import HandS.WideBits
import HandS.Flow
import HandS.TryMany
import HandS.Small
import HandS.Strs
import HandS.SetFor
import HandS.SortInts
import HandS.TupLe
import HandS.Style
import HandS.Conv
import HandS.ExcCtx
import HandS.HotCalls
import HandS.ExcInitHot
import HandS.RaiseFrom
import HandS.FStr
import PyProof.FString3
import PyProof.Rows.StrIntSpec
import HandS.Text
import HandS.Evl
import HandS.Comp
import HandS.RevRange
import HandS.Star
import HandS.Zip
import HandS.Walk
import PySem.Challenge.RW_lowerwords_k04_whole_heaps_below_by_lett
set_option Elab.async false
set_option linter.all false
set_option maxRecDepth 100000
set_option maxHeartbeats 2000000
/-! the head: facts by names with one more Bool; the end with the script's bits -/
namespace Lw
open PySem PySem.Spec PyProof.Rows L2 He
abbrev AlE : Type := AlD × Bool
def obsE (n : Nat) (fa : List Fa) (fn : List DefD) (ex : PySem.W.Frag → Bool) (g : Addr → Option Obj) : AlE :=
  (obsDG n fa fn g, ex (frG g (asD g n)))
def valE (fn : List DefD) : AlE := (valD fn, true)
structure SaysE (fa : List Fa) (fn : List DefD) (ex : PySem.W.Frag → Bool) (K : PySem.W.Frag) : Prop where
  d : SaysD fa fn K
  x : ex K = true
def hookE (n : Nat) (fa : List Fa) (fn : List DefD) (ex : PySem.W.Frag → Bool) : PySem.W.Hook where
  α := AlE
  obs := fun s => obsE n fa fn ex s.heap.get?
  val := fun _ => valE fn
  says := fun _ h => ∃ K : PySem.W.Frag, K.In h ∧ SaysE fa fn ex K
  of := fun _ _ e => ⟨_, frG_in, congrArg Prod.fst e, congrArg Prod.snd e⟩
  keeps := fun _ _ _ ⟨K, hK, c⟩ k => ⟨K, PySem.W.Frag.In.keeps hK k, c⟩
theorem obsE_eq {n : Nat} {fa : List Fa} {fn : List DefD} {ex : PySem.W.Frag → Bool} {g : Addr → Option Obj} {s : Shared} (h : ∀ a, g a = s.heap.get? a) : obsE n fa fn ex g = (hookE n fa fn ex).obs s := by
  have e : g = s.heap.get? := funext h
  rw [e] <;> rfl

/-- an own exception class with an __init__ of its own: what OexC asks -/
def shapeB (C : Addr) : Obj → Bool
  | ⟨.type "type", _, .cls cd, sl⟩ => (match cd.mro, sl.toList with
    | .ref C' :: bm, [_, _, _, _, some (.builtin n), _] => decide (C' = C) && (decide (n = "ValueError.__new__") && (!cd.hasDel && (cd.hasDict && PySem.HandSPX.refsVE bm)))
    | _, _ => false)
  | _ => false
theorem shapeB_ok {C : Addr} {o : Obj} (h : shapeB C o = true) : ∃ nm q N bs bm sn sub ab col dd k0 k1 k2 k3 k5, o = excClassObj nm q C N bs bm true sn sub ab col dd k0 k1 k2 k3 k5 "ValueError.__new__" ∧ PySem.HandSPX.refsVE bm = true := by
  unfold shapeB at h
  split at h
  · rename_i dd cd sl
    split at h
    · rename_i C' bm k0 k1 k2 k3 n k5 hm hs
      obtain ⟨e1, h⟩ := ba h
      obtain ⟨e2, h⟩ := ba h
      obtain ⟨e3, h⟩ := ba h
      obtain ⟨e4, e5⟩ := ba h
      have e1 := of_decide_eq_true e1
      have e2 := of_decide_eq_true e2
      obtain ⟨nm, bs, mro, ns, qn, hd, sn, sub, ab, col, del⟩ := cd
      have hm : mro = .ref C' :: bm := hm
      have e4 : hd = true := e4
      have e3 : del = false := by simpa using e3
      subst e1 e2 e3 e4 hm
      have hsl : sl = #[k0, k1, k2, k3, some (.builtin "ValueError.__new__"), k5] := by
        obtain ⟨l⟩ := sl
        have hs : l = _ := hs
        rw [hs]
      subst hsl
      exact ⟨nm, qn, ns, bs, bm, sn, sub, ab, col, dd, k0, k1, k2, k3, k5, rfl, e5⟩
    · cases h
  · cases h
def eqV2 (a b : Option Value) : Bool := decide (a = b)
/-- an exception class x of the text with an __init__: the fields fs are no attributes of the class -/
def excB (x : Str) (fs : List Str) (K : PySem.W.Frag) : Bool :=
  (match K.lookup (ga K x) with
    | some o => shapeB (ga K x) o
    | none => false) &&
  (eqO (PySem.W.findIn K (.ref (ga K x)) "__setattr__") (some (some (.builtin "object.__setattr__"))) &&
  (decide (PySem.W.subIn K (.ref (ga K x)) (.type "BaseException") = some true) &&
  (eqV2 (PySem.W.typeIn K (.ref (ga K x))) (some (.type "type")) &&
  (PySem.W.keepIn K (.ref (ga K x)) &&
  (eqO (PySem.W.findIn K (.ref (ga K x)) "__init__") (some (some (.ref (ma K (ga K x) "__init__")))) &&
  (eqV2 (PySem.W.typeIn K (.ref (ma K (ga K x) "__init__"))) (some (.type "function")) &&
  (xfB K (ga K x) && fs.all fun f => eqO (PySem.W.findIn K (.ref (ga K x)) f) (some none))))))))
structure ExcT (K : PySem.W.Frag) (x : Str) (fs : List Str) : Prop where
  o : OexC K (ga K x)
  i : PySem.W.findIn K (.ref (ga K x)) "__init__" = some (some (.ref (ma K (ga K x) "__init__")))
  t : PySem.W.typeIn K (.ref (ma K (ga K x) "__init__")) = some (.type "function")
  f : XfC K (ga K x)
  n : ∀ f ∈ fs, PySem.W.findIn K (.ref (ga K x)) f = some none
theorem excB_ok {x : Str} {fs : List Str} {K : PySem.W.Frag} (h : excB x fs K = true) : ExcT K x fs := by
  obtain ⟨h1, h⟩ := ba h
  obtain ⟨h2, h⟩ := ba h
  obtain ⟨h3, h⟩ := ba h
  obtain ⟨h4, h⟩ := ba h
  obtain ⟨h5, h⟩ := ba h
  obtain ⟨h6, h⟩ := ba h
  obtain ⟨h7, h⟩ := ba h
  obtain ⟨h8, h9⟩ := ba h
  refine ⟨⟨?_, eqO_ok h2, of_decide_eq_true h3, of_decide_eq_true h4, h5⟩, eqO_ok h6, of_decide_eq_true h7, xfB_ok h8, fun f hf => eqO_ok (List.all_eq_true.mp h9 f hf)⟩
  cases e : K.lookup (ga K x) with
  | none =>
    rw [e] at h1
    cases h1
  | some o =>
    rw [e] at h1
    obtain ⟨nm, q, N, bs, bm, sn, sub, ab, col, dd, k0, k1, k2, k3, k5, eo, hb⟩ := shapeB_ok h1
    exact ⟨nm, q, N, bs, bm, sn, sub, ab, col, dd, k0, k1, k2, k3, k5, by rw [eo], hb⟩

/-- the end of a law over a head by facts, the script's bits told -/
theorem walk_ofEB {l : PySem.W.OpenLaw} {n k : Nat} {q : Program} {loose : List Str} {XP : (Str → Option Value) → Heap → Prop} {YP : World → Heap → Prop} {d : DefRec} {CX : World → CXT} {x : Str}
    (hn : l.most = some n) (hn2 : n ≤ sizeLine) (hdf : d.params.defaults = []) (hr : Room k callerA)
    (F : ∀ (w : World) (mg : Str → Option Value) (fa : Addr) (h : Heap), YP w h → h.Ns mainGlobals mg → mg d.name = some (.ref fa) →
      ∃ (K : PySem.W.Frag) (fd : FuncData) (sp : Sp), K.In h ∧ (∀ (s : Shared) (u : Value), BindsTo s fd ⟨[u], []⟩ [(x, u)]) ∧
        (∀ (H : Hp) (a : Addr) (ns : List Int), ns.length ≤ n → (∀ z ∈ ns, Builtin.Int.intBits z ≤ 1048576) → Only H → SqL K H a (ns.map V.int) → sp [.ref a] H (fun v _ => v = .bl true) fun _ _ _ => False) ∧
        ∀ base : Heap, K.In base → base.Ns mainGlobals mg → FnOk l.prog w K mg base (CX w) k fa fd [x] sp)
    (hCX : ∀ (w : World) (H : Hp) (s : Shared) (e : Value) (s' : Shared), CX w [] H s (fun _ _ _ => False) e s' → False) :
    PySem.W.WalkO q loose XP YP l.row.toRowW d [] (fun f vs => PySem.call f vs) := by
  refine Att.attach_callB hn hdf fun w s₀ s₁ mg mb fa o pm cd doc a vs ns G Y ho hd hcd hmg hobj hints hlen hbits hg => ?_
  obtain ⟨K, fd, sp, KX, hb, hsp, hF⟩ := F w mg fa _ Y G.T.g hmg
  exact law_call KX G.T.g G.T.b G.T.builtins G.T.nolimit hg hobj hints (Nat.le_trans hlen hn2) hr hF hb (fun H hO hS => hsp H a ns hlen hbits hO hS) fun H e s' => hCX w H s₁ e s'
end Lw

set_option Elab.async false
set_option linter.all false
set_option maxRecDepth 100000
set_option maxHeartbeats 2000000
namespace Lw
open PySem PySem.Spec PyProof.Rows L2 He
/-! ### exceptions in the air: their context is None -/
abbrev Takes := @L2N.Takes
theorem takes0 {X : Cx} : L2N.Takes X (fun _ _ _ _ => False) := fun u s' ⟨_, _, _, _, _, _, _, _, _, _, _, _, _, _, _, _, no⟩ => False.elim no
theorem takes_of {X : Cx} {E : XK} (hs : X.stack = X.env :: X.outer) (hf : X.env.frame = some X.env.locals) (hex : X.ex = []) {E₁ : Value → Shared → Prop}
    (hx : X.xe = fun v t => wpAny (model X.prog X.w) X.A (leaving X.env v) (fun _ t2 => L2N.CX X.prog X.w X.outer X.H_0 X.s_0 E v t2) E₁ t) : L2N.Takes X (fun cls d _ H => E cls d H) := L2N.takes_of hs hf hex hx
/-! ### calls of the text's own defs -/
structure Has (P : Program) (w : World) (K : PySem.W.Frag) (mg : Str → Option Value) (base : Heap) (k : Nat) (x : Str) (ps : List Str) (sp : Sp) : Prop where
  ex : ∃ fd, FnOk P w K mg base (L2N.CX P w) k (ga K x) fd ps sp ∧ Binds K fd ps []
  gl : mg x = some (.ref (ga K x))
  kp : PySem.W.keepIn K (.ref (ga K x)) = true
section
variable {X : Cx} {W : WX} {k : Nat} {x : Str} {ps : List Str} {sp : Sp} {t : TA} {p pos : Pos} {e : Expr} {es : List Expr}
theorem pe_H (h : Has X.prog X.w X.K X.mg X.base k x ps sp) (hr : Room k X.A) (tk : L2N.Takes X W) (ha : PA X (e :: es) t) (hg : Gl X x := by rfl) (hdb : (x == ("__debug__" : Str)) = false := by decide)
    (he : starEach (e :: es) X.env = (false, eval e X.env) :: starEach es X.env := by rfl) (hpl : (backTo pos (starEach es X.env)).any (·.1) = false := by rfl) :
    PE X (.Call (.Name x p) (e :: es) [] pos) (tCallS sp (WE W) t) := by
  obtain ⟨fd, F, b⟩ := h.ex
  exact pe_callS F hr hg h.gl h.kp b (fun σ => L2N.passAt tk σ) ha hdb he hpl
end
/-! ### raising the text's own errors -/
/-- an error of the class x without fields leaves -/
def Er0 (K : PySem.W.Frag) (x : Str) (E : XK) (H : Hp) : Prop := E (.ref (ga K x)) none H
/-- an error of the class x with the fields fs leaves -/
def Er (K : PySem.W.Frag) (x : Str) (fs : List (Str × V)) (E : XK) (H : Hp) : Prop := ∀ d, H d = none → E (.ref (ga K x)) (some d) (upd H d (.xd fs))
structure Ex0 (K : PySem.W.Frag) (mg : Str → Option Value) (x : Str) : Prop where
  g : mg x = some (.ref (ga K x))
  e : (Fa.exc x).ok K = true
def tRaise0 (K : PySem.W.Frag) (x : Str) (W : WX) : TS := fun _ σ H => W (.ref (ga K x)) none σ H
section
variable {X : Cx} {W : WX} {x : Str} {p pos pos2 : Pos}
theorem ps_raise0 (hc : X.calm = true) (tk : L2N.Takes X W) (T : Ex0 X.K X.mg x) (hg : Gl X x := by rfl) (hdb : (x == ("__debug__" : Str)) = false := by decide) :
    PS X (.Raise (some (.Call (.Name x p) [] [] pos)) none pos2) (tRaise0 X.K x W) := by
  obtain ⟨q, h⟩ := ba T.e
  obtain ⟨kC, h⟩ := ba h
  obtain ⟨h1, h2⟩ := ba h
  refine L2N.ps_raise (t := fun _ H Q => Q (.ref (ga X.K x)) none H) hc tk ?_
  intro pins s σ H Q I h
  refine wpAny_Call_Name_kw (ld_glob I hg T.g ?_ hdb)
  have ha : PA X [] tNil := pa_nil
  refine PySem.W.callWith_K0 I.kIn kC ?_
  show wpAny _ _ (call (.ref (ga X.K x)) []) _ _ _
  obtain ⟨bm, N, nm, qn, bs, hdct, sn, sub, ab, col, dd, k0, k1, k2, k3, k5, mN, hC, hN, hni, T⟩ := exc_obj I.kIn q
  refine wpAny_call_exc_subT F.excBase_ValueError T hC hN hni (fun h' e hm => ?_) (Nat.zero_le _)
  exact L2N.mk_of I hm (raises_own (of_decide_eq_true h1) (of_decide_eq_true h2)) h (I.hok.gone hm.new)
end
/-! ### the text's own __init__ of an error: self.f = f, one field or two -/
def spIni1 (K : PySem.W.Frag) (x f : Str) : Sp := fun vs H Q _ => ∃ (a : Addr) (v : V), vs = [.ref a, v] ∧ H a = some (exo a (ga K x) none) ∧
  ∀ d, H d = none → d ≠ a → Q .non (upd (upd H d (exd d [(f, v)])) a (exo a (ga K x) (some d)))
def spIni2 (K : PySem.W.Frag) (x f g : Str) : Sp := fun vs H Q _ => ∃ (a : Addr) (v w : V), vs = [.ref a, v, w] ∧ H a = some (exo a (ga K x) none) ∧
  ∀ d, H d = none → d ≠ a → Q .non (upd (upd (upd H d (exd d [(f, v)])) a (exo a (ga K x) (some d))) d (exd d [(g, w), (f, v)]))
/-- an error class with its __init__ -/
structure ExI (P : Program) (w : World) (K : PySem.W.Frag) (mg : Str → Option Value) (base : Heap) (k : Nat) (x : Str) (fs ps : List Str) (sp : Sp) : Prop where
  g : mg x = some (.ref (ga K x))
  T : ExcT K x fs
  F : ∃ fd, FnOk P w K mg base CX0 k (ma K (ga K x) "__init__") fd ps sp ∧ Binds K fd ps []
/-- X(e, ..): the class's own __init__ runs; the exception's context is None -/
theorem mkN {X : Cx} {Γ : CXT} {x : Str} {e0 : Expr} {er : List Expr} {ta : TA} {p pos : Pos} {C fI : Addr} {k : Nat} {fd : FuncData} {ps : List Str} {sp : Sp} (T : OexC X.K C) (hI : PySem.W.findIn X.K (.ref C) "__init__" = some (some (.ref fI)))
    (hT : PySem.W.typeIn X.K (.ref fI) = some (.type "function")) (G : FnOk X.prog X.w X.K X.mg X.base Γ k fI fd ps sp) (rm : Room (k + 1) X.A) (bd : Binds X.K fd ps []) (px : Passes Γ X (fun _ _ _ => False)) (gx : Gl X x) (mx : X.mg x = some (.ref C))
    (pa : PA X (e0 :: er) ta) (db : (x == ("__debug__" : Str)) = false) (st : starEach (e0 :: er) X.env = (false, eval e0 X.env) :: starEach er X.env) (pl : (backTo pos (starEach er X.env)).any (·.1) = false) :
    L2N.PMk X (.Call (.Name x p) (e0 :: er) [] pos) (tMkO C sp [] ta) := fun pins s σ H Q J wish => by
  obtain ⟨_, _, _, _, bm, _, _, _, _, _, _, _, _, _, _, atC, refs⟩ := T.cls
  apply wpAny_Call_Name_kw
  refine ld_glob J gx mx ?_ db
  refine PySem.W.callWith_K (h₀ := X.base) J.ok.mod.kin T.kC (thn (pa.run pos pins s σ H _ J wish) ?_) st pl
  rintro us ⟨hp, gs, dr, tk, os⟩ ⟨vs, H1, J1, rel, len1, wish1⟩
  refine ⟨J1.kIn, ?_⟩
  change wpAny _ _ (call (.ref C) us) _ _ _
  -- where the new exception stands
  obtain ⟨a, ea⟩ : ∃ a, a = hp.objs.size + 1 := ⟨_, rfl⟩
  have above : hp.objs.size ≤ a := by omega
  have w2 := wish1 a (J1.hok.fresh above)
  rw [List.append_nil] at w2
  obtain ⟨hp2, e2⟩ : ∃ h, h = (hp.push (PySem.W.kdv_tup us)).push (PySem.HandSPX.excO C hp.objs.size) := ⟨_, rfl⟩
  have kept : ∀ b o, hp.get? b = some o → hp2.get? b = some o := fun b o y => by
    rw [e2]
    exact Heap.get?_push_of_some _ (Heap.get?_push_of_some _ y)
  have new2 : hp2.get? a = some (PySem.HandSPX.excO C hp.objs.size) := by
    rw [e2, ea]
    heap_get
  have J2 : Inv X pins σ (upd H1 a (exo a C none)) ⟨hp2, gs, dr, tk, os⟩ := J1.laid (t' := tk) kept above (exo_ok new2)
  have rel2 : Vals (V.ref a :: vs) (Value.ref a :: us) := Paired.cons (show RelV (V.ref a) (Value.ref a) from rfl) rel
  have many : (Value.ref a :: us ++ []).length = ps.length := by
    rw [List.append_nil, ← rel2.length]
    exact G.len _ _ _ _ w2
  have few : us.length ≤ sizeLine := by
    have := Paired.length rel
    rw [sizeLine_eq]
    omega
  have bind2 := bd ⟨hp2, gs, dr, tk, os⟩ (Value.ref a :: us) J2.kIn many
  rw [List.append_nil] at bind2
  have body := G.run (X.A.under (.builtin "type.__call__" ⟨.ref C :: us, []⟩)) X.stack ⟨hp2, gs, dr, tk, os⟩ _ ⟨Value.ref a :: us, []⟩ (Value.ref a :: us) _ _ _ (rm.make C us []) (J2.env0.make C us []) bind2 rel2 w2
  rw [e2, ea] at body
  refine wpAny_call (PySem.HandSPX.call_own F.excBase_ValueError (fun q => PySem.HandSPX.refsVE_contains q bm refs) (J1.kIn _ _ atC) (PySem.W.looks_findIn J1.kIn hI) (fun self => PySem.W.bind_fn J1.kIn self hT) few (codeAny_mono body ?_))
  rintro (er2 | fl) s3 end3
  · exact px pins σ _ _ er2 s3 J2 (by rw [e2, ea]; exact end3)
  · cases fl with
    | next => exact False.elim end3
    | brk => exact False.elim end3
    | cont => exact False.elim end3
    | ret u =>
      obtain ⟨h3, g3, d3, t3, os3⟩ := s3
      obtain ⟨v, H3, eo, bare, un, ok3, rv, rfl, d, fs, at1, at2, free, last⟩ := end3
      obtain ⟨t0, G3, J3, back, gone, obj, na⟩ := mk_end0 (d2 := d3) (t2 := t3) J1 above kept (by rw [e2, ea]; exact un) ok3 eo bare (by rw [ea]; exact at1) at2 free
      refine ⟨rv, a, _, _, ⟨G3, g3, d3, t3, os3⟩, _, .ref C, some d, by rw [ea], J3, back, gone, obj, ⟨rfl, rfl, fun ws hw => ?_⟩, rfl, rfl, na, rfl, bare, raises_own T.exC T.tyC, by rw [ea]; exact last⟩
      cases hw
      rfl
/-- what the making of an error with one field, two fields wishes -/
def mk1 (K : PySem.W.Frag) (x f : Str) (W : WX) (σ : L2.St) : V → Hp → Prop := fun v H1 => [v].length ≤ 1000 ∧ ∀ a, H1 a = none → spIni1 K x f (.ref a :: ([v] ++ ([] : List V))) (upd H1 a (exo a (ga K x) none))
  (fun u H2 => u = .non ∧ ∃ (d : Addr) (fs : List (Str × V)), H2 a = some (exo a (ga K x) (some d)) ∧ H2 d = some (exd d fs) ∧ H1 d = none ∧ W (.ref (ga K x)) (some d) σ (upd (del H2 a) d (.xd fs))) (fun _ _ _ => False)
def mk2 (K : PySem.W.Frag) (x f g : Str) (W : WX) (σ : L2.St) : V → V → Hp → Prop := fun v w H1 => [v, w].length ≤ 1000 ∧ ∀ a, H1 a = none → spIni2 K x f g (.ref a :: ([v, w] ++ [])) (upd H1 a (exo a (ga K x) none))
  (fun u H2 => u = .non ∧ ∃ (d : Addr) (fs : List (Str × V)), H2 a = some (exo a (ga K x) (some d)) ∧ H2 d = some (exd d fs) ∧ H1 d = none ∧ W (.ref (ga K x)) (some d) σ (upd (del H2 a) d (.xd fs))) (fun _ _ _ => False)
def tRaise1 (K : PySem.W.Frag) (x f : Str) (W : WX) (te : TE) : TS := fun _ σ H => te σ H fun v H1 => mk1 K x f W σ v H1
def tRaise2 (K : PySem.W.Frag) (x f g : Str) (W : WX) (ta tb : TE) : TS := fun _ σ H => ta σ H fun v H1 => tb σ H1 fun w H2 => mk2 K x f g W σ v w H2
theorem heap_back1 {fs : List (Str × V)} {H : Hp} {a d C : Addr} {o u : HO} {z : HO} (ha : H a = none) (hd : upd H a z d = none) (ne : d ≠ a) :
    upd (del (upd (upd (upd H a z) d o) a u) a) d (.xd fs) = upd H d (.xd fs) := by
  funext b
  by_cases e : b = d
  · rw [e, upd_same, upd_same]
  · rw [upd_ne e, upd_ne e]
    by_cases e2 : b = a
    · rw [e2, del_same, ha]
    · rw [del_ne e2, upd_ne e2, upd_ne e, upd_ne e2]
theorem heap_back2 {fs : List (Str × V)} {H : Hp} {a d C : Addr} {o u y : HO} {z : HO} (ha : H a = none) (hd : upd H a z d = none) (ne : d ≠ a) :
    upd (del (upd (upd (upd (upd H a z) d o) a u) d y) a) d (.xd fs) = upd H d (.xd fs) := by
  funext b
  by_cases e : b = d
  · rw [e, upd_same, upd_same]
  · rw [upd_ne e, upd_ne e]
    by_cases e2 : b = a
    · rw [e2, del_same, ha]
    · rw [del_ne e2, upd_ne e, upd_ne e2, upd_ne e, upd_ne e2]
theorem none_up {H : Hp} {a d : Addr} {z : HO} (h : upd H a z d = none) (ne : d ≠ a) : H d = none := by
  rw [upd_ne ne] at h
  exact h
section
variable {X : Cx} {W : WX} {x f g : Str} {p pos pos2 : Pos} {e e2 : Expr} {te te2 : TE} {k : Nat}
theorem ps_raise1 (hc : X.calm = true) (tk : L2N.Takes X W) (T : ExI X.prog X.w X.K X.mg X.base k x [f] ["self", f] (spIni1 X.K x f)) (hr : Room (k + 1) X.A) (he : PE X e te) (hg : Gl X x := by rfl) (hdb : (x == ("__debug__" : Str)) = false := by decide)
    (hs : starEach [e] X.env = (false, eval e X.env) :: starEach [] X.env := by rfl) (hpl : (backTo pos (starEach [] X.env)).any (·.1) = false := by rfl) :
    PS X (.Raise (some (.Call (.Name x p) [e] [] pos)) none pos2) (tRaise1 X.K x f W te) := by
  obtain ⟨fd, F, b⟩ := T.F
  have h0 := L2N.ps_raise (pos := pos2) hc tk (mkN (p := p) (pos := pos) T.T.o T.T.i T.T.t F hr b pass0 hg T.g (pa_cons he pa_nil hs) hdb hs hpl)
  exact ⟨fun pins s σ H D I h => h0.run pins s σ H D I h⟩
theorem ps_raise2 (hc : X.calm = true) (tk : L2N.Takes X W) (T : ExI X.prog X.w X.K X.mg X.base k x [f, g] ["self", f, g] (spIni2 X.K x f g)) (hr : Room (k + 1) X.A) (he : PE X e te) (he2 : PE X e2 te2) (hg : Gl X x := by rfl) (hdb : (x == ("__debug__" : Str)) = false := by decide)
    (hs : starEach [e, e2] X.env = (false, eval e X.env) :: starEach [e2] X.env := by rfl) (hs2 : starEach [e2] X.env = (false, eval e2 X.env) :: starEach [] X.env := by rfl) (hpl : (backTo pos (starEach [e2] X.env)).any (·.1) = false := by rfl) :
    PS X (.Raise (some (.Call (.Name x p) [e, e2] [] pos)) none pos2) (tRaise2 X.K x f g W te te2) := by
  obtain ⟨fd, F, b⟩ := T.F
  have h0 := L2N.ps_raise (pos := pos2) hc tk (mkN (p := p) (pos := pos) T.T.o T.T.i T.T.t F hr b pass0 hg T.g (pa_cons he (pa_cons he2 pa_nil hs2) hs) hdb hs hpl)
  exact ⟨fun pins s σ H D I h => h0.run pins s σ H D I h⟩
end
theorem rd_mk1 {K : PySem.W.Frag} {x f : Str} {W : WX} {σ : L2.St} {v : V} {H : Hp} (q : ∀ d, H d = none → W (.ref (ga K x)) (some d) σ (upd H d (.xd [(f, v)]))) : mk1 K x f W σ v H := by
  refine ⟨by show 1 ≤ 1000; decide, fun a ha => ?_⟩
  refine ⟨a, v, rfl, upd_same, fun d hd ne => ⟨rfl, d, [(f, v)], upd_same, ?_, none_up hd ne, ?_⟩⟩
  · rw [upd_ne ne, upd_same]
  · rw [heap_back1 (C := a) ha hd ne]
    exact q d (none_up hd ne)
theorem rd_mk2 {K : PySem.W.Frag} {x f g : Str} {W : WX} {σ : L2.St} {v w : V} {H : Hp} (q : ∀ d, H d = none → W (.ref (ga K x)) (some d) σ (upd H d (.xd [(g, w), (f, v)]))) : mk2 K x f g W σ v w H := by
  refine ⟨by show 2 ≤ 1000; decide, fun a ha => ?_⟩
  refine ⟨a, v, w, rfl, upd_same, fun d hd ne => ⟨rfl, d, [(g, w), (f, v)], ?_, upd_same, none_up hd ne, ?_⟩⟩
  · rw [upd_ne (Ne.symm ne), upd_same]
  · rw [heap_back2 (C := a) ha hd ne]
    exact q d (none_up hd ne)
/-! ### calls where an exception is handled -/
structure HasH (P : Program) (w : World) (K : PySem.W.Frag) (mg : Str → Option Value) (base : Heap) (k : Nat) (x : Str) (ps : List Str) (sp : Sp) : Prop where
  ex : ∃ fd, L2H.FnH P w K mg base CX0 k (ga K x) fd ps sp ∧ Binds K fd ps []
  gl : mg x = some (.ref (ga K x))
  kp : PySem.W.keepIn K (.ref (ga K x)) = true
section
variable {X : Cx} {k j : Nat} {x : Str} {ps : List Str} {sp : Sp} {t : TA} {p pos : Pos} {e : Expr} {es : List Expr} {a : Addr} {oe : Obj} {cls : Value} {d : Option Addr} {pn : List (Addr × Obj)}
theorem hot_of (hz : L2N.Zn cls d oe) (hf : ∃ vs, oe.data = .fields vs) : L2H.HotC (X.suite a ((a, oe) :: pn)) := by
  obtain ⟨vs, hd⟩ := hf
  exact ⟨(a, oe), ⟨rfl, vs, hd, hz.2.2 vs hd⟩, List.mem_cons_self⟩
theorem pe_HH (h : HasH X.prog X.w X.K X.mg X.base k x ps sp) (hz : L2N.Zn cls d oe) (hf : ∃ vs, oe.data = .fields vs) (hr : Room j X.A) (hj : k ≤ j) (ha : PA (X.suite a ((a, oe) :: pn)) (e :: es) t) (hg : Gl X x := by rfl) (hdb : (x == ("__debug__" : Str)) = false := by decide)
    (he : starEach (e :: es) X.env = (false, eval e X.env) :: starEach es X.env := by rfl) (hpl : (backTo pos (starEach es X.env)).any (·.1) = false := by rfl) :
    PE (X.suite a ((a, oe) :: pn)) (.Call (.Name x p) (e :: es) [] pos) (tCallS sp (WE fun _ _ _ _ => False) t) := by
  obtain ⟨fd, F, b⟩ := h.ex
  exact L2H.pe_callH (X := X.suite a ((a, oe) :: pn)) (CX := CX0) F (L2H.roomH_mark (hr.mono hj) _) (hot_of hz hf) hg h.gl h.kp b (fun σ _ _ _ _ _ _ no => False.elim no) ha hdb he hpl
/-- a statement that is never reached -/
theorem ps_dead {s : Stmt} : PS X s (fun _ _ _ => False) := ⟨fun _ _ _ _ _ _ no => False.elim no⟩
end
end Lw

set_option Elab.async false
set_option linter.all false
set_option maxRecDepth 100000
set_option maxHeartbeats 2000000
namespace Lw
open PySem PySem.Spec PyProof.Rows L2 He
/-! ### kinds of things -/
def kinds : List String := ["NoneType", "bool", "int", "str", "list", "tuple", "dict"]
def isTab (n T : String) : Bool := n == T || (n == "bool" && T == "int")
theorem isTab_ok : ∀ n ∈ kinds, ∀ T ∈ kinds, kitB n T = some (isTab n T) := by decide +kernel
/-- a thing of a kind -/
structure Th (K : PySem.W.Frag) (H : Hp) (x : V) (n : String) : Prop where
  t : TyX K H x (.type n)
  k : n ∈ kinds
abbrev Thg (K : PySem.W.Frag) (H : Hp) (x : V) : Prop := ∃ n, Th K H x n
theorem th_int {K : PySem.W.Frag} {H : Hp} (i : Int) : Th K H (.int i) "int" := ⟨.base (.int i), by decide⟩
theorem th_bl {K : PySem.W.Frag} {H : Hp} (b : Bool) : Th K H (.bl b) "bool" := ⟨.base (.bl b), by decide⟩
theorem th_non {K : PySem.W.Frag} {H : Hp} : Th K H .non "NoneType" := ⟨.base .non, by decide⟩
theorem th_str {K : PySem.W.Frag} {H : Hp} (x : Str) : Th K H (.str x) "str" := ⟨.base (.str x), by decide⟩
theorem th_lst {K : PySem.W.Frag} {H : Hp} {a : Addr} {xs : List V} (h : H a = some (.lst xs)) : Th K H (.ref a) "list" := ⟨.base (.lst h), by decide⟩
theorem th_tup {K : PySem.W.Frag} {H : Hp} {a : Addr} {xs : List V} (h : H a = some (.tup xs)) : Th K H (.ref a) "tuple" := ⟨.base (.tup h), by decide⟩
theorem th_dK {K : PySem.W.Frag} {H : Hp} {a : Addr} {xs : List (Key × V)} (h : H a = some (.dK xs)) : Th K H (.ref a) "dict" := ⟨.base (.dK h), by decide⟩
/-- a whole number from lo to hi -/
def wholeV (lo hi : Int) : V → Bool
  | .int i => decide (lo ≤ i) && decide (i ≤ hi)
  | _ => false
def rIsT (K : PySem.W.Frag) : List V → Hp → VK → Prop := fun xs H Q => ∃ (x : V) (T n : String), xs = [x, .ty T] ∧ Th K H x n ∧ T ∈ kinds ∧ Q (.bl (isTab n T)) H
section
variable {X : Cx}
theorem call_isT : CallR X (.builtin "isinstance") (rIsT X.K) := by
  intro pins s σ H xs us Q I r h
  obtain ⟨x, T, n, rfl, th, hT, q⟩ := h
  exact call_isi pins s σ H _ us Q I r ⟨x, .ty T, _, _, _, rfl, .ty T, th.t, kit_ty (isTab_ok n th.k T hT), q⟩
end
/-! ### readings, step by step -/
section
variable {K : PySem.W.Frag} {σ : L2.St} {H : Hp} {D : Ends} {Q : VK} {v x y z : V} {ta tb tc te : TE} {t u : TS} {c d : TT} {r r' : R2} {i : Nat} {a : Addr} {QB : Bool → Hp → Prop} {b : Bool}
theorem rd_seq (h : t { D with nx := u D } σ H) : tSeq t u D σ H := h
theorem rd_asg (h : te σ H fun x H1 => D.nx (σ.set i (some x)) H1) : tAsg te (gName i) D σ H := h
theorem rd_ret (h : te σ H D.rt) : tRet te D σ H := h
theorem rd_next (h : D.nx σ H) : tNext D σ H := h
theorem rd_drop (h : te σ H fun _ H1 => D.nx σ H1) : tDrop te D σ H := h
theorem rd_if (h : c σ H fun b H1 => (b = true → t D σ H1) ∧ (b = false → u D σ H1)) : tIfS c t u D σ H := by
  have e : (fun (b : Bool) (H1 : Hp) => if b = true then t D σ H1 else u D σ H1) = fun b H1 => (b = true → t D σ H1) ∧ (b = false → u D σ H1) := by
    funext b H1
    cases b
    · show (if false = true then t D σ H1 else u D σ H1) = _
      rw [if_neg Bool.false_ne_true]
      exact propext ⟨fun h => ⟨(fun z => nomatch z), fun _ => h⟩, fun h => h.2 rfl⟩
    · show (if true = true then t D σ H1 else u D σ H1) = _
      rw [if_pos rfl]
      exact propext ⟨fun h => ⟨fun _ => h, (fun z => nomatch z)⟩, fun h => h.1 rfl⟩
  show c σ H (fun b H1 => if b = true then t D σ H1 else u D σ H1)
  rw [e]
  exact h
theorem rd_ifE (h : c σ H fun b H1 => (b = true → ta σ H1 Q) ∧ (b = false → tb σ H1 Q)) : tIf c ta tb σ H Q := by
  have e : (fun (b : Bool) (H1 : Hp) => if b = true then ta σ H1 Q else tb σ H1 Q) = fun b H1 => (b = true → ta σ H1 Q) ∧ (b = false → tb σ H1 Q) := by
    funext b H1
    cases b
    · show (if false = true then _ else _) = _
      rw [if_neg Bool.false_ne_true]
      exact propext ⟨fun h => ⟨(fun z => nomatch z), fun _ => h⟩, fun h => h.2 rfl⟩
    · show (if true = true then _ else _) = _
      rw [if_pos rfl]
      exact propext ⟨fun h => ⟨fun _ => h, (fun z => nomatch z)⟩, fun h => h.1 rfl⟩
  show c σ H (fun b H1 => if b = true then ta σ H1 Q else tb σ H1 Q)
  rw [e]
  exact h
theorem rd_var (h : σ[i]? = some (some v)) (q : Q v H) : tVar i σ H Q := ⟨v, h, q⟩
theorem rd_c (q : Q v H) : tC v σ H Q := q
theorem rd_op (h : ta σ H fun x H1 => tb σ H1 fun y H2 => r x y H2 Q) : tOp r ta tb σ H Q := h
theorem rd_chain (h : ta σ H fun x H1 => tb σ H1 fun y H2 => r x y H2 fun z H3 => ∃ k, z = .bl k ∧ (k = true → tc σ H3 fun w H4 => r' y w H4 Q) ∧ (k = false → Q (.bl false) H3)) : tChain r r' ta tb tc σ H Q := by
  have e : ∀ (y : V), (fun (z : V) (H3 : Hp) => ∃ k, z = .bl k ∧ if k = true then tc σ H3 fun w H4 => r' y w H4 Q else Q (.bl false) H3) = fun z H3 => ∃ k, z = .bl k ∧ (k = true → tc σ H3 fun w H4 => r' y w H4 Q) ∧ (k = false → Q (.bl false) H3) := by
    intro y
    funext x H1
    refine propext ⟨fun ⟨k, e, h⟩ => ⟨k, e, ?_⟩, fun ⟨k, e, h⟩ => ⟨k, e, ?_⟩⟩
    · cases k
      · exact ⟨(fun z => nomatch z), fun _ => by rw [if_neg Bool.false_ne_true] at h; exact h⟩
      · exact ⟨fun _ => by rw [if_pos rfl] at h; exact h, (fun z => nomatch z)⟩
    · cases k
      · rw [if_neg Bool.false_ne_true]; exact h.2 rfl
      · rw [if_pos rfl]; exact h.1 rfl
  show ta σ H (fun x H1 => tb σ H1 fun y H2 => r x y H2 fun z H3 => ∃ k, z = .bl k ∧ (if k = true then tc σ H3 fun w H4 => r' y w H4 Q else Q (.bl false) H3))
  simp only [e]
  exact h
theorem rd_I0 {g : Int → Int → V} {m n : Int} (q : Q (g m n) H) : rI0 g (.int m) (.int n) H Q := ⟨m, n, rfl, rfl, q⟩
theorem rd_I {C : Int → Int → Prop} {g : Int → Int → V} {m n : Int} (hc : C m n) (q : Q (g m n) H) : rI C g (.int m) (.int n) H Q := ⟨m, n, rfl, rfl, hc, q⟩
theorem rd_test (h : te σ H fun x H1 => ∃ k, x = .bl k ∧ QB k H1) : tTest te σ H QB := h
theorem rd_B (h : te σ H fun x H1 => ∃ k, x = .bl k ∧ QB k H1) : tB te σ H QB := h
theorem rd_bl {P : Bool → Prop} (q : P b) : ∃ k, V.bl b = .bl k ∧ P k := ⟨b, rfl, q⟩
theorem rd_not (h : c σ H fun b H1 => QB (!b) H1) : tNot c σ H QB := h
theorem rd_and (h : c σ H fun b H1 => (b = true → d σ H1 QB) ∧ (b = false → QB false H1)) : tAnd c d σ H QB := by
  have e : (fun (b : Bool) (H1 : Hp) => if b = true then d σ H1 QB else QB false H1) = fun b H1 => (b = true → d σ H1 QB) ∧ (b = false → QB false H1) := by
    funext b H1
    cases b
    · show (if false = true then _ else _) = _
      rw [if_neg Bool.false_ne_true]
      exact propext ⟨fun h => ⟨(fun z => nomatch z), fun _ => h⟩, fun h => h.2 rfl⟩
    · show (if true = true then _ else _) = _
      rw [if_pos rfl]
      exact propext ⟨fun h => ⟨fun _ => h, (fun z => nomatch z)⟩, fun h => h.1 rfl⟩
  show c σ H (fun b H1 => if b = true then d σ H1 QB else QB false H1)
  rw [e]
  exact h
theorem rd_or (h : c σ H fun b H1 => (b = true → QB true H1) ∧ (b = false → d σ H1 QB)) : tOr c d σ H QB := by
  have e : (fun (b : Bool) (H1 : Hp) => if b = true then QB true H1 else d σ H1 QB) = fun b H1 => (b = true → QB true H1) ∧ (b = false → d σ H1 QB) := by
    funext b H1
    cases b
    · show (if false = true then _ else _) = _
      rw [if_neg Bool.false_ne_true]
      exact propext ⟨fun h => ⟨(fun z => nomatch z), fun _ => h⟩, fun h => h.2 rfl⟩
    · show (if true = true then _ else _) = _
      rw [if_pos rfl]
      exact propext ⟨fun h => ⟨fun _ => h, (fun z => nomatch z)⟩, fun h => h.1 rfl⟩
  show c σ H (fun b H1 => if b = true then QB true H1 else d σ H1 QB)
  rw [e]
  exact h
theorem rd_andV (h : ta σ H fun x H1 => ∃ k, x = .bl k ∧ (k = true → tb σ H1 Q) ∧ (k = false → Q (.bl false) H1)) : tAndV ta tb σ H Q := by
  have e : (fun (x : V) (H1 : Hp) => ∃ k, x = .bl k ∧ if k = true then tb σ H1 Q else Q (.bl false) H1) = fun x H1 => ∃ k, x = .bl k ∧ (k = true → tb σ H1 Q) ∧ (k = false → Q (.bl false) H1) := by
    funext x H1
    refine propext ⟨fun ⟨k, e, h⟩ => ⟨k, e, ?_⟩, fun ⟨k, e, h⟩ => ⟨k, e, ?_⟩⟩
    · cases k
      · exact ⟨(fun z => nomatch z), fun _ => by rw [if_neg Bool.false_ne_true] at h; exact h⟩
      · exact ⟨fun _ => by rw [if_pos rfl] at h; exact h, (fun z => nomatch z)⟩
    · cases k
      · rw [if_neg Bool.false_ne_true]; exact h.2 rfl
      · rw [if_pos rfl]; exact h.1 rfl
  show ta σ H (fun x H1 => ∃ k, x = .bl k ∧ if k = true then tb σ H1 Q else Q (.bl false) H1)
  rw [e]
  exact h
theorem rd_orV (h : ta σ H fun x H1 => ∃ k, x = .bl k ∧ (k = true → Q (.bl true) H1) ∧ (k = false → tb σ H1 Q)) : tOrV ta tb σ H Q := by
  have e : (fun (x : V) (H1 : Hp) => ∃ k, x = .bl k ∧ if k = true then Q (.bl true) H1 else tb σ H1 Q) = fun x H1 => ∃ k, x = .bl k ∧ (k = true → Q (.bl true) H1) ∧ (k = false → tb σ H1 Q) := by
    funext x H1
    refine propext ⟨fun ⟨k, e, h⟩ => ⟨k, e, ?_⟩, fun ⟨k, e, h⟩ => ⟨k, e, ?_⟩⟩
    · cases k
      · exact ⟨(fun z => nomatch z), fun _ => by rw [if_neg Bool.false_ne_true] at h; exact h⟩
      · exact ⟨fun _ => by rw [if_pos rfl] at h; exact h, (fun z => nomatch z)⟩
    · cases k
      · rw [if_neg Bool.false_ne_true]; exact h.2 rfl
      · rw [if_pos rfl]; exact h.1 rfl
  show ta σ H (fun x H1 => ∃ k, x = .bl k ∧ if k = true then Q (.bl true) H1 else tb σ H1 Q)
  rw [e]
  exact h
theorem rd_notV (h : ta σ H fun x H1 => ∃ k, x = .bl k ∧ Q (.bl (!k)) H1) : tNotV ta σ H Q := h
theorem rd_cons {tr : TA} {QA : List V → Hp → Prop} (h : ta σ H fun x H1 => tr σ H1 fun xs H2 => QA (x :: xs) H2) : tCons ta tr σ H QA := h
theorem rd_nil {QA : List V → Hp → Prop} (h : QA [] H) : tNil σ H QA := h
theorem rd_CB {rr : List V → Hp → VK → Prop} {tA : TA} (h : tA σ H fun vs H1 => rr vs H1 Q) : tCB rr tA σ H Q := h
theorem rd_callS {sp : Sp} {W : WX} {tA : TA} (h : tA σ H fun vs H1 => sp vs H1 Q (fun cls d H => W cls d σ H)) : tCallS sp (WE W) tA σ H Q := h
theorem rd_raise0 {n : Str} {W : WX} (h : W (.ref (ga K n)) none σ H) : tRaise0 K n W D σ H := h
theorem rd_raise1 {n f : Str} {W : WX} (h : te σ H fun v H1 => mk1 K n f W σ v H1) : tRaise1 K n f W te D σ H := h
theorem rd_raise2 {n f g : Str} {W : WX} (h : ta σ H fun v H1 => tb σ H1 fun w H2 => mk2 K n f g W σ v w H2) : tRaise2 K n f g W ta tb D σ H := h
theorem rd_isT {T n : String} (th : Th K H x n) (hT : T ∈ kinds) (q : Q (.bl (isTab n T)) H) : rIsT K [x, .ty T] H Q := ⟨x, T, n, rfl, th, hT, q⟩
theorem rd_eq (hs : scal x y = true) (q : Q (.bl (decide (x = y))) H) : rEq x y H Q := ⟨hs, q⟩
theorem rd_ne (hs : scal x y = true) (q : Q (.bl (!decide (x = y))) H) : rNe x y H Q := ⟨hs, q⟩
theorem rd_tup {tA : TA} (h : tA σ H fun xs H1 => xs.length ≤ sizeLine ∧ ∀ p, H1 p = none → Q (.ref p) (upd H1 p (.tup xs))) : tTup tA σ H Q := h
theorem rd_lst {tA : TA} (h : tA σ H fun xs H1 => xs.length ≤ sizeLine ∧ ∀ p, H1 p = none → Q (.ref p) (upd H1 p (.lst xs))) : tLst tA σ H Q := h
end
theorem whole_not {lo hi : Int} : ∀ {x : V}, (∀ i, x ≠ .int i) → wholeV lo hi x = false
  | .int i, h => absurd rfl (h i)
  | .non, _ => rfl
  | .bl _, _ => rfl
  | .str _, _ => rfl
  | .byt _, _ => rfl
  | .flt _, _ => rfl
  | .ref _, _ => rfl
  | .ty _, _ => rfl
theorem th_cases {K : PySem.W.Frag} {H : Hp} {x : V} {n : String} (th : Th K H x n) : (isTab n "int" = true ∧ isTab n "bool" = false ∧ ∃ i, x = .int i) ∨
    ((isTab n "int" = false ∨ isTab n "bool" = true) ∧ ∀ lo hi, wholeV lo hi x = false) := by
  obtain ⟨t, k⟩ := th
  have key : ∀ m ∈ kinds, m ≠ "int" → isTab m "int" = false ∨ isTab m "bool" = true := by decide
  by_cases e : n = "int"
  · subst e
    refine .inl ⟨by decide, by decide, ?_⟩
    generalize hz : (Value.type "int") = z at t
    cases t with
    | base h => cases h <;> first | exact ⟨_, rfl⟩ | exact absurd (Value.type.inj hz) (by decide) | cases hz
    | byt b => exact absurd (Value.type.inj hz) (by decide)
    | set e => exact absurd (Value.type.inj hz) (by decide)
    | kList e c => exact absurd (Value.type.inj hz) (by decide)
    | kTuple e c => exact absurd (Value.type.inj hz) (by decide)
    | kDict e c => exact absurd (Value.type.inj hz) (by decide)
    | fTuple e => exact absurd (Value.type.inj hz) (by decide)
    | fDict e => exact absurd (Value.type.inj hz) (by decide)
  · refine .inr ⟨key n k e, fun lo hi => whole_not fun i q => ?_⟩
    subst q
    generalize hz : (Value.type n) = z at t
    cases t with
    | base h =>
      cases h
      exact e (Value.type.inj hz)
end Lw

set_option Elab.async false
set_option linter.all false
set_option maxRecDepth 100000
set_option maxHeartbeats 2000000
namespace Lw
open PySem PySem.Spec PyProof.Rows L2 He
/-- the binary digits as signs -/
def binL (n : Nat) : List Nat := (Nat.toDigits 2 n).map fun c => c.toNat
def binS (n : Nat) : Str := ⟨(binL n).toArray⟩
def padL (ds : List Nat) : Nat := ((-1 : Int) - ((((0 : Nat) : Int)) + (((0 : Nat) : Int)) + (((0 : Nat) : Int))) - (ds.length : Int)).toNat
def fillL (digits : List Nat) : List Nat := if digits.isEmpty then [] else List.replicate ((0 : Int).toNat - digits.length) 48 ++ digits
def rawS (digits : List Nat) : Str := ⟨(List.replicate (padL (fillL digits)) 32 ++ [] ++ [] ++ List.replicate 0 32 ++ fillL digits ++ [] ++ List.replicate 0 32).toArray⟩
theorem raw_eq (digits : List Nat) : rawS digits = ⟨digits.toArray⟩ := by
  have e1 : fillL digits = digits := by
    unfold fillL
    cases digits with
    | nil => rfl
    | cons a l => simp
  have e2 : padL digits = 0 := by
    unfold padL
    omega
  unfold rawS
  rw [e1, e2]
  simp
theorem fmt_b (n : Nat) (t u : Tok) : Builtin.«int.__format__» ⟨[.int (n : Int) t, .str "b" u], []⟩ = (do let _kind ← typeNameOf (.str "b" u); (do let name ← typeNameOfCut 200 (.int (n : Int) t); retStr (rawS (binL n)))) := by kernel_rfl
theorem gives_int_b (n : Nat) (t u : Tok) : Gives (Builtin.«int.__format__» ⟨[.int (n : Int) t, .str "b" u], []⟩) (.str (binS n)) := by
  have e : binS n = rawS (binL n) := (raw_eq _).symm
  rw [e, fmt_b]
  intro prog w A R s hq
  refine wpAny_bind (wpAny_typeNameOf (typeIs_str _ _ _) (by decide) fun _ => ?_)
  refine wpAny_bind (wpAny_typeNameOfCut_int ?_)
  exact (Gives.of_eq (m := .str (rawS (binL n))) rfl) prog w A R s hq
def tFmtB (te : TE) : TE := fun σ H Q => te σ H fun x H1 => ∃ n : Nat, x = .int (n : Int) ∧ (binS n).length ≤ sizeLine ∧ Q (.str (binS n)) H1
section
variable {X : Cx} {e : Expr} {te : TE} {pos p2 p3 : Pos} {k : Nat}
theorem pe_fmtB (he : PE X e te) : PE X (.FormattedValue e (-1) (some (.JoinedStr [.Constant (.str "b") k p2] p3)) pos) (tFmtB te) := by
  refine ⟨fun pins s σ H Q I h => ?_⟩
  refine wpAny_FormattedValue_spec (thn (he.run pins s σ H _ I h) fun v s1 hv => ?_)
  obtain ⟨x, H1, I1, r1, n, rfl, hz, q⟩ := hv
  obtain ⟨t, rfl⟩ := r1
  refine wpAny_JoinedStr_one (thn ((pe_str (X := X) (x := "b")).run pins s1 σ H1 (fun v H2 => v = .str "b" ∧ H1 = H2) I1 ⟨rfl, rfl⟩) fun v s2 hv => ?_)
  obtain ⟨y, H2, I2, r2, ey, eH⟩ := hv
  subst ey eH
  obtain ⟨t2, rfl⟩ := r2
  refine ⟨_, _, rfl, ?_⟩
  exact wpAny_formatField_spec (by decide) (fun s' => typeIs_int s' _ _) PySem.F.slot_int_format PySem.F.entry_int_format PySem.F.args_int_format_2 (fun u => gives_int_b n t u) ⟨.str (binS n), H1, I2.tok _, ⟨_, rfl⟩, q⟩ (by size_fits) hz
end
/-- how many of the bits are 1 -/
def onesN (n : Nat) : Nat := (binL n).count 49
end Lw

set_option Elab.async false
set_option linter.all false
set_option maxRecDepth 100000
set_option maxHeartbeats 2000000
namespace Lw
open PySem PySem.Spec PyProof.Rows L2 He
theorem sub_one (x : Str) (c k : Nat) (hk : k < x.cps.toList.length) : Builtin.Str.subAt x ⟨#[c]⟩ k = (x.cps.toList[k] == c) := by
  rw [StrLaws.subAt_eq]
  show (List.take 1 (List.drop k x.cps.toList) == [c]) = _
  have e : List.drop k x.cps.toList = x.cps.toList[k] :: List.drop (k + 1) x.cps.toList := List.drop_eq_getElem_cons hk
  rw [e]
  simp
theorem occ_run (x : Str) (c : Nat) : ∀ (m k : Nat) (st : Array Nat × Nat), k + m = x.cps.toList.length → st.fst.size ≤ k → st.snd ≤ k →
    (forIn (List.range' k (m + 1)) st (StrLaws.occBody x ⟨#[c]⟩ x.length (x.length + 1))).run.fst.size = st.fst.size + (x.cps.toList.drop k).count c
  | 0, k, st, hk, h1, h2 => by
    have hl : x.length = x.cps.toList.length := by simp [Str.length]
    have e : x.cps.toList.drop k = [] := List.drop_eq_nil_of_le (by omega)
    have e1 : List.range' k (0 + 1) = [k] := rfl
    rw [e, e1, List.forIn_cons]
    unfold StrLaws.occBody
    rw [if_neg (fun z => by have := z.1.2; simp [Str.length] at this; simp at hk; omega)]
    simp
  | m + 1, k, st, hk, h1, h2 => by
    have hl : x.length = x.cps.toList.length := by simp [Str.length]
    have hlt : k < x.cps.toList.length := by omega
    have e1 : List.range' k (m + 1 + 1) = k :: List.range' (k + 1) (m + 1) := rfl
    have e : List.drop k x.cps.toList = x.cps.toList[k] :: List.drop (k + 1) x.cps.toList := List.drop_eq_getElem_cons hlt
    rw [e, e1, List.forIn_cons, List.count_cons]
    by_cases hc : (x.cps.toList[k] == c) = true
    · have hb : StrLaws.occBody x ⟨#[c]⟩ x.length (x.length + 1) k st = pure (ForInStep.yield (st.fst.push k, k + 1)) := by
        unfold StrLaws.occBody
        rw [if_pos ⟨⟨⟨by omega, h2⟩, by show k + 1 ≤ x.length; omega⟩, by rw [sub_one x c k hlt]; exact hc⟩]
        rfl
      rw [hb]
      have ih := occ_run x c m (k + 1) (st.fst.push k, k + 1) (by omega) (by simp; omega) (Nat.le_refl _)
      show (forIn (List.range' (k + 1) (m + 1)) (st.fst.push k, k + 1) (StrLaws.occBody x ⟨#[c]⟩ x.length (x.length + 1))).run.fst.size = _
      rw [ih, if_pos hc]
      simp
      omega
    · have hb : StrLaws.occBody x ⟨#[c]⟩ x.length (x.length + 1) k st = pure (ForInStep.yield (st.fst, st.snd)) := by
        unfold StrLaws.occBody
        rw [if_neg]
        rintro ⟨_, z⟩
        rw [sub_one x c k hlt] at z
        exact hc z
      rw [hb]
      have ih := occ_run x c m (k + 1) (st.fst, st.snd) (by omega) (by show st.fst.size ≤ k + 1; omega) (by show st.snd ≤ k + 1; omega)
      show (forIn (List.range' (k + 1) (m + 1)) (st.fst, st.snd) (StrLaws.occBody x ⟨#[c]⟩ x.length (x.length + 1))).run.fst.size = _
      rw [ih, if_neg hc]
      show st.fst.size + _ = st.fst.size + (_ + 0)
      omega
theorem count_one (x : Str) (c : Nat) : Txt.count x ⟨#[c]⟩ = ((x.cps.toList.count c : Nat) : Int) := by
  unfold Txt.count
  have hl : x.length = x.cps.toList.length := by simp [Str.length]
  have e := occ_run x c x.cps.toList.length 0 (#[], 0) (by omega) (Nat.zero_le _) (Nat.zero_le _)
  rw [StrLaws.occ_eq, Array.length_toList]
  have e2 : x.length + 1 - 0 = x.cps.toList.length + 1 := by omega
  rw [e2, e]
  simp
theorem count_bin (n : Nat) : Txt.count (binS n) "1" = ((onesN n : Nat) : Int) := by
  have e : ("1" : Str) = ⟨#[49]⟩ := by decide +kernel
  rw [e, count_one]
  rfl
theorem binL_len (n : Nat) {k : Nat} (hk : 0 < k) (h : n < 2 ^ k) : (binS n).length ≤ k := by
  show (binL n).toArray.size ≤ k
  unfold binL
  simp only [List.size_toArray, List.length_map]
  exact (Nat.length_toDigits_le_iff (by decide) hk).mpr h
end Lw

set_option Elab.async false
set_option linter.all false
set_option maxRecDepth 100000
set_option maxHeartbeats 2000000
namespace Lw
open PySem PySem.Spec PyProof.Rows L2 He Evl
section
variable {K : PySem.W.Frag} {σ : L2.St} {H : Hp} {D : Ends} {Q : VK} {v x y z : V} {ta tb tc te : TE} {t u : TS} {c d : TT} {r r' : R2} {i : Nat} {a : Addr} {QB : Bool → Hp → Prop} {b : Bool}
theorem rd_fmtB (h : te σ H fun x H1 => ∃ n : Nat, x = .int (n : Int) ∧ (binS n).length ≤ sizeLine ∧ Q (.str (binS n)) H1) : tFmtB te σ H Q := h
theorem rd_M1 {rr : V → List V → Hp → VK → Prop} (h : ta σ H fun x H1 => (∃ a, x = .str a) ∧ te σ H1 fun y H2 => rr x [y] H2 Q) : tM1 rr ta te σ H Q := h
theorem rd_un {rr : V → Hp → VK → Prop} (h : ta σ H fun x H1 => rr x H1 Q) : tUn rr ta σ H Q := h
/-- the heap behind is the heap ahead and more -/
theorem ex_upd {H : Hp} {p : Addr} {o : HO} (h : H p = none) : Ex H (upd H p o) := Ex.new h
/-- a comprehension over range(n), its steps seen from the heap ahead of it -/
theorem lc_rng {n : Nat} {j : Nat} {vs : List Nat} {tt : TT} (f : Nat → Bool) (g : Nat → V) (hn : n ≤ 40000) (hw : ∀ x, wipe ((wipe σ vs).set j (some x)) vs = wipe σ vs)
    (ht : ∀ (i : Nat) H1, Ex H H1 → i < n → EvT tt ((wipe σ vs).set j (some (.int (i : Int)))) H1 (f i)) (he : ∀ (i : Nat) H1, Ex H H1 → i < n → f i = true → Ev te ((wipe σ vs).set j (some (.int (i : Int)))) H1 (g i))
    (q : ∀ p H', H p = none → Ex H H' → H' p = some (.lst (given n f g)) → Q (.ref p) H') : tLc (iRng1 (tCons (tC (.int (n : Int))) tNil)) (gName j) tt te vs σ H Q := by
  have e := el_lcR1 (σ := σ) (H := H) (ta := tCons (tC (.int (n : Int))) tNil) (j := j) (vs := vs) (n := (n : Int)) (t := tt) (te := te) f g (ea_cons ev_c ea_nil) ⟨by omega, by omega⟩ hw
    (fun i H1 e hi => ht i H1 e (by omega)) (fun i H1 e hi hf => he i H1 e (by omega) hf)
  have en : ((n : Int)).toNat = n := by simp
  rw [en] at e
  exact e H (Ex.refl H) Q fun p H2 hp e2 h2 => q p H2 hp e2 h2
theorem lc_tupT {Qd : Addr → Hp → Prop} {xs : List V} {j : Nat} {vs : List Nat} {tt : TT} (f : Nat → Bool) (g : Nat → V) (hx : SqT K H a xs) (hz : xs.length ≤ 40000) (hw : ∀ x, wipe ((wipe σ vs).set j (some x)) vs = wipe σ vs)
    (ht : ∀ (i : Nat) (x : V) H1, Ex H H1 → xs[i]? = some x → EvT tt ((wipe σ vs).set j (some x)) H1 (f i)) (he : ∀ (i : Nat) (x : V) H1, Ex H H1 → xs[i]? = some x → f i = true → Ev te ((wipe σ vs).set j (some x)) H1 (g i))
    (q : ∀ p H', H p = none → Ex H H' → H' p = some (.lst (given xs.length f g)) → Qd p H') :
    ∀ D, H D = none → ∃ W : Nat → Nat → Hp → Prop, (∃ m, W 0 m (upd H D (.lst []))) ∧ ∀ i m H, W i m H → ((Itt K a).stop i H ∧ Qd D H) ∨ ((Itt K a).go i H ∧ ∃ Nx : Hp → Prop, (∀ H', Nx H' → ∃ m', m' < m ∧ W (i + 1) m' H') ∧
      ∀ x H', (Itt K a).yld i H x H' → gName j x (wipe σ vs) H' fun σ2 H2 => wipe σ2 vs = wipe σ vs ∧ tt σ2 H2 fun b H3 => if b = true then te σ2 H3 fun y H4 => ∃ acc, H4 D = some (.lst acc) ∧ acc.length < sizeLine ∧ Nx (upd H4 D (.lst (acc ++ [y]))) else Nx H3) := fun Dl hD =>
  lc_tup (xs := xs) (Cw H f g Dl) ⟨hD, Ex.new hD, upd_same⟩ (fun i H' _ p => ex_t p.2.1 hx) (fun i x H' hi p => ⟨hw x, cw_turn p (by have := (List.getElem?_eq_some_iff.mp hi).1; omega) (ht i x H (Ex.refl H) hi) (fun hf => he i x H (Ex.refl H) hi hf)⟩)
    (fun H' p => q Dl H' p.1 p.2.1 p.2.2)
theorem lc_rngT {Qd : Addr → Hp → Prop} {lo : Int} {n j : Nat} {vs : List Nat} {tt : TT} (f : Nat → Bool) (g : Nat → V) (hz : n ≤ 40000) (hw : ∀ x, wipe ((wipe σ vs).set j (some x)) vs = wipe σ vs)
    (ht : ∀ (i : Nat) H1, Ex H H1 → i < n → EvT tt ((wipe σ vs).set j (some (.int (lo + (i : Int))))) H1 (f i)) (he : ∀ (i : Nat) H1, Ex H H1 → i < n → f i = true → Ev te ((wipe σ vs).set j (some (.int (lo + (i : Int))))) H1 (g i))
    (q : ∀ p H', H p = none → Ex H H' → H' p = some (.lst (given n f g)) → Qd p H') :
    ∀ D, H D = none → ∃ W : Nat → Nat → Hp → Prop, (∃ m, W 0 m (upd H D (.lst []))) ∧ ∀ i m H, W i m H → ((Itr lo n).stop i H ∧ Qd D H) ∨ ((Itr lo n).go i H ∧ ∃ Nx : Hp → Prop, (∀ H', Nx H' → ∃ m', m' < m ∧ W (i + 1) m' H') ∧
      ∀ x H', (Itr lo n).yld i H x H' → gName j x (wipe σ vs) H' fun σ2 H2 => wipe σ2 vs = wipe σ vs ∧ tt σ2 H2 fun b H3 => if b = true then te σ2 H3 fun y H4 => ∃ acc, H4 D = some (.lst acc) ∧ acc.length < sizeLine ∧ Nx (upd H4 D (.lst (acc ++ [y]))) else Nx H3) := fun Dl hD =>
  lc_range (lo := lo) (n := n) (Cw H f g Dl) ⟨hD, Ex.new hD, upd_same⟩ (fun i H' hi p => ⟨hw _, cw_turn p (by omega) (ht i H (Ex.refl H) hi) (fun hf => he i H (Ex.refl H) hi hf)⟩)
    (fun H' p => q Dl H' p.1 p.2.1 p.2.2)
theorem lc_rng0 {Qd : Addr → Hp → Prop} {n j : Nat} {vs : List Nat} {tt : TT} (f : Nat → Bool) (g : Nat → V) (hz : n ≤ 40000) (hw : ∀ x, wipe ((wipe σ vs).set j (some x)) vs = wipe σ vs)
    (ht : ∀ (i : Nat) H1, Ex H H1 → i < n → EvT tt ((wipe σ vs).set j (some (.int (i : Int)))) H1 (f i)) (he : ∀ (i : Nat) H1, Ex H H1 → i < n → f i = true → Ev te ((wipe σ vs).set j (some (.int (i : Int)))) H1 (g i))
    (q : ∀ p H', H p = none → Ex H H' → H' p = some (.lst (given n f g)) → Qd p H') :
    ∀ D, H D = none → ∃ W : Nat → Nat → Hp → Prop, (∃ m, W 0 m (upd H D (.lst []))) ∧ ∀ i m H, W i m H → ((Itr 0 n).stop i H ∧ Qd D H) ∨ ((Itr 0 n).go i H ∧ ∃ Nx : Hp → Prop, (∀ H', Nx H' → ∃ m', m' < m ∧ W (i + 1) m' H') ∧
      ∀ x H', (Itr 0 n).yld i H x H' → gName j x (wipe σ vs) H' fun σ2 H2 => wipe σ2 vs = wipe σ vs ∧ tt σ2 H2 fun b H3 => if b = true then te σ2 H3 fun y H4 => ∃ acc, H4 D = some (.lst acc) ∧ acc.length < sizeLine ∧ Nx (upd H4 D (.lst (acc ++ [y]))) else Nx H3) :=
  lc_rngT (lo := 0) f g hz hw (fun i H1 e hi => by rw [Int.zero_add]; exact ht i H1 e hi) (fun i H1 e hi hf => by rw [Int.zero_add]; exact he i H1 e hi hf) q
theorem lc_lstT {Qd : Addr → Hp → Prop} {xs : List V} {j : Nat} {vs : List Nat} {tt : TT} (f : Nat → Bool) (g : Nat → V) (hx : SqL K H a xs) (hz : xs.length ≤ 40000) (hw : ∀ x, wipe ((wipe σ vs).set j (some x)) vs = wipe σ vs)
    (ht : ∀ (i : Nat) (x : V) H1, Ex H H1 → xs[i]? = some x → EvT tt ((wipe σ vs).set j (some x)) H1 (f i)) (he : ∀ (i : Nat) (x : V) H1, Ex H H1 → xs[i]? = some x → f i = true → Ev te ((wipe σ vs).set j (some x)) H1 (g i))
    (q : ∀ p H', H p = none → Ex H H' → H' p = some (.lst (given xs.length f g)) → Qd p H') :
    ∀ D, H D = none → ∃ W : Nat → Nat → Hp → Prop, (∃ m, W 0 m (upd H D (.lst []))) ∧ ∀ i m H, W i m H → ((Itl K a).stop i H ∧ Qd D H) ∨ ((Itl K a).go i H ∧ ∃ Nx : Hp → Prop, (∀ H', Nx H' → ∃ m', m' < m ∧ W (i + 1) m' H') ∧
      ∀ x H', (Itl K a).yld i H x H' → gName j x (wipe σ vs) H' fun σ2 H2 => wipe σ2 vs = wipe σ vs ∧ tt σ2 H2 fun b H3 => if b = true then te σ2 H3 fun y H4 => ∃ acc, H4 D = some (.lst acc) ∧ acc.length < sizeLine ∧ Nx (upd H4 D (.lst (acc ++ [y]))) else Nx H3) := fun Dl hD =>
  lc_list (xs := xs) (Cw H f g Dl) ⟨hD, Ex.new hD, upd_same⟩ (fun i H' _ p => ex_l p.2.1 hx) (fun i x H' hi p => ⟨hw x, cw_turn p (by have := (List.getElem?_eq_some_iff.mp hi).1; omega) (ht i x H (Ex.refl H) hi) (fun hf => he i x H (Ex.refl H) hi hf)⟩)
    (fun H' p => q Dl H' p.1 p.2.1 p.2.2)
theorem rd_lc {wi : TI} {g : TG} {tt : TT} {vs : List Nat} (h : wi σ H fun J H1 => ∀ D, H1 D = none → ∃ W : Nat → Nat → Hp → Prop, (∃ m, W 0 m (upd H1 D (.lst []))) ∧ ∀ i m H, W i m H →
  (J.stop i H ∧ Q (.ref D) H) ∨ (J.go i H ∧ ∃ Nx : Hp → Prop, (∀ H', Nx H' → ∃ m', m' < m ∧ W (i + 1) m' H') ∧ ∀ x H', J.yld i H x H' → g x (wipe σ vs) H' fun σ2 H2 => wipe σ2 vs = wipe σ vs ∧ tt σ2 H2 fun b H3 =>
    if b = true then te σ2 H3 fun y H4 => ∃ acc, H4 D = some (.lst acc) ∧ acc.length < sizeLine ∧ Nx (upd H4 D (.lst (acc ++ [y]))) else Nx H3)) : tLc wi g tt te vs σ H Q := h
theorem rd_iT {tl : TE} {R : It → Hp → Prop} (h : tl σ H fun x H1 => ∃ a, x = .ref a ∧ (∃ xs, SqT K H1 a xs) ∧ R (Itt K a) H1) : iTup K tl σ H R := h
theorem rd_iL {tl : TE} {R : It → Hp → Prop} (h : tl σ H fun x H1 => ∃ a, x = .ref a ∧ (∃ xs, SqL K H1 a xs) ∧ R (Itl K a) H1) : iList K tl σ H R := h
theorem rd_iR1 {tA : TA} {R : It → Hp → Prop} (h : tA σ H fun vs H1 => ∃ j : Int, vs = [.int j] ∧ -(2 ^ 62) ≤ j ∧ j < 2 ^ 62 ∧ R (Itr 0 j.toNat) H1) : iRng1 tA σ H R := h
theorem rd_iR2 {tA : TA} {R : It → Hp → Prop} (h : tA σ H fun vs H1 => ∃ i j : Int, vs = [.int i, .int j] ∧ (-(2 ^ 62) ≤ i ∧ i < 2 ^ 62 ∧ -(2 ^ 62) ≤ j ∧ j < 2 ^ 62) ∧ R (Itr i (j - i).toNat) H1) : iRng2 tA σ H R := h
theorem given_map {n : Nat} {g : Nat → V} : given n (fun _ => true) g = (List.range n).map g := by
  unfold given
  rw [List.filter_eq_self.mpr (fun _ _ => rfl)]
end
end Lw

set_option Elab.async false
set_option linter.all false
set_option maxRecDepth 100000
set_option maxHeartbeats 2000000
namespace Lw
open PySem PySem.Spec PyProof.Rows L2 He Evl StX
section
variable {X : Cx} {K : PySem.W.Frag}
theorem kx_list (h : X.K = K) : IxR X (rIxL K) := h ▸ ix_list
theorem kx_tup (h : X.K = K) : IxR X (rIxT K) := h ▸ ix_tup
theorem kx_seq (h : X.K = K) : IxR X (rIx K) := h ▸ ix_seq
def rLenK (K : PySem.W.Frag) : List V → Hp → VK → Prop := fun xs H Q => ∃ p ys, xs = [.ref p] ∧ (SqL K H p ys ∨ SqT K H p ys) ∧ Q (.int ys.length) H
def rListK (K : PySem.W.Frag) : List V → Hp → VK → Prop := fun xs H Q => ∃ p ys, xs = [.ref p] ∧ (SqL K H p ys ∨ SqT K H p ys) ∧ ∀ l, H l = none → Q (.ref l) (upd H l (.lst ys))
def rTupK (K : PySem.W.Frag) : List V → Hp → VK → Prop := fun xs H Q => ∃ p ys, xs = [.ref p] ∧ ((SqL K H p ys ∧ ∀ l, H l = none → Q (.ref l) (upd H l (.tup ys))) ∨ (SqT K H p ys ∧ Q (.ref p) H))
theorem kc_len (h : X.K = K) : CallR X (.builtin "len") (rLenK K) := h ▸ call_len_seq
theorem kc_list (h : X.K = K) : CallR X (.type "list") (rListK K) := h ▸ call_list_of
theorem kc_tup (h : X.K = K) : CallR X (.type "tuple") (rTupK K) := h ▸ call_tuple_of
theorem kc_isT (h : X.K = K) : CallR X (.builtin "isinstance") (rIsT K) := h ▸ call_isT
theorem kc_sum (hc : X.calm = true) (h : X.K = K) : CallR X (.builtin "sum") (rSum K) := h ▸ cr_sum hc
theorem kc_all (hc : X.calm = true) (h : X.K = K) : CallR X (.builtin "all") (rAll K) := h ▸ cr_all hc
theorem kc_any (hc : X.calm = true) (h : X.K = K) : CallR X (.builtin "any") (rAny K) := h ▸ cr_any hc
theorem kc_sorted (h : X.K = K) : CallR X (.builtin "sorted") (rSortedI K) := h ▸ cr_sortedI
theorem ko_in (h : X.K = K) : OpR X (compareOp .In) (rIn K false) := h ▸ op_in_seq
theorem ko_notIn (h : X.K = K) : OpR X (compareOp .NotIn) (rIn K true) := h ▸ op_notIn_seq
theorem ko_eqD {k : Nat} (hr : Room k X.A) (h : X.K = K) : OpR X (compareOp .Eq) (rEqD K) := h ▸ op_eqD hr.units
theorem ko_neD {k : Nat} (hr : Room k X.A) (h : X.K = K) : OpR X (compareOp .NotEq) (rNeD K) := h ▸ op_neD hr.units
theorem ks_list (h : X.K = K) : L2.SlR X (rSlL K) := h ▸ sl_list
theorem ks_tup (h : X.K = K) : L2.SlR X (rSlT K) := h ▸ sl_tup
def tTr (K : PySem.W.Frag) (ta : TE) : TT := fun σ H Q => ta σ H fun x H' => ∃ k, TruV K x H' k ∧ Q k H'
theorem kt_truth {a : Expr} {ta : TE} (h : X.K = K) (ha : PE X a ta) (he : ∀ whole, isTrue a X.env whole = (do let v ← whole; standAt a.pos; holding [v] (truthy v))) : PT X a (tTr K ta) := h ▸ pt_truth ha he
theorem ki_list {tg l : Expr} {tl : TE} (h : X.K = K) (hl : PE X l tl) : PI X tg l (iList K tl) := h ▸ pi_list hl
theorem ki_tup {tg l : Expr} {tl : TE} (h : X.K = K) (hl : PE X l tl) : PI X tg l (iTup K tl) := h ▸ pi_tup hl
theorem ka_star {e : Expr} {es : List Expr} {te : TE} {t : TA} {p : Pos} (h : X.K = K) (he : PE X e te) (hr : PA X es t) (hs : starEach (.Starred e p :: es) X.env = (true, eval e X.env) :: starEach es X.env := by rfl) : PA X (.Starred e p :: es) (tStar K te t) := h ▸ pa_star he hr hs
end
section
variable {K : PySem.W.Frag} {σ : L2.St} {H : Hp} {D : Ends} {Q : VK} {v x y z : V} {ta tb tc te : TE} {a : Addr} {QB : Bool → Hp → Prop} {b : Bool}
theorem rd_tr (h : ta σ H fun x H' => ∃ k, TruV K x H' k ∧ QB k H') : tTr K ta σ H QB := h
theorem rd_trI {i : Int} {P : Bool → Prop} (q : P (i != 0)) : ∃ k, TruV K (.int i) H k ∧ P k := ⟨_, rfl, q⟩
theorem rd_star {tA : TA} {QA : List V → Hp → Prop} (h : te σ H fun x H1 => ∃ p xs, x = V.ref p ∧ (SqT K H1 p xs ∨ SqL K H1 p xs) ∧ tA σ H1 fun ys H2 => QA (xs ++ ys) H2) : tStar K te tA σ H QA := h
end
/-! ### sorted ints -/
def ins (x : Int) : List Int → List Int
  | [] => [x]
  | y :: r => if x ≤ y then x :: y :: r else y :: ins x r
def isort : List Int → List Int
  | [] => []
  | x :: r => ins x (isort r)
theorem ins_perm (x : Int) : ∀ l, (ins x l).Perm (x :: l)
  | [] => .refl _
  | y :: r => by
    unfold ins
    split
    · exact .refl _
    · exact ((ins_perm x r).cons y).trans (.swap x y r)
theorem isort_perm : ∀ l, (isort l).Perm l
  | [] => .refl _
  | x :: r => (ins_perm x (isort r)).trans ((isort_perm r).cons x)
theorem ins_sorted (x : Int) : ∀ l, l.Pairwise (· ≤ ·) → (ins x l).Pairwise (· ≤ ·)
  | [], _ => .cons (fun _ h => nomatch h) .nil
  | y :: r, h => by
    unfold ins
    cases h with
    | cons h1 h2 =>
      split
      · rename_i c
        exact .cons (fun z hz => by
          rcases List.mem_cons.mp hz with rfl | hz
          · exact c
          · exact Int.le_trans c (h1 z hz)) (.cons h1 h2)
      · rename_i c
        refine .cons (fun z hz => ?_) (ins_sorted x r h2)
        rcases List.mem_cons.mp ((ins_perm x r).mem_iff.mp hz) with rfl | hz
        · omega
        · exact h1 z hz
theorem isort_sorted : ∀ l, (isort l).Pairwise (· ≤ ·)
  | [] => .nil
  | x :: r => ins_sorted x _ (isort_sorted r)
theorem sorted_eq : ∀ {a b : List Int}, a.Perm b → a.Pairwise (· ≤ ·) → b.Pairwise (· ≤ ·) → a = b
  | [], b, p, _, _ => (List.nil_perm.mp p).symm
  | x :: a, [], p, _, _ => absurd p.length_eq (by simp)
  | x :: a, y :: b, p, ha, hb => by
    cases ha with
    | cons ha1 ha2 => cases hb with
      | cons hb1 hb2 =>
        have e : x = y := by
          have h1 : x ∈ y :: b := p.mem_iff.mp List.mem_cons_self
          have h2 : y ∈ x :: a := p.mem_iff.mpr List.mem_cons_self
          have l1 : y ≤ x := by
            rcases List.mem_cons.mp h1 with z | z
            · omega
            · exact hb1 x z
          have l2 : x ≤ y := by
            rcases List.mem_cons.mp h2 with z | z
            · omega
            · exact ha1 y z
          omega
        subst e
        rw [sorted_eq ((List.perm_cons x).mp p) ha2 hb2]
theorem isort_eq {a b : List Int} (p : a.Perm b) (h : a.Pairwise (· ≤ ·)) : a = isort b := sorted_eq (p.trans (isort_perm b).symm) h (isort_sorted b)
theorem rd_sorted {K : PySem.W.Frag} {H : Hp} {Q : VK} {a : Addr} {ns : List Int} (h : SqL K H a (ns.map V.int)) (q : ∀ p, H p = none → Q (.ref p) (upd H p (.lst ((isort ns).map V.int)))) : rSortedI K [.ref a] H Q :=
  ⟨a, ns, rfl, h, fun ns' p hp hs hn => by rw [isort_eq hp hs]; exact q p hn⟩
theorem map_int {l : List Nat} {f : Nat → Int} : (l.map fun n => V.int (f n)) = (l.map f).map V.int := by rw [List.map_map]; rfl
/-! ### bits of numbers from 0 -/
theorem and_nat (a b : Nat) : Builtin.bitAnd (a : Int) (b : Int) = ((a &&& b : Nat) : Int) := by
  unfold Builtin.bitAnd
  rw [decide_eq_true (by omega), decide_eq_true (by omega)]
  simp
theorem or_nat (a b : Nat) : Builtin.bitOr (a : Int) (b : Int) = ((a ||| b : Nat) : Int) := by
  rw [bitOr_nn (by omega) (by omega)]
  simp
theorem xor_nat (a b : Nat) : Builtin.bitXor (a : Int) (b : Int) = ((a ^^^ b : Nat) : Int) := by
  rw [Bits.bitXor_pp (by omega) (by omega)]
  simp
theorem shr_nat (a k : Nat) : (a : Int) / 2 ^ ((k : Int)).toNat = ((a / 2 ^ k : Nat) : Int) := by
  rw [Int.toNat_natCast, Int.natCast_ediv, Int.natCast_pow]
  rfl
theorem shl_nat (a k : Nat) : (a : Int) * 2 ^ ((k : Int)).toNat = ((a * 2 ^ k : Nat) : Int) := by
  rw [Int.toNat_natCast, Int.natCast_mul, Int.natCast_pow]
  rfl
def rNN (f : Nat → Nat → Nat) : R2 := fun x y H Q => ∃ a b : Nat, x = .int (a : Int) ∧ y = .int (b : Int) ∧ Q (.int ((f a b : Nat) : Int)) H
def rShlN : R2 := fun x y H Q => ∃ a k : Nat, x = .int (a : Int) ∧ y = .int (k : Int) ∧ (a < 2 ^ 1000 ∧ k ≤ 1000) ∧ Q (.int ((a * 2 ^ k : Nat) : Int)) H
section
variable {X : Cx}
theorem on_and : OpR X (binaryOp .BitAnd) (rNN (· &&& ·)) := by
  intro pins s σ H x y v u Q I rx ry h
  obtain ⟨a, b, rfl, rfl, q⟩ := h
  refine op_and pins s σ H _ _ v u Q I rx ry ⟨_, _, rfl, rfl, ?_⟩
  show Q (.int (Builtin.bitAnd (a : Int) (b : Int))) H
  rw [and_nat]
  exact q
theorem on_or : OpR X (binaryOp .BitOr) (rNN (· ||| ·)) := by
  intro pins s σ H x y v u Q I rx ry h
  obtain ⟨a, b, rfl, rfl, q⟩ := h
  refine op_or pins s σ H _ _ v u Q I rx ry ⟨_, _, rfl, rfl, ?_⟩
  show Q (.int (Builtin.bitOr (a : Int) (b : Int))) H
  rw [or_nat]
  exact q
theorem on_xor : OpR X (binaryOp .BitXor) (rNN (· ^^^ ·)) := by
  intro pins s σ H x y v u Q I rx ry h
  obtain ⟨a, b, rfl, rfl, q⟩ := h
  refine op_xor pins s σ H _ _ v u Q I rx ry ⟨_, _, rfl, rfl, ?_⟩
  show Q (.int (Builtin.bitXor (a : Int) (b : Int))) H
  rw [xor_nat]
  exact q
theorem on_shr : OpR X (binaryOp .RShift) (rNN fun a k => a / 2 ^ k) := by
  intro pins s σ H x y v u Q I rx ry h
  obtain ⟨a, b, rfl, rfl, q⟩ := h
  refine op_shr pins s σ H _ _ v u Q I rx ry ⟨_, _, rfl, rfl, by omega, ?_⟩
  show Q (.int ((a : Int) / 2 ^ ((b : Int)).toNat)) H
  rw [shr_nat]
  exact q
theorem on_shl : OpR X (binaryOp .LShift) rShlN := by
  intro pins s σ H x y v u Q I rx ry h
  obtain ⟨a, k, rfl, rfl, ⟨h1, h2⟩, q⟩ := h
  refine op_shlW pins s σ H _ _ v u Q I rx ry ⟨_, _, rfl, rfl, shl_ok (n := 1000) (by simpa using h1) (by omega), ?_⟩
  show Q (.int ((a : Int) * 2 ^ ((k : Int)).toNat)) H
  rw [shl_nat]
  exact q
end
section
variable {H : Hp} {Q : VK} {f : Nat → Nat → Nat} {a b : Nat}
theorem rd_NN (q : Q (.int ((f a b : Nat) : Int)) H) : rNN f (.int (a : Int)) (.int (b : Int)) H Q := ⟨a, b, rfl, rfl, q⟩
theorem rd_NL (q : Q (.int ((f a b : Nat) : Int)) H) : rNN f (.int (a : Int)) (.int (OfNat.ofNat b)) H Q := ⟨a, b, rfl, rfl, q⟩
theorem rd_LN (q : Q (.int ((f a b : Nat) : Int)) H) : rNN f (.int (OfNat.ofNat a)) (.int (b : Int)) H Q := ⟨a, b, rfl, rfl, q⟩
theorem rd_shl1 (h : b ≤ 1000) (q : Q (.int ((2 ^ b : Nat) : Int)) H) : rShlN (.int 1) (.int (b : Int)) H Q := ⟨1, b, rfl, rfl, ⟨by decide +kernel, h⟩, by rw [Nat.one_mul]; exact q⟩
theorem rd_shlN (h1 : a < 2 ^ 1000) (h : b ≤ 1000) (q : Q (.int ((a * 2 ^ b : Nat) : Int)) H) : rShlN (.int (a : Int)) (.int (b : Int)) H Q := ⟨a, b, rfl, rfl, ⟨h1, h⟩, q⟩
end
theorem bne_cast (a : Nat) : (((a : Nat) : Int) != 0) = (a != 0) := by
  cases a with
  | zero => rfl
  | succ n => rfl
section
variable {K : PySem.W.Frag} {σ : L2.St} {H : Hp} {D : Ends} {g : TG} {tb : TS} {t : TA}
theorem rd_for {wi : TI} (h : wi σ H fun J H1 => ∃ W : Nat → Nat → L2.St → Hp → Prop, (∃ m, W 0 m σ H1) ∧ ∀ i m σ H, W i m σ H →
  ((J.stop i H ∧ D.nx σ H) ∨ (J.go i H ∧ ∃ N : L2.St → Hp → Prop, (∀ σ' H', N σ' H' → ∃ m', m' < m ∧ W (i + 1) m' σ' H') ∧ ∀ x H', J.yld i H x H' → g x σ H' fun σ2 H2 => tb { D with nx := N, ct := N, bk := D.nx } σ2 H2))) : tFor wi g tb D σ H := h
theorem rd_iRev {tr : L2.St → Hp → (Int → Int → Hp → Prop) → Prop} {R : It → Hp → Prop} (h : tr σ H fun a b H1 => -(2 ^ 62) ≤ a ∧ a < 2 ^ 62 ∧ -(2 ^ 62) ≤ b ∧ b < 2 ^ 62 ∧ R (Itc (a + (((b - a).toNat : Nat) : Int) - 1) (-1) (b - a).toNat) H1) : iRevR tr σ H R := h
theorem rd_gname {i : Nat} {v : V} {Q : L2.St → Hp → Prop} (q : Q (σ.set i (some v)) H) : gName i v σ H Q := q
end
theorem rd_Rg1 {σ : L2.St} {H : Hp} {ta : TE} {Q : Int → Int → Hp → Prop} (h : ta σ H fun x H1 => ∃ n, x = .int n ∧ Q 0 n H1) : tRg1 ta σ H Q := h
end Lw

set_option Elab.async false
set_option linter.all false
set_option maxRecDepth 100000
set_option maxHeartbeats 2000000
namespace Lw
open PySem PySem.Spec PyProof.Rows L2 He Evl StX
section
variable {K : PySem.W.Frag} {σ : L2.St} {B : Hp} {te : TE} {a : Addr}
/-- a list is being filled at Dl: acc so far; all else as in B, and more -/
def Fill (B : Hp) (Dl : Addr) (acc : List V) (H' : Hp) : Prop := B Dl = none ∧ Ex B H' ∧ H' Dl = some (.lst acc)
theorem given_succ {n : Nat} {f : Nat → Bool} {g : Nat → V} : given (n + 1) f g = given n f g ++ (if f n = true then [g n] else []) := by
  cases h : f n with
  | true => rw [given_yes h, if_pos rfl]
  | false => rw [given_no h, if_neg (by decide), List.append_nil]
theorem fill_turn {acc : List V} {Dl : Addr} {H' : Hp} {σ3 : L2.St} {n k : Nat} {tt1 : TT} {f : Nat → Bool} {g : Nat → V} (hz : acc.length + n ≤ 40000) (hk : k < n) (p : Fill B Dl (acc ++ given k f g) H')
    (ht : EvT tt1 σ3 B (f k)) (he : f k = true → Ev te σ3 B (g k)) :
    tt1 σ3 H' fun b H6 => if b = true then te σ3 H6 fun y H7 => ∃ acc', H7 Dl = some (.lst acc') ∧ acc'.length < sizeLine ∧ Fill B Dl (acc ++ given (k + 1) f g) (upd H7 Dl (.lst (acc' ++ [y]))) else Fill B Dl (acc ++ given (k + 1) f g) H6 := by
  obtain ⟨p1, p2, p3⟩ := p
  refine ht H' p2 _ fun H6 e6 => ?_
  have hl := given_len k f g
  cases hf : f k with
  | true =>
    show te σ3 H6 _
    refine he hf H6 (p2.trans e6) _ fun H7 e7 => ⟨acc ++ given k f g, e7 Dl _ (e6 Dl _ p3), sz_lt (by rw [List.length_append]; omega), p1, Ex.mut ((p2.trans e6).trans e7) p1, ?_⟩
    rw [upd_same, given_yes hf, List.append_assoc]
  | false =>
    show Fill B Dl (acc ++ given (k + 1) f g) H6
    refine ⟨p1, p2.trans e6, ?_⟩
    rw [given_no hf]
    exact e6 Dl _ p3
/-- the inner walk over a range -/
theorem inner_rng {acc : List V} {Dl : Addr} {H' : Hp} {σ2 : L2.St} {n j : Nat} {vs1 : List Nat} {tt1 : TT} (f : Nat → Bool) (g : Nat → V) (hz : acc.length + n ≤ 40000) (hw : ∀ x, wipe ((wipe σ2 vs1).set j (some x)) vs1 = wipe σ2 vs1)
    (ht : ∀ i : Nat, i < n → EvT tt1 ((wipe σ2 vs1).set j (some (.int (i : Int)))) B (f i)) (he : ∀ i : Nat, i < n → f i = true → Ev te ((wipe σ2 vs1).set j (some (.int (i : Int)))) B (g i))
    (h0 : Fill B Dl acc H') :
    ∃ W1 : Nat → Nat → Hp → Prop, (∃ m, W1 0 m H') ∧ ∀ k m H, W1 k m H →
      ((Itr 0 n).stop k H ∧ Fill B Dl (acc ++ given n f g) H) ∨ ((Itr 0 n).go k H ∧ ∃ Nx1 : Hp → Prop, (∀ H', Nx1 H' → ∃ m', m' < m ∧ W1 (k + 1) m' H') ∧ ∀ x H', (Itr 0 n).yld k H x H' → gName j x (wipe σ2 vs1) H' fun σ3 H5 => wipe σ3 vs1 = wipe σ2 vs1 ∧ tt1 σ3 H5 fun b H6 =>
        if b = true then te σ3 H6 fun y H7 => ∃ acc, H7 Dl = some (.lst acc) ∧ acc.length < sizeLine ∧ Nx1 (upd H7 Dl (.lst (acc ++ [y]))) else Nx1 H6) := by
  have z0 : Fill B Dl (acc ++ given 0 f g) H' := by
    have e : acc ++ given 0 f g = acc := by
      show acc ++ [] = acc
      exact List.append_nil _
    rw [e]
    exact h0
  refine ⟨fun k m H => m = n - k ∧ k ≤ n ∧ Fill B Dl (acc ++ given k f g) H, ⟨n, by simp, Nat.zero_le _, z0⟩, ?_⟩
  rintro k m H ⟨rfl, hk, p⟩
  by_cases h : k < n
  · refine .inr ⟨h, Fill B Dl (acc ++ given (k + 1) f g), fun H2 q => ⟨n - (k + 1), by omega, rfl, h, q⟩, fun x H2 y => ?_⟩
    obtain ⟨e1, e2⟩ := y
    subst e1 e2
    rw [Int.zero_add]
    exact ⟨hw _, fill_turn hz h p (ht k h) (he k h)⟩
  · have e : k = n := by omega
    subst e
    exact .inl ⟨Nat.le_refl _, p⟩
/-- what the outer turns have made -/
def flat (i : Nat) (n : Nat → Nat) (f : Nat → Nat → Bool) (g : Nat → Nat → V) : List V := (List.range i).flatMap fun k => given (n k) (f k) (g k)
theorem flat_succ {i : Nat} {n : Nat → Nat} {f : Nat → Nat → Bool} {g : Nat → Nat → V} : flat (i + 1) n f g = flat i n f g ++ given (n i) (f i) (g i) := by
  unfold flat
  rw [List.range_succ, List.flatMap_append, List.flatMap_singleton]
theorem flat_len {i M : Nat} {n : Nat → Nat} {f : Nat → Nat → Bool} {g : Nat → Nat → V} (h : ∀ k, k < i → n k ≤ M) : (flat i n f g).length ≤ i * M := by
  induction i with
  | zero => simp [flat]
  | succ i ih =>
    rw [flat_succ, List.length_append, Nat.succ_mul]
    have h1 := ih fun k hk => h k (by omega)
    have h2 := given_len (n i) (f i) (g i)
    have h3 := h i (by omega)
    omega
/-- two fors: over a tuple, then over a range -/
theorem lc2_TR {Qd : Addr → Hp → Prop} {xs : List V} {j j1 M : Nat} {vs vs1 : List Nat} {tt tt1 : TT} {ta1 : TA} (ok : Nat → Bool) (n : Nat → Nat) (f : Nat → Nat → Bool) (g : Nat → Nat → V)
    (hx : SqT K B a xs) (hM : xs.length * M ≤ 40000) (hn : ∀ i, i < xs.length → n i ≤ M)
    (hw : ∀ x, wipe ((wipe σ vs).set j (some x)) vs = wipe σ vs)
    (hw1 : ∀ x y, wipe ((wipe ((wipe σ vs).set j (some x)) vs1).set j1 (some y)) vs1 = wipe ((wipe σ vs).set j (some x)) vs1)
    (h0 : ∀ (i : Nat) (x : V), xs[i]? = some x → EvT tt ((wipe σ vs).set j (some x)) B (ok i))
    (hok : ∀ i, i < xs.length → ok i = false → n i = 0)
    (ha : ∀ (i : Nat) (x : V), xs[i]? = some x → ok i = true → EvA ta1 ((wipe σ vs).set j (some x)) B [.int (n i : Int)])
    (ht : ∀ (i : Nat) (x : V) (k : Nat), xs[i]? = some x → k < n i → EvT tt1 ((wipe ((wipe σ vs).set j (some x)) vs1).set j1 (some (.int (k : Int)))) B (f i k))
    (he : ∀ (i : Nat) (x : V) (k : Nat), xs[i]? = some x → k < n i → f i k = true → Ev te ((wipe ((wipe σ vs).set j (some x)) vs1).set j1 (some (.int (k : Int)))) B (g i k))
    (q : ∀ p H', B p = none → Ex B H' → H' p = some (.lst (flat xs.length n f g)) → Qd p H') :
    ∀ D, B D = none → ∃ W : Nat → Nat → Hp → Prop, (∃ m, W 0 m (upd B D (.lst []))) ∧ ∀ i m H, W i m H →
      ((Itt K a).stop i H ∧ Qd D H) ∨ ((Itt K a).go i H ∧ ∃ Nx : Hp → Prop, (∀ H', Nx H' → ∃ m', m' < m ∧ W (i + 1) m' H') ∧ ∀ x H', (Itt K a).yld i H x H' → gName j x (wipe σ vs) H' fun σ2 H2 => wipe σ2 vs = wipe σ vs ∧ tt σ2 H2 fun b H3 =>
        if b = true then iRng1 ta1 σ2 H3 fun J1 H4 => ∃ W1 : Nat → Nat → Hp → Prop, (∃ m, W1 0 m H4) ∧ ∀ j' k H, W1 j' k H →
          (J1.stop j' H ∧ Nx H) ∨ (J1.go j' H ∧ ∃ Nx1 : Hp → Prop, (∀ H', Nx1 H' → ∃ k', k' < k ∧ W1 (j' + 1) k' H') ∧ ∀ x H', J1.yld j' H x H' → gName j1 x (wipe σ2 vs1) H' fun σ3 H5 => wipe σ3 vs1 = wipe σ2 vs1 ∧ tt1 σ3 H5 fun b H6 =>
            if b = true then te σ3 H6 fun y H7 => ∃ acc, H7 D = some (.lst acc) ∧ acc.length < sizeLine ∧ Nx1 (upd H7 D (.lst (acc ++ [y]))) else Nx1 H6)
        else Nx H3) := fun Dl hD => by
  refine ⟨fun i m H => m = xs.length - i ∧ i ≤ xs.length ∧ Fill B Dl (flat i n f g) H, ⟨xs.length, by simp, Nat.zero_le _, hD, Ex.new hD, upd_same⟩, ?_⟩
  rintro i m H ⟨rfl, hi, p⟩
  have hxH : SqT K H a xs := ex_t p.2.1 hx
  by_cases hlt : i < xs.length
  · have hxi : xs[i]? = some xs[i] := List.getElem?_eq_getElem hlt
    refine .inr ⟨⟨xs, xs[i], hxH, hxi⟩, Fill B Dl (flat (i + 1) n f g), fun H' q' => ⟨xs.length - (i + 1), by omega, rfl, hlt, q'⟩, fun x H' y => ?_⟩
    obtain ⟨e1, y⟩ := y
    subst e1
    have ex := y xs hxH
    refine ⟨hw x, ?_⟩
    refine h0 i x ex _ p.2.1 _ fun H3 e3 => ?_
    have p3 : Fill B Dl (flat i n f g) H3 := ⟨p.1, p.2.1.trans e3, e3 Dl _ p.2.2⟩
    have hfl := flat_len (f := f) (g := g) (M := M) (n := n) (i := i) fun k hk => hn k (by omega)
    have hn1 := hn i hlt
    have hm : i * M + M ≤ xs.length * M := by
      rw [← Nat.succ_mul]
      exact Nat.mul_le_mul_right M hlt
    cases hb : ok i with
    | true =>
      rw [if_pos rfl]
      refine ha i x ex hb H3 p3.2.1 _ fun H4 e4 => ⟨(n i : Int), rfl, by omega, by omega, ?_⟩
      have p4 : Fill B Dl (flat i n f g) H4 := ⟨p3.1, p3.2.1.trans e4, e4 Dl _ p3.2.2⟩
      rw [flat_succ]
      rw [Int.toNat_natCast]
      exact inner_rng (f i) (g i) (by omega) (fun y => hw1 x y) (fun k hk => ht i x k ex hk) (fun k hk hf => he i x k ex hk hf) p4
    | false =>
      show Fill B Dl (flat (i + 1) n f g) H3
      have e0 : given (n i) (f i) (g i) = [] := by
        rw [hok i hlt hb]
        rfl
      rw [flat_succ, e0, List.append_nil]
      exact p3
  · have e : i = xs.length := by omega
    subst e
    exact .inl ⟨⟨xs, hxH, Nat.le_refl _⟩, q Dl H p.1 p.2.1 p.2.2⟩
theorem rd_lc2 {H : Hp} {Q : VK} {wi wi1 : TI} {g g1 : TG} {tt tt1 : TT} {vs vs1 : List Nat} (h : wi σ H fun J H1 => ∀ D, H1 D = none → ∃ W : Nat → Nat → Hp → Prop, (∃ m, W 0 m (upd H1 D (.lst []))) ∧ ∀ i m H, W i m H →
  (J.stop i H ∧ Q (.ref D) H) ∨ (J.go i H ∧ ∃ Nx : Hp → Prop, (∀ H', Nx H' → ∃ m', m' < m ∧ W (i + 1) m' H') ∧ ∀ x H', J.yld i H x H' → g x (wipe σ vs) H' fun σ2 H2 => wipe σ2 vs = wipe σ vs ∧ tt σ2 H2 fun b H3 =>
    if b = true then wi1 σ2 H3 fun J1 H4 => ∃ W1 : Nat → Nat → Hp → Prop, (∃ m, W1 0 m H4) ∧ ∀ j k H, W1 j k H →
      (J1.stop j H ∧ Nx H) ∨ (J1.go j H ∧ ∃ Nx1 : Hp → Prop, (∀ H', Nx1 H' → ∃ k', k' < k ∧ W1 (j + 1) k' H') ∧ ∀ x H', J1.yld j H x H' → g1 x (wipe σ2 vs1) H' fun σ3 H5 => wipe σ3 vs1 = wipe σ2 vs1 ∧ tt1 σ3 H5 fun b H6 =>
        if b = true then te σ3 H6 fun y H7 => ∃ acc, H7 D = some (.lst acc) ∧ acc.length < sizeLine ∧ Nx1 (upd H7 D (.lst (acc ++ [y]))) else Nx1 H6)
    else Nx H3)) : tLc2 wi g tt wi1 g1 tt1 te vs vs1 σ H Q := h
end
section
variable {K : PySem.W.Frag} {σ : L2.St} {B H : Hp} {D : Ends} {te ta tb : TE} {Q : VK} {l : Addr} {xs : List V} {v : V}
theorem Fill.new {p : Addr} (h : B p = none) {xs : List V} : Fill B p xs (upd B p (.lst xs)) := ⟨h, Ex.new h, upd_same⟩
theorem Fill.set {H' : Hp} (h : Fill B l xs H') (ys : List V) : Fill B l ys (upd H' l (.lst ys)) := ⟨h.1, Ex.mut h.2.1 h.1, upd_same⟩
theorem Fill.ex {H' H2 : Hp} (h : Fill B l xs H') (e : Ex H' H2) : Fill B l xs H2 := ⟨h.1, h.2.1.trans e, e l _ h.2.2⟩
theorem Fill.base {B0 : Hp} {H' : Hp} (e : Ex B0 B) (h : Fill B l xs H') : Fill B0 l xs H' := ⟨fresh_back e h.1, e.trans h.2.1, h.2.2⟩
theorem rd_last (h : H l = some (.lst (xs ++ [v]))) (q : Q v H) : rIxL K (.ref l) (.int (-1)) H Q := ⟨l, xs ++ [v], -1, v, rfl, rfl, sq_of h, atI_last xs v, q⟩
theorem rd_while {c : TT} {tb : TS} (h : ∃ W : Nat → L2.St → Hp → Prop, (∃ m, W m σ H) ∧ ∀ m σ H, W m σ H → c σ H fun b H1 => (b = true → ∃ N : L2.St → Hp → Prop, (∀ σ' H', N σ' H' → ∃ m', m' < m ∧ W m' σ' H') ∧ tb { D with nx := N, ct := N, bk := D.nx } σ H1) ∧ (b = false → D.nx σ H1)) : tWhile c tb D σ H := by
  obtain ⟨W, hm, hs⟩ := h
  refine ⟨W, hm, fun m σ H w => ?_⟩
  have e : (fun (b : Bool) (H1 : Hp) => if b = true then ∃ N : L2.St → Hp → Prop, (∀ σ' H', N σ' H' → ∃ m', m' < m ∧ W m' σ' H') ∧ tb { D with nx := N, ct := N, bk := D.nx } σ H1 else D.nx σ H1) =
      fun b H1 => (b = true → ∃ N : L2.St → Hp → Prop, (∀ σ' H', N σ' H' → ∃ m', m' < m ∧ W m' σ' H') ∧ tb { D with nx := N, ct := N, bk := D.nx } σ H1) ∧ (b = false → D.nx σ H1) := by
    funext b H1
    cases b
    · rw [if_neg Bool.false_ne_true]
      exact propext ⟨fun h => ⟨(fun z => nomatch z), fun _ => h⟩, fun h => h.2 rfl⟩
    · rw [if_pos rfl]
      exact propext ⟨fun h => ⟨fun _ => h, (fun z => nomatch z)⟩, fun h => h.1 rfl⟩
  rw [e]
  exact hs m σ H w
theorem rd_BM {T : String} {r : V → List V → Hp → VK → Prop} {tA : TA} (h : te σ H fun x H1 => tyV K T x H1 ∧ tA σ H1 fun xs H2 => r x xs H2 Q) : tBM K T r te tA σ H Q := h
theorem rd_app (h : H l = some (.lst xs)) (hz : xs.length < 100000) (q : Q .non (upd H l (.lst (xs ++ [v])))) : rAppend (.ref l) [v] H Q := ⟨l, xs, v, rfl, rfl, h, sz_lt hz, q⟩
theorem ty_lst (h : H l = some (.lst xs)) : tyV K "list" (.ref l) H := .inl ⟨rfl, xs, sq_of h⟩
theorem rd_neg {i : Int} (q : Q (.int (-i)) H) : rU (fun i => .int (-i)) (.int i) H Q := ⟨i, rfl, q⟩
end
theorem rd_iZip {K : PySem.W.Frag} {σ : L2.St} {H : Hp} {ta : TA} {R : It → Hp → Prop} (h : ta σ H fun vs H1 => ∃ a b xs ys, vs = [.ref a, .ref b] ∧ ((SqL K H1 a xs ∧ SqL K H1 b ys ∧ R (Itz K a b) H1) ∨ (SqT K H1 a xs ∧ SqT K H1 b ys ∧ R (RZ.ItzT K a b) H1))) : RZ.iZipA K ta σ H R := h
theorem rd_gcons {σ : L2.St} {H : Hp} {t : TG} {u : TGs} {v : V} {r : List V} {Q : L2.St → Hp → Prop} (h : t v σ H fun σ' H' => u r σ' H' Q) : gCons t u (v :: r) σ H Q := ⟨v, r, rfl, h⟩
theorem rd_gnil {σ : L2.St} {H : Hp} {Q : L2.St → Hp → Prop} (h : Q σ H) : gNil [] σ H Q := ⟨rfl, h⟩
end Lw

set_option Elab.async false
set_option linter.all false
set_option maxRecDepth 100000
set_option maxHeartbeats 2000000
namespace Lw
open PySem PySem.Spec PyProof.Rows L2 He Evl StX
theorem rd_int1 {P : Int → Prop} {R : Prop} {i : Int} (q : P i) : (∃ j, [V.int i] = [V.int j] ∧ P j) ∨ R := .inl ⟨i, rfl, q⟩
theorem rd_ex1 {P : Int → Prop} {i : Int} (q : P i) : ∃ j, [V.int i] = [V.int j] ∧ P j := ⟨i, rfl, q⟩
theorem fmod_bd (i : Int) {j : Int} (h : 0 < j) : 0 ≤ i.fmod j ∧ i.fmod j < j := ⟨Int.fmod_nonneg_of_pos i h, Int.fmod_lt_of_pos i h⟩
theorem div_bd {i : Int} {j : Int} (h0 : 0 ≤ i) (h : 0 < j) : 0 ≤ i / j ∧ i / j ≤ i := ⟨Int.ediv_nonneg h0 (by omega), Int.ediv_le_self _ h0⟩
/-- how many bits -/
abbrev bits (i : Int) : Nat := Builtin.Int.intBits i
theorem bits_le {i : Int} {a : Nat} (h : i.natAbs < 2 ^ a) : bits i ≤ a := PyProof.Rows.intBits_le h
theorem mulx_bits {i j : Int} {a b : Nat} (h1 : bits i ≤ a) (h2 : bits j ≤ b) (h : a + b ≤ 134217728) : CMulX i j := by
  have h1 : Builtin.Int.intBits i ≤ a := h1
  have h2 : Builtin.Int.intBits j ≤ b := h2
  unfold CMulX
  omega
theorem bits_mono {i j : Int} (h0 : 0 ≤ i) (h : i ≤ j) : bits i ≤ bits j := by
  unfold bits Builtin.Int.intBits
  by_cases e : i = 0
  · simp [e]
  · have hj : ¬ j = 0 := by omega
    have e1 : (i == 0) = false := by simpa using e
    have e2 : (j == 0) = false := by simpa using hj
    rw [e1, e2]
    simp only [Bool.false_eq_true, if_false]
    have h3 : i.natAbs ≤ j.natAbs := by omega
    have h4 : i.natAbs.log2 ≤ j.natAbs.log2 := by
      have hne : i.natAbs ≠ 0 := by omega
      have h5 := Nat.log2_self_le hne
      exact (Nat.le_log2 (by omega)).mpr (Nat.le_trans h5 h3)
    omega
theorem bits_abs (i : Int) : bits (if i < 0 then -i else i) = bits i := by
  split
  · unfold bits Builtin.Int.intBits
    rw [Int.natAbs_neg]
    have e : (-i == 0) = (i == 0) := by
      by_cases h : i = 0
      · subst h; rfl
      · have h1 : ¬ -i = 0 := by omega
        rw [beq_eq_false_iff_ne.mpr h1, beq_eq_false_iff_ne.mpr h]
    rw [e]
  · rfl
/-- the hand of draws at h -/
def Hand (H : Hp) (h : Addr) : Prop := ∃ (c : Addr) (cells : List Int) (i : Nat) (r t : Int), H h = some (.lst [.ref c, .int (i : Int), .int r, .int t]) ∧ H c = some (.lst (cells.map V.int)) ∧ c ≠ h ∧
  (∀ z ∈ cells, 0 ≤ z ∧ bits z ≤ 1048576) ∧ i ≤ cells.length ∧ cells.length ≤ 63 ∧ 0 ≤ r ∧ bits r ≤ 1048576 ∧ 0 ≤ t ∧ t < 2147483629
/-- all but the hand stands as it stood -/
def Dh (h : Addr) (H H' : Hp) : Prop := ∀ a o, a ≠ h → H a = some o → H' a = some o
theorem Dh.refl (h : Addr) (H : Hp) : Dh h H H := fun _ _ _ q => q
theorem Dh.trans {h : Addr} {H H1 H2 : Hp} (a : Dh h H H1) (b : Dh h H1 H2) : Dh h H H2 := fun x o n q => b x o n (a x o n q)
theorem Dh.of {h : Addr} {H H1 : Hp} (e : Ex H H1) : Dh h H H1 := fun x o _ q => e x o q
theorem Dh.upd {h : Addr} {H : Hp} {o : HO} : Dh h H (upd H h o) := fun a u n q => by rw [upd_ne n]; exact q
theorem Hand.ex {H H' : Hp} {h : Addr} (e : Ex H H') (x : Hand H h) : Hand H' h := by
  obtain ⟨c, cells, i, r, t, h1, h2, rest⟩ := x
  exact ⟨c, cells, i, r, t, e _ _ h1, e _ _ h2, rest⟩
theorem Hand.there {H : Hp} {h : Addr} (x : Hand H h) : ∃ o, H h = some o := by
  obtain ⟨c, cells, i, r, t, h1, _⟩ := x
  exact ⟨_, h1⟩
theorem Dh.free {h : Addr} {H H' : Hp} {p : Addr} (d : Dh h H H') (x : Hand H' h) (n : H' p = none) : H p = none := by
  cases q : H p with
  | none => rfl
  | some o =>
    by_cases e : p = h
    · obtain ⟨u, hu⟩ := x.there
      rw [e, hu] at n
      cases n
    · rw [d p o e q] at n
      cases n
/-- set a place of the hand -/
theorem rd_setH {H : Hp} {l : Addr} {xs : List V} {k : Nat} {v : V} {Q : Hp → Prop} (h : H l = some (.lst xs)) (hk : k < xs.length) (q : Q (upd H l (.lst (xs.set k v)))) : rSetL (.ref l) (.int (k : Int)) v H Q :=
  ⟨l, xs, (k : Int), k, rfl, rfl, h, ixN_nat hk, q⟩
theorem rd_ix {K : PySem.W.Frag} {H : Hp} {l : Addr} {xs : List V} {k : Nat} {v : V} {Q : VK} (h : SqL K H l xs) (hk : xs[k]? = some v) (q : Q v H) : rIxL K (.ref l) (.int (k : Int)) H Q := ⟨l, xs, k, v, rfl, rfl, h, atI_nat hk, q⟩
theorem rd_ixl {K : PySem.W.Frag} {H : Hp} {l : Addr} {xs : List V} {k : Nat} {v : V} {Q : VK} (h : H l = some (.lst xs)) (hk : xs[k]? = some v) (q : Q v H) : rIxL K (.ref l) (.int (OfNat.ofNat k)) H Q := ⟨l, xs, _, v, rfl, rfl, sq_of h, atI_nat (j := k) hk, q⟩
theorem rd_sub {σ : L2.St} {H : Hp} {D : Ends} {te to ti : TE} {ts : TSet} (h : te σ H fun v H1 => to σ H1 fun o H2 => ti σ H2 fun i H3 => ts o i v H3 fun H4 => D.nx σ H4) : tAsg te (gSub to ti ts) D σ H := h
/-- a word between two statements -/
theorem rd_mid {t u : TS} {D : Ends} {σ : L2.St} {H : Hp} (Mid : L2.St → Hp → Prop) (h : ∀ N : L2.St → Hp → Prop, (∀ σ' H', Mid σ' H' → N σ' H') → t { D with nx := N } σ H) (k : ∀ σ' H', Mid σ' H' → u D σ' H') : tSeq t u D σ H := h _ k
theorem Hand.mk {H : Hp} {h c : Addr} {cells : List Int} {i : Nat} {r t : Int} (h1 : H h = some (.lst [.ref c, .int (i : Int), .int r, .int t])) (h2 : H c = some (.lst (cells.map V.int))) (h3 : c ≠ h) (h4 : ∀ z ∈ cells, 0 ≤ z ∧ bits z ≤ 1048576) (h5 : i ≤ cells.length) (h6 : cells.length ≤ 63)
  (h7 : 0 ≤ r) (h8 : bits r ≤ 1048576) (h9 : 0 ≤ t) (h10 : t < 2147483629) : Hand H h := ⟨c, cells, i, r, t, h1, h2, h3, h4, h5, h6, h7, h8, h9, h10⟩
theorem rd_iEnum {K : PySem.W.Frag} {σ : L2.St} {H : Hp} {ta : TA} {R : It → Hp → Prop} (h : ta σ H fun vs H1 => ∃ a xs, vs = [.ref a] ∧ SqL K H1 a xs ∧ R (Ite K a) H1) : iEnum K ta σ H R := h
theorem digits_half {n : Nat} (h : 2 ≤ n) : binL n = binL (n / 2) ++ [(Nat.digitChar (n % 2)).toNat] := by
  unfold binL
  rw [Nat.toDigits_eq_if (by decide), if_neg (by omega), List.map_append]
  rfl
theorem ones_half (n : Nat) (h : 0 < n) : onesN n = onesN (n / 2) + n % 2 := by
  by_cases h2 : 2 ≤ n
  · unfold onesN
    rw [digits_half h2, List.count_append]
    rcases Nat.mod_two_eq_zero_or_one n with e | e <;> rw [e] <;> rfl
  · have e : n = 1 := by omega
    subst e
    decide
end Lw

set_option Elab.async false
set_option linter.all false
set_option maxRecDepth 100000
set_option maxHeartbeats 0
namespace Lw
open PySem PySem.Spec PyProof.Rows L2 He
def top (i : Nat) : Stmt := PySem.Challenge.pw_lowerwords_k04_whole_heaps_below_by_lett.main.body.getD i (.Pass ⟨0, 0, 0, 0⟩)
abbrev s_is_whole : Stmt := top 6
def d_is_whole : DefD := ⟨("is_whole", none), "is_whole", "is_whole", defArgs s_is_whole, defBody s_is_whole, defScope s_is_whole, [], []⟩
abbrev s_check_letters : Stmt := top 7
def d_check_letters : DefD := ⟨("check_letters", none), "check_letters", "check_letters", defArgs s_check_letters, defBody s_check_letters, defScope s_check_letters, [], []⟩
abbrev s_check_heap : Stmt := top 8
def d_check_heap : DefD := ⟨("check_heap", none), "check_heap", "check_heap", defArgs s_check_heap, defBody s_check_heap, defScope s_check_heap, [], []⟩
abbrev s_letters_of : Stmt := top 9
def d_letters_of : DefD := ⟨("letters_of", none), "letters_of", "letters_of", defArgs s_letters_of, defBody s_letters_of, defScope s_letters_of, [], []⟩
abbrev s_count_ones : Stmt := top 10
def d_count_ones : DefD := ⟨("count_ones", none), "count_ones", "count_ones", defArgs s_count_ones, defBody s_count_ones, defScope s_count_ones, [], []⟩
abbrev s_all_letters : Stmt := top 11
def d_all_letters : DefD := ⟨("all_letters", none), "all_letters", "all_letters", defArgs s_all_letters, defBody s_all_letters, defScope s_all_letters, [], []⟩
abbrev s_is_below : Stmt := top 13
def d_is_below : DefD := ⟨("is_below", none), "is_below", "is_below", defArgs s_is_below, defBody s_is_below, defScope s_is_below, [], []⟩
abbrev s_heaps_left : Stmt := top 14
def d_heaps_left : DefD := ⟨("heaps_left", none), "heaps_left", "heaps_left", defArgs s_heaps_left, defBody s_heaps_left, defScope s_heaps_left, [], []⟩
abbrev s_descents_of : Stmt := top 15
def d_descents_of : DefD := ⟨("descents_of", none), "descents_of", "descents_of", defArgs s_descents_of, defBody s_descents_of, defScope s_descents_of, [], []⟩
abbrev s_all_below : Stmt := top 16
def d_all_below : DefD := ⟨("all_below", none), "all_below", "all_below", defArgs s_all_below, defBody s_all_below, defScope s_all_below, [], []⟩
abbrev s_way_down : Stmt := top 17
def d_way_down : DefD := ⟨("way_down", none), "way_down", "way_down", defArgs s_way_down, defBody s_way_down, defScope s_way_down, [], []⟩
abbrev s_bar_letter : Stmt := top 18
def d_bar_letter : DefD := ⟨("bar_letter", none), "bar_letter", "bar_letter", defArgs s_bar_letter, defBody s_bar_letter, defScope s_bar_letter, [], []⟩
abbrev s__law_mix : Stmt := top 20
def d__law_mix : DefD := ⟨("_law_mix", none), "_law_mix", "_law_mix", defArgs s__law_mix, defBody s__law_mix, defScope s__law_mix, [], []⟩
abbrev s__law_hand : Stmt := top 21
def d__law_hand : DefD := ⟨("_law_hand", none), "_law_hand", "_law_hand", defArgs s__law_hand, defBody s__law_hand, defScope s__law_hand, [], []⟩
abbrev s__law_draw : Stmt := top 22
def d__law_draw : DefD := ⟨("_law_draw", none), "_law_draw", "_law_draw", defArgs s__law_draw, defBody s__law_draw, defScope s__law_draw, [], []⟩
abbrev s__law_wide : Stmt := top 23
def d__law_wide : DefD := ⟨("_law_wide", none), "_law_wide", "_law_wide", defArgs s__law_wide, defBody s__law_wide, defScope s__law_wide, [], []⟩
abbrev s__law_ones : Stmt := top 24
def d__law_ones : DefD := ⟨("_law_ones", none), "_law_ones", "_law_ones", defArgs s__law_ones, defBody s__law_ones, defScope s__law_ones, [], []⟩
abbrev s__law_is_below : Stmt := top 25
def d__law_is_below : DefD := ⟨("_law_is_below", none), "_law_is_below", "_law_is_below", defArgs s__law_is_below, defBody s__law_is_below, defScope s__law_is_below, [], []⟩
abbrev s__law_left_out : Stmt := top 26
def d__law_left_out : DefD := ⟨("_law_left_out", none), "_law_left_out", "_law_left_out", defArgs s__law_left_out, defBody s__law_left_out, defScope s__law_left_out, [], []⟩
abbrev s__law_lowered : Stmt := top 27
def d__law_lowered : DefD := ⟨("_law_lowered", none), "_law_lowered", "_law_lowered", defArgs s__law_lowered, defBody s__law_lowered, defScope s__law_lowered, [], []⟩
abbrev s__law_truth : Stmt := top 28
def d__law_truth : DefD := ⟨("_law_truth", none), "_law_truth", "_law_truth", defArgs s__law_truth, defBody s__law_truth, defScope s__law_truth, [], []⟩
abbrev s__law_exact : Stmt := top 29
def d__law_exact : DefD := ⟨("_law_exact", none), "_law_exact", "_law_exact", defArgs s__law_exact, defBody s__law_exact, defScope s__law_exact, [], []⟩
abbrev s__law_letter_row : Stmt := top 30
def d__law_letter_row : DefD := ⟨("_law_letter_row", none), "_law_letter_row", "_law_letter_row", defArgs s__law_letter_row, defBody s__law_letter_row, defScope s__law_letter_row, [], []⟩
abbrev s__law_descents : Stmt := top 31
def d__law_descents : DefD := ⟨("_law_descents", none), "_law_descents", "_law_descents", defArgs s__law_descents, defBody s__law_descents, defScope s__law_descents, [], []⟩
abbrev s__law_way : Stmt := top 32
def d__law_way : DefD := ⟨("_law_way", none), "_law_way", "_law_way", defArgs s__law_way, defBody s__law_way, defScope s__law_way, [], []⟩
abbrev s__law_bar : Stmt := top 33
def d__law_bar : DefD := ⟨("_law_bar", none), "_law_bar", "_law_bar", defArgs s__law_bar, defBody s__law_bar, defScope s__law_bar, [], []⟩
abbrev s__law_refused : Stmt := top 34
def d__law_refused : DefD := ⟨("_law_refused", none), "_law_refused", "_law_refused", defArgs s__law_refused, defBody s__law_refused, defScope s__law_refused, [], []⟩
abbrev s_law : Stmt := top 35
def d_law : DefD := ⟨("law", none), "law", "law", defArgs s_law, defBody s_law, defScope s_law, [], []⟩
abbrev s_BadHeap___init__ : Stmt := inClass (top 3) 0
def d_BadHeap___init__ : DefD := ⟨("BadHeap", some "__init__"), "__init__", "BadHeap.__init__", defArgs s_BadHeap___init__, defBody s_BadHeap___init__, defScope s_BadHeap___init__, [], []⟩
def fn0 : List DefD := [d_is_whole, d_check_letters, d_check_heap, d_letters_of, d_count_ones, d_all_letters, d_is_below, d_heaps_left, d_descents_of, d_all_below, d_way_down, d_bar_letter, d__law_mix, d__law_hand, d__law_draw, d__law_wide, d__law_ones, d__law_is_below, d__law_left_out, d__law_lowered]
def fn1 : List DefD := [d__law_truth, d__law_exact, d__law_letter_row, d__law_descents, d__law_way, d__law_bar, d__law_refused, d_law, d_BadHeap___init__]
def fn : List DefD := fn0 ++ fn1
def fa0 : List Fa := [.glo "is_whole", .glo "check_letters", .glo "check_heap", .glo "letters_of", .glo "count_ones", .glo "all_letters", .glo "is_below", .glo "heaps_left", .glo "descents_of", .glo "all_below", .glo "way_down", .glo "bar_letter", .glo "_law_mix", .glo "_law_hand", .glo "_law_draw", .glo "_law_wide", .glo "_law_ones", .glo "_law_is_below", .glo "_law_left_out", .glo "_law_lowered"]
def fa1 : List Fa := [.glo "_law_truth", .glo "_law_exact", .glo "_law_letter_row", .glo "_law_descents", .glo "_law_way", .glo "_law_bar", .glo "_law_refused", .glo "law", .glo "WordError", .glo "BadLetters", .glo "BadHeap", .int "MOST_LETTERS" 5, .free "ValueError", .free "abs", .free "bool", .free "enumerate", .free "int", .free "isinstance", .free "len", .free "range"]
def fa2 : List Fa := [.free "reversed", .free "sorted", .free "tuple", .free "zip", .exc "WordError", .exc "BadLetters", .exm "BadLetters" "BadHeap" false, .exm "BadHeap" "BadHeap" true]
def fa : List Fa := fa0 ++ fa1 ++ fa2
def ex (K : PySem.W.Frag) : Bool := excB "BadHeap" ["index"] K
abbrev R : PySem.W.OpenRow := PySem.W.OpenLaw.row PySem.Challenge.rw_lowerwords_k04_whole_heaps_below_by_lett
abbrev hk : PySem.W.Hook := hookE 5 fa fn ex
def ob (s : PySem.W.SharedT) : AlE := obsE 5 fa fn ex (HandSHeadRun.getT s)
theorem ob_eq (s : PySem.W.SharedT) : ob s = hk.obs s.abs := obsE_eq (HandSHeadRun.getT_eq s)
def loose0 : List PySem.Str := ["WordError", "BadLetters", "BadHeap", "MOST_LETTERS", "is_whole", "check_letters", "check_heap", "letters_of", "count_ones", "all_letters", "is_below", "heaps_left", "descents_of", "all_below", "way_down", "bar_letter", "_law_mix", "_law_hand", "_law_draw", "_law_wide"]
def loose1 : List PySem.Str := ["_law_ones", "_law_is_below", "_law_left_out", "_law_lowered", "_law_truth", "_law_exact", "_law_letter_row", "_law_descents", "_law_way", "_law_bar", "_law_refused"]
def loose : List PySem.Str := loose0 ++ loose1
theorem run (w : World) : HandSHeadRun.RunEq R (PySem.W.view R.prog [35]) hk ob 4000 loose w := by
  intro os
  kernel_rfl
end Lw

set_option Elab.async false
set_option linter.all false
set_option maxRecDepth 100000
set_option maxHeartbeats 4000000
namespace Lw
open PySem PySem.Spec PyProof.Rows L2 He
structure Ctx (K : PySem.W.Frag) (mg : Str → Option Value) : Prop where
  X : ∃ h : Heap, K.In h ∧ h.Ns mainGlobals mg
  c : SaysE fa fn ex K
section
variable {P : Program} {w : World} {K : PySem.W.Frag} {mg : Str → Option Value} {base : Heap}
theorem g_is_whole (E : Ctx K mg) : mg "is_whole" = some (.ref (ga K "is_whole")) := by
  obtain ⟨⟨h, X, G⟩, c⟩ := E
  exact glo_ok X G (c.d.fact 0 (f := .glo "is_whole") rfl)
theorem g_check_letters (E : Ctx K mg) : mg "check_letters" = some (.ref (ga K "check_letters")) := by
  obtain ⟨⟨h, X, G⟩, c⟩ := E
  exact glo_ok X G (c.d.fact 1 (f := .glo "check_letters") rfl)
theorem g_check_heap (E : Ctx K mg) : mg "check_heap" = some (.ref (ga K "check_heap")) := by
  obtain ⟨⟨h, X, G⟩, c⟩ := E
  exact glo_ok X G (c.d.fact 2 (f := .glo "check_heap") rfl)
theorem g_letters_of (E : Ctx K mg) : mg "letters_of" = some (.ref (ga K "letters_of")) := by
  obtain ⟨⟨h, X, G⟩, c⟩ := E
  exact glo_ok X G (c.d.fact 3 (f := .glo "letters_of") rfl)
theorem g_count_ones (E : Ctx K mg) : mg "count_ones" = some (.ref (ga K "count_ones")) := by
  obtain ⟨⟨h, X, G⟩, c⟩ := E
  exact glo_ok X G (c.d.fact 4 (f := .glo "count_ones") rfl)
theorem g_all_letters (E : Ctx K mg) : mg "all_letters" = some (.ref (ga K "all_letters")) := by
  obtain ⟨⟨h, X, G⟩, c⟩ := E
  exact glo_ok X G (c.d.fact 5 (f := .glo "all_letters") rfl)
theorem g_is_below (E : Ctx K mg) : mg "is_below" = some (.ref (ga K "is_below")) := by
  obtain ⟨⟨h, X, G⟩, c⟩ := E
  exact glo_ok X G (c.d.fact 6 (f := .glo "is_below") rfl)
theorem g_heaps_left (E : Ctx K mg) : mg "heaps_left" = some (.ref (ga K "heaps_left")) := by
  obtain ⟨⟨h, X, G⟩, c⟩ := E
  exact glo_ok X G (c.d.fact 7 (f := .glo "heaps_left") rfl)
theorem g_descents_of (E : Ctx K mg) : mg "descents_of" = some (.ref (ga K "descents_of")) := by
  obtain ⟨⟨h, X, G⟩, c⟩ := E
  exact glo_ok X G (c.d.fact 8 (f := .glo "descents_of") rfl)
theorem g_all_below (E : Ctx K mg) : mg "all_below" = some (.ref (ga K "all_below")) := by
  obtain ⟨⟨h, X, G⟩, c⟩ := E
  exact glo_ok X G (c.d.fact 9 (f := .glo "all_below") rfl)
theorem g_way_down (E : Ctx K mg) : mg "way_down" = some (.ref (ga K "way_down")) := by
  obtain ⟨⟨h, X, G⟩, c⟩ := E
  exact glo_ok X G (c.d.fact 10 (f := .glo "way_down") rfl)
theorem g_bar_letter (E : Ctx K mg) : mg "bar_letter" = some (.ref (ga K "bar_letter")) := by
  obtain ⟨⟨h, X, G⟩, c⟩ := E
  exact glo_ok X G (c.d.fact 11 (f := .glo "bar_letter") rfl)
theorem g__law_mix (E : Ctx K mg) : mg "_law_mix" = some (.ref (ga K "_law_mix")) := by
  obtain ⟨⟨h, X, G⟩, c⟩ := E
  exact glo_ok X G (c.d.fact 12 (f := .glo "_law_mix") rfl)
theorem g__law_hand (E : Ctx K mg) : mg "_law_hand" = some (.ref (ga K "_law_hand")) := by
  obtain ⟨⟨h, X, G⟩, c⟩ := E
  exact glo_ok X G (c.d.fact 13 (f := .glo "_law_hand") rfl)
theorem g__law_draw (E : Ctx K mg) : mg "_law_draw" = some (.ref (ga K "_law_draw")) := by
  obtain ⟨⟨h, X, G⟩, c⟩ := E
  exact glo_ok X G (c.d.fact 14 (f := .glo "_law_draw") rfl)
theorem g__law_wide (E : Ctx K mg) : mg "_law_wide" = some (.ref (ga K "_law_wide")) := by
  obtain ⟨⟨h, X, G⟩, c⟩ := E
  exact glo_ok X G (c.d.fact 15 (f := .glo "_law_wide") rfl)
theorem g__law_ones (E : Ctx K mg) : mg "_law_ones" = some (.ref (ga K "_law_ones")) := by
  obtain ⟨⟨h, X, G⟩, c⟩ := E
  exact glo_ok X G (c.d.fact 16 (f := .glo "_law_ones") rfl)
theorem g__law_is_below (E : Ctx K mg) : mg "_law_is_below" = some (.ref (ga K "_law_is_below")) := by
  obtain ⟨⟨h, X, G⟩, c⟩ := E
  exact glo_ok X G (c.d.fact 17 (f := .glo "_law_is_below") rfl)
theorem g__law_left_out (E : Ctx K mg) : mg "_law_left_out" = some (.ref (ga K "_law_left_out")) := by
  obtain ⟨⟨h, X, G⟩, c⟩ := E
  exact glo_ok X G (c.d.fact 18 (f := .glo "_law_left_out") rfl)
theorem g__law_lowered (E : Ctx K mg) : mg "_law_lowered" = some (.ref (ga K "_law_lowered")) := by
  obtain ⟨⟨h, X, G⟩, c⟩ := E
  exact glo_ok X G (c.d.fact 19 (f := .glo "_law_lowered") rfl)
theorem g__law_truth (E : Ctx K mg) : mg "_law_truth" = some (.ref (ga K "_law_truth")) := by
  obtain ⟨⟨h, X, G⟩, c⟩ := E
  exact glo_ok X G (c.d.fact 20 (f := .glo "_law_truth") rfl)
theorem g__law_exact (E : Ctx K mg) : mg "_law_exact" = some (.ref (ga K "_law_exact")) := by
  obtain ⟨⟨h, X, G⟩, c⟩ := E
  exact glo_ok X G (c.d.fact 21 (f := .glo "_law_exact") rfl)
theorem g__law_letter_row (E : Ctx K mg) : mg "_law_letter_row" = some (.ref (ga K "_law_letter_row")) := by
  obtain ⟨⟨h, X, G⟩, c⟩ := E
  exact glo_ok X G (c.d.fact 22 (f := .glo "_law_letter_row") rfl)
theorem g__law_descents (E : Ctx K mg) : mg "_law_descents" = some (.ref (ga K "_law_descents")) := by
  obtain ⟨⟨h, X, G⟩, c⟩ := E
  exact glo_ok X G (c.d.fact 23 (f := .glo "_law_descents") rfl)
theorem g__law_way (E : Ctx K mg) : mg "_law_way" = some (.ref (ga K "_law_way")) := by
  obtain ⟨⟨h, X, G⟩, c⟩ := E
  exact glo_ok X G (c.d.fact 24 (f := .glo "_law_way") rfl)
theorem g__law_bar (E : Ctx K mg) : mg "_law_bar" = some (.ref (ga K "_law_bar")) := by
  obtain ⟨⟨h, X, G⟩, c⟩ := E
  exact glo_ok X G (c.d.fact 25 (f := .glo "_law_bar") rfl)
theorem g__law_refused (E : Ctx K mg) : mg "_law_refused" = some (.ref (ga K "_law_refused")) := by
  obtain ⟨⟨h, X, G⟩, c⟩ := E
  exact glo_ok X G (c.d.fact 26 (f := .glo "_law_refused") rfl)
theorem g_law (E : Ctx K mg) : mg "law" = some (.ref (ga K "law")) := by
  obtain ⟨⟨h, X, G⟩, c⟩ := E
  exact glo_ok X G (c.d.fact 27 (f := .glo "law") rfl)
theorem g_WordError (E : Ctx K mg) : mg "WordError" = some (.ref (ga K "WordError")) := by
  obtain ⟨⟨h, X, G⟩, c⟩ := E
  exact glo_ok X G (c.d.fact 28 (f := .glo "WordError") rfl)
theorem g_BadLetters (E : Ctx K mg) : mg "BadLetters" = some (.ref (ga K "BadLetters")) := by
  obtain ⟨⟨h, X, G⟩, c⟩ := E
  exact glo_ok X G (c.d.fact 29 (f := .glo "BadLetters") rfl)
theorem g_BadHeap (E : Ctx K mg) : mg "BadHeap" = some (.ref (ga K "BadHeap")) := by
  obtain ⟨⟨h, X, G⟩, c⟩ := E
  exact glo_ok X G (c.d.fact 30 (f := .glo "BadHeap") rfl)
theorem k_MOST_LETTERS (E : Ctx K mg) : ∃ t, mg "MOST_LETTERS" = some (.int 5 t) := by
  obtain ⟨⟨h, X, G⟩, c⟩ := E
  exact int_ok X G (c.d.fact 31 (f := .int "MOST_LETTERS" 5) rfl)
theorem b_ValueError (E : Ctx K mg) : mg "ValueError" = none := by
  obtain ⟨⟨h, X, G⟩, c⟩ := E
  exact free_ok X G (c.d.fact 32 (f := .free "ValueError") rfl)
theorem b_abs (E : Ctx K mg) : mg "abs" = none := by
  obtain ⟨⟨h, X, G⟩, c⟩ := E
  exact free_ok X G (c.d.fact 33 (f := .free "abs") rfl)
theorem b_bool (E : Ctx K mg) : mg "bool" = none := by
  obtain ⟨⟨h, X, G⟩, c⟩ := E
  exact free_ok X G (c.d.fact 34 (f := .free "bool") rfl)
theorem b_enumerate (E : Ctx K mg) : mg "enumerate" = none := by
  obtain ⟨⟨h, X, G⟩, c⟩ := E
  exact free_ok X G (c.d.fact 35 (f := .free "enumerate") rfl)
theorem b_int (E : Ctx K mg) : mg "int" = none := by
  obtain ⟨⟨h, X, G⟩, c⟩ := E
  exact free_ok X G (c.d.fact 36 (f := .free "int") rfl)
theorem b_isinstance (E : Ctx K mg) : mg "isinstance" = none := by
  obtain ⟨⟨h, X, G⟩, c⟩ := E
  exact free_ok X G (c.d.fact 37 (f := .free "isinstance") rfl)
theorem b_len (E : Ctx K mg) : mg "len" = none := by
  obtain ⟨⟨h, X, G⟩, c⟩ := E
  exact free_ok X G (c.d.fact 38 (f := .free "len") rfl)
theorem b_range (E : Ctx K mg) : mg "range" = none := by
  obtain ⟨⟨h, X, G⟩, c⟩ := E
  exact free_ok X G (c.d.fact 39 (f := .free "range") rfl)
theorem b_reversed (E : Ctx K mg) : mg "reversed" = none := by
  obtain ⟨⟨h, X, G⟩, c⟩ := E
  exact free_ok X G (c.d.fact 40 (f := .free "reversed") rfl)
theorem b_sorted (E : Ctx K mg) : mg "sorted" = none := by
  obtain ⟨⟨h, X, G⟩, c⟩ := E
  exact free_ok X G (c.d.fact 41 (f := .free "sorted") rfl)
theorem b_tuple (E : Ctx K mg) : mg "tuple" = none := by
  obtain ⟨⟨h, X, G⟩, c⟩ := E
  exact free_ok X G (c.d.fact 42 (f := .free "tuple") rfl)
theorem b_zip (E : Ctx K mg) : mg "zip" = none := by
  obtain ⟨⟨h, X, G⟩, c⟩ := E
  exact free_ok X G (c.d.fact 43 (f := .free "zip") rfl)
theorem x0_WordError (E : Ctx K mg) : Ex0 K mg "WordError" := ⟨g_WordError E, E.c.d.fact 44 (f := .exc "WordError") rfl⟩
theorem x0_BadLetters (E : Ctx K mg) : Ex0 K mg "BadLetters" := ⟨g_BadLetters E, E.c.d.fact 45 (f := .exc "BadLetters") rfl⟩
theorem m_BadLetters_BadHeap (E : Ctx K mg) : PySem.W.exmOne K (.ref (ga K "BadLetters")) (.ref (ga K "BadHeap")) = some false := of_decide_eq_true (E.c.d.fact 46 (f := .exm "BadLetters" "BadHeap" false) rfl)
theorem m_BadHeap_BadHeap (E : Ctx K mg) : PySem.W.exmOne K (.ref (ga K "BadHeap")) (.ref (ga K "BadHeap")) = some true := of_decide_eq_true (E.c.d.fact 47 (f := .exm "BadHeap" "BadHeap" true) rfl)
theorem f_is_whole (E : Ctx K mg) : ∃ fd, FunD K "is_whole" "is_whole" (defArgs s_is_whole) (defBody s_is_whole) (defScope s_is_whole) [] [] (ga K "is_whole") fd := E.c.d.def_ 0 (d := d_is_whole) rfl
theorem f_check_letters (E : Ctx K mg) : ∃ fd, FunD K "check_letters" "check_letters" (defArgs s_check_letters) (defBody s_check_letters) (defScope s_check_letters) [] [] (ga K "check_letters") fd := E.c.d.def_ 1 (d := d_check_letters) rfl
theorem f_check_heap (E : Ctx K mg) : ∃ fd, FunD K "check_heap" "check_heap" (defArgs s_check_heap) (defBody s_check_heap) (defScope s_check_heap) [] [] (ga K "check_heap") fd := E.c.d.def_ 2 (d := d_check_heap) rfl
theorem f_letters_of (E : Ctx K mg) : ∃ fd, FunD K "letters_of" "letters_of" (defArgs s_letters_of) (defBody s_letters_of) (defScope s_letters_of) [] [] (ga K "letters_of") fd := E.c.d.def_ 3 (d := d_letters_of) rfl
theorem f_count_ones (E : Ctx K mg) : ∃ fd, FunD K "count_ones" "count_ones" (defArgs s_count_ones) (defBody s_count_ones) (defScope s_count_ones) [] [] (ga K "count_ones") fd := E.c.d.def_ 4 (d := d_count_ones) rfl
theorem f_all_letters (E : Ctx K mg) : ∃ fd, FunD K "all_letters" "all_letters" (defArgs s_all_letters) (defBody s_all_letters) (defScope s_all_letters) [] [] (ga K "all_letters") fd := E.c.d.def_ 5 (d := d_all_letters) rfl
theorem f_is_below (E : Ctx K mg) : ∃ fd, FunD K "is_below" "is_below" (defArgs s_is_below) (defBody s_is_below) (defScope s_is_below) [] [] (ga K "is_below") fd := E.c.d.def_ 6 (d := d_is_below) rfl
theorem f_heaps_left (E : Ctx K mg) : ∃ fd, FunD K "heaps_left" "heaps_left" (defArgs s_heaps_left) (defBody s_heaps_left) (defScope s_heaps_left) [] [] (ga K "heaps_left") fd := E.c.d.def_ 7 (d := d_heaps_left) rfl
theorem f_descents_of (E : Ctx K mg) : ∃ fd, FunD K "descents_of" "descents_of" (defArgs s_descents_of) (defBody s_descents_of) (defScope s_descents_of) [] [] (ga K "descents_of") fd := E.c.d.def_ 8 (d := d_descents_of) rfl
theorem f_all_below (E : Ctx K mg) : ∃ fd, FunD K "all_below" "all_below" (defArgs s_all_below) (defBody s_all_below) (defScope s_all_below) [] [] (ga K "all_below") fd := E.c.d.def_ 9 (d := d_all_below) rfl
theorem f_way_down (E : Ctx K mg) : ∃ fd, FunD K "way_down" "way_down" (defArgs s_way_down) (defBody s_way_down) (defScope s_way_down) [] [] (ga K "way_down") fd := E.c.d.def_ 10 (d := d_way_down) rfl
theorem f_bar_letter (E : Ctx K mg) : ∃ fd, FunD K "bar_letter" "bar_letter" (defArgs s_bar_letter) (defBody s_bar_letter) (defScope s_bar_letter) [] [] (ga K "bar_letter") fd := E.c.d.def_ 11 (d := d_bar_letter) rfl
theorem f__law_mix (E : Ctx K mg) : ∃ fd, FunD K "_law_mix" "_law_mix" (defArgs s__law_mix) (defBody s__law_mix) (defScope s__law_mix) [] [] (ga K "_law_mix") fd := E.c.d.def_ 12 (d := d__law_mix) rfl
theorem f__law_hand (E : Ctx K mg) : ∃ fd, FunD K "_law_hand" "_law_hand" (defArgs s__law_hand) (defBody s__law_hand) (defScope s__law_hand) [] [] (ga K "_law_hand") fd := E.c.d.def_ 13 (d := d__law_hand) rfl
theorem f__law_draw (E : Ctx K mg) : ∃ fd, FunD K "_law_draw" "_law_draw" (defArgs s__law_draw) (defBody s__law_draw) (defScope s__law_draw) [] [] (ga K "_law_draw") fd := E.c.d.def_ 14 (d := d__law_draw) rfl
theorem f__law_wide (E : Ctx K mg) : ∃ fd, FunD K "_law_wide" "_law_wide" (defArgs s__law_wide) (defBody s__law_wide) (defScope s__law_wide) [] [] (ga K "_law_wide") fd := E.c.d.def_ 15 (d := d__law_wide) rfl
theorem f__law_ones (E : Ctx K mg) : ∃ fd, FunD K "_law_ones" "_law_ones" (defArgs s__law_ones) (defBody s__law_ones) (defScope s__law_ones) [] [] (ga K "_law_ones") fd := E.c.d.def_ 16 (d := d__law_ones) rfl
theorem f__law_is_below (E : Ctx K mg) : ∃ fd, FunD K "_law_is_below" "_law_is_below" (defArgs s__law_is_below) (defBody s__law_is_below) (defScope s__law_is_below) [] [] (ga K "_law_is_below") fd := E.c.d.def_ 17 (d := d__law_is_below) rfl
theorem f__law_left_out (E : Ctx K mg) : ∃ fd, FunD K "_law_left_out" "_law_left_out" (defArgs s__law_left_out) (defBody s__law_left_out) (defScope s__law_left_out) [] [] (ga K "_law_left_out") fd := E.c.d.def_ 18 (d := d__law_left_out) rfl
theorem f__law_lowered (E : Ctx K mg) : ∃ fd, FunD K "_law_lowered" "_law_lowered" (defArgs s__law_lowered) (defBody s__law_lowered) (defScope s__law_lowered) [] [] (ga K "_law_lowered") fd := E.c.d.def_ 19 (d := d__law_lowered) rfl
theorem f__law_truth (E : Ctx K mg) : ∃ fd, FunD K "_law_truth" "_law_truth" (defArgs s__law_truth) (defBody s__law_truth) (defScope s__law_truth) [] [] (ga K "_law_truth") fd := E.c.d.def_ 20 (d := d__law_truth) rfl
theorem f__law_exact (E : Ctx K mg) : ∃ fd, FunD K "_law_exact" "_law_exact" (defArgs s__law_exact) (defBody s__law_exact) (defScope s__law_exact) [] [] (ga K "_law_exact") fd := E.c.d.def_ 21 (d := d__law_exact) rfl
theorem f__law_letter_row (E : Ctx K mg) : ∃ fd, FunD K "_law_letter_row" "_law_letter_row" (defArgs s__law_letter_row) (defBody s__law_letter_row) (defScope s__law_letter_row) [] [] (ga K "_law_letter_row") fd := E.c.d.def_ 22 (d := d__law_letter_row) rfl
theorem f__law_descents (E : Ctx K mg) : ∃ fd, FunD K "_law_descents" "_law_descents" (defArgs s__law_descents) (defBody s__law_descents) (defScope s__law_descents) [] [] (ga K "_law_descents") fd := E.c.d.def_ 23 (d := d__law_descents) rfl
theorem f__law_way (E : Ctx K mg) : ∃ fd, FunD K "_law_way" "_law_way" (defArgs s__law_way) (defBody s__law_way) (defScope s__law_way) [] [] (ga K "_law_way") fd := E.c.d.def_ 24 (d := d__law_way) rfl
theorem f__law_bar (E : Ctx K mg) : ∃ fd, FunD K "_law_bar" "_law_bar" (defArgs s__law_bar) (defBody s__law_bar) (defScope s__law_bar) [] [] (ga K "_law_bar") fd := E.c.d.def_ 25 (d := d__law_bar) rfl
theorem f__law_refused (E : Ctx K mg) : ∃ fd, FunD K "_law_refused" "_law_refused" (defArgs s__law_refused) (defBody s__law_refused) (defScope s__law_refused) [] [] (ga K "_law_refused") fd := E.c.d.def_ 26 (d := d__law_refused) rfl
theorem f_law (E : Ctx K mg) : ∃ fd, FunD K "law" "law" (defArgs s_law) (defBody s_law) (defScope s_law) [] [] (ga K "law") fd := E.c.d.def_ 27 (d := d_law) rfl
theorem f_BadHeap___init__ (E : Ctx K mg) : ∃ fd, FunD K "__init__" "BadHeap.__init__" (defArgs s_BadHeap___init__) (defBody s_BadHeap___init__) (defScope s_BadHeap___init__) [] [] (ma K (ga K "BadHeap") "__init__") fd := E.c.d.def_ 28 (d := d_BadHeap___init__) rfl
theorem x_BadHeap (E : Ctx K mg) : ExcT K "BadHeap" ["index"] := excB_ok (E.c.x)
abbrev N_BadHeap___init__ : List Str := ["self", "index"]
theorem sc_BadHeap___init__ : FnScope N_BadHeap___init__ ["self", "index"] (defScope s_BadHeap___init__) := ⟨rfl, rfl, rfl, by decide +kernel, rfl, by decide +kernel, by decide +kernel⟩
theorem i_BadHeap (E : Ctx K mg) : ExI P w K mg base 1 "BadHeap" ["index"] ["self", "index"] (spIni1 K "BadHeap" "index") := by
  obtain ⟨fd, F⟩ := f_BadHeap___init__ E
  refine ⟨g_BadHeap E, x_BadHeap E, fd, ?_, F.bindsN fun _ _ _ _ _ _ us hl => match us, hl with | [_, _], _ => rfl⟩
  refine F.ok sc_BadHeap___init__ (fun vs H Q E h => ?_) (fun cdv A outer s H vs Q E' hr h => ⟨_, PSs.nox (pss_one (ps_ost (pv 0) (pv 1))), ?_⟩)
  · obtain ⟨a, v, rfl, _⟩ := h
    rfl
  · obtain ⟨a, v, rfl, ha, q⟩ := h
    exact ⟨_, rfl, _, rfl, a, ga K "BadHeap", rfl, (x_BadHeap E).o, (x_BadHeap E).n _ (by decide), .inl ⟨ha, fun d hd ne => q d hd ne⟩⟩
end
abbrev N_is_whole : List Str := ["thing", "low", "high"]
theorem sc_is_whole : FnScope N_is_whole ["thing", "low", "high"] (defScope s_is_whole) := ⟨rfl, rfl, rfl, by decide +kernel, rfl, by decide +kernel, by decide +kernel⟩
abbrev N_check_letters : List Str := ["letters"]
theorem sc_check_letters : FnScope N_check_letters ["letters"] (defScope s_check_letters) := ⟨rfl, rfl, rfl, by decide +kernel, rfl, by decide +kernel, by decide +kernel⟩
abbrev N_check_heap : List Str := ["letters", "heap"]
theorem sc_check_heap : FnScope N_check_heap ["letters", "heap"] (defScope s_check_heap) := ⟨rfl, rfl, rfl, by decide +kernel, rfl, by decide +kernel, by decide +kernel⟩
abbrev N_letters_of : List Str := ["heap", "letter"]
theorem sc_letters_of : FnScope N_letters_of ["heap"] (defScope s_letters_of) := ⟨rfl, rfl, rfl, by decide +kernel, rfl, by decide +kernel, by decide +kernel⟩
abbrev N_count_ones : List Str := ["number", "digits"]
theorem sc_count_ones : FnScope N_count_ones ["number"] (defScope s_count_ones) := ⟨rfl, rfl, rfl, by decide +kernel, rfl, by decide +kernel, by decide +kernel⟩
abbrev N_all_letters : List Str := ["letters"]
theorem sc_all_letters : FnScope N_all_letters ["letters"] (defScope s_all_letters) := ⟨rfl, rfl, rfl, by decide +kernel, rfl, by decide +kernel, by decide +kernel⟩
abbrev N_is_below : List Str := ["heap", "other"]
theorem sc_is_below : FnScope N_is_below ["heap", "other"] (defScope s_is_below) := ⟨rfl, rfl, rfl, by decide +kernel, rfl, by decide +kernel, by decide +kernel⟩
abbrev N_heaps_left : List Str := ["heap", "letter"]
theorem sc_heaps_left : FnScope N_heaps_left ["heap"] (defScope s_heaps_left) := ⟨rfl, rfl, rfl, by decide +kernel, rfl, by decide +kernel, by decide +kernel⟩
abbrev N_descents_of : List Str := ["heap", "replaced", "letter", "lower"]
theorem sc_descents_of : FnScope N_descents_of ["heap"] (defScope s_descents_of) := ⟨rfl, rfl, rfl, by decide +kernel, rfl, by decide +kernel, by decide +kernel⟩
abbrev N_all_below : List Str := ["heap", "lower"]
theorem sc_all_below : FnScope N_all_below ["heap"] (defScope s_all_below) := ⟨rfl, rfl, rfl, by decide +kernel, rfl, by decide +kernel, by decide +kernel⟩
abbrev N_way_down : List Str := ["heap", "other", "way", "letters", "old", "new"]
theorem sc_way_down : FnScope N_way_down ["heap", "other"] (defScope s_way_down) := ⟨rfl, rfl, rfl, by decide +kernel, rfl, by decide +kernel, by decide +kernel⟩
abbrev N_bar_letter : List Str := ["heap", "other", "letter"]
theorem sc_bar_letter : FnScope N_bar_letter ["heap", "other"] (defScope s_bar_letter) := ⟨rfl, rfl, rfl, by decide +kernel, rfl, by decide +kernel, by decide +kernel⟩
abbrev N__law_mix : List Str := ["_law_number", "_law_turn", "_law_once", "_law_twice"]
theorem sc__law_mix : FnScope N__law_mix ["_law_number", "_law_turn"] (defScope s__law_mix) := ⟨rfl, rfl, rfl, by decide +kernel, rfl, by decide +kernel, by decide +kernel⟩
abbrev N__law_hand : List Str := ["_law_script", "_law_total", "_law_at", "_law_cell"]
theorem sc__law_hand : FnScope N__law_hand ["_law_script"] (defScope s__law_hand) := ⟨rfl, rfl, rfl, by decide +kernel, rfl, by decide +kernel, by decide +kernel⟩
abbrev N__law_draw : List Str := ["_law_hand_here", "_law_many", "_law_cell", "_law_rest"]
theorem sc__law_draw : FnScope N__law_draw ["_law_hand_here", "_law_many"] (defScope s__law_draw) := ⟨rfl, rfl, rfl, by decide +kernel, rfl, by decide +kernel, by decide +kernel⟩
abbrev N__law_wide : List Str := ["_law_hand_here", "_law_bits", "_law_number", "_law_k"]
theorem sc__law_wide : FnScope N__law_wide ["_law_hand_here", "_law_bits"] (defScope s__law_wide) := ⟨rfl, rfl, rfl, by decide +kernel, rfl, by decide +kernel, by decide +kernel⟩
abbrev N__law_ones : List Str := ["_law_number", "_law_many"]
theorem sc__law_ones : FnScope N__law_ones ["_law_number"] (defScope s__law_ones) := ⟨rfl, rfl, rfl, by decide +kernel, rfl, by decide +kernel, by decide +kernel⟩
abbrev N__law_is_below : List Str := ["_law_f", "_law_g", "_law_letter"]
theorem sc__law_is_below : FnScope N__law_is_below ["_law_f", "_law_g"] (defScope s__law_is_below) := ⟨rfl, rfl, rfl, by decide +kernel, rfl, by decide +kernel, by decide +kernel⟩
abbrev N__law_left_out : List Str := ["_law_heap", "_law_i"]
theorem sc__law_left_out : FnScope N__law_left_out ["_law_heap"] (defScope s__law_left_out) := ⟨rfl, rfl, rfl, by decide +kernel, rfl, by decide +kernel, by decide +kernel⟩
abbrev N__law_lowered : List Str := ["_law_heap", "_law_found", "_law_i", "_law_k"]
theorem sc__law_lowered : FnScope N__law_lowered ["_law_heap"] (defScope s__law_lowered) := ⟨rfl, rfl, rfl, by decide +kernel, rfl, by decide +kernel, by decide +kernel⟩
abbrev N__law_truth : List Str := ["_law_told", "_law_due"]
theorem sc__law_truth : FnScope N__law_truth ["_law_told", "_law_due"] (defScope s__law_truth) := ⟨rfl, rfl, rfl, by decide +kernel, rfl, by decide +kernel, by decide +kernel⟩
abbrev N__law_exact : List Str := ["_law_told", "_law_due", "_law_k"]
theorem sc__law_exact : FnScope N__law_exact ["_law_told", "_law_due"] (defScope s__law_exact) := ⟨rfl, rfl, rfl, by decide +kernel, rfl, by decide +kernel, by decide +kernel⟩
abbrev N__law_letter_row : List Str := ["_law_heap", "_law_i"]
theorem sc__law_letter_row : FnScope N__law_letter_row ["_law_heap"] (defScope s__law_letter_row) := ⟨rfl, rfl, rfl, by decide +kernel, rfl, by decide +kernel, by decide +kernel⟩
abbrev N__law_descents : List Str := ["_law_heap"]
theorem sc__law_descents : FnScope N__law_descents ["_law_heap"] (defScope s__law_descents) := ⟨rfl, rfl, rfl, by decide +kernel, rfl, by decide +kernel, by decide +kernel⟩
abbrev N__law_way : List Str := ["_law_heap", "_law_other", "_law_now", "_law_way_here", "_law_k", "_law_mine", "_law_wished"]
theorem sc__law_way : FnScope N__law_way ["_law_heap", "_law_other"] (defScope s__law_way) := ⟨rfl, rfl, rfl, by decide +kernel, rfl, by decide +kernel, by decide +kernel⟩
abbrev N__law_bar : List Str := ["_law_heap", "_law_other", "_law_k"]
theorem sc__law_bar : FnScope N__law_bar ["_law_heap", "_law_other"] (defScope s__law_bar) := ⟨rfl, rfl, rfl, by decide +kernel, rfl, by decide +kernel, by decide +kernel⟩
abbrev N__law_refused : List Str := ["_law_way_here", "_law_one", "_law_other", "_law_told", "e"]
theorem sc__law_refused : FnScope N__law_refused ["_law_way_here", "_law_one", "_law_other"] (defScope s__law_refused) := ⟨rfl, rfl, rfl, by decide +kernel, rfl, by decide +kernel, by decide +kernel⟩
abbrev N_law : List Str := ["_law_script", "_law_hand_here", "_law_other", "_law_below", "_law_heap", "_law_way_here", "_law_k", "_law_good", "_law_odd"]
theorem sc_law : FnScope N_law ["_law_script"] (defScope s_law) := ⟨rfl, rfl, rfl, by decide +kernel, rfl, by decide +kernel, by decide +kernel⟩
end Lw

set_option Elab.async false
set_option linter.all false
set_option maxRecDepth 100000
set_option maxHeartbeats 4000000
namespace Lw
open PySem PySem.Spec PyProof.Rows L2 He Evl StX
local macro_rules | `(tactic| walk_at "rd") => `(tactic| (repeat first
  | with_reducible refine rd_seq ?_
  | with_reducible refine rd_asg ?_
  | with_reducible refine rd_ret ?_
  | with_reducible refine rd_next ?_
  | with_reducible refine rd_drop ?_
  | with_reducible refine rd_if ?_
  | with_reducible refine rd_ifE ?_
  | ((with_reducible refine' rd_var ?hv ?_); (case hv => rfl))
  | with_reducible refine rd_c ?_
  | with_reducible refine rd_op ?_
  | with_reducible refine rd_chain ?_
  | with_reducible refine rd_I0 ?_
  | with_reducible refine rd_test ?_
  | with_reducible refine rd_B ?_
  | with_reducible refine rd_bl ?_
  | with_reducible refine rd_not ?_
  | with_reducible refine rd_and ?_
  | with_reducible refine rd_or ?_
  | with_reducible refine rd_andV ?_
  | with_reducible refine rd_orV ?_
  | with_reducible refine rd_notV ?_
  | with_reducible refine rd_cons ?_
  | with_reducible refine rd_nil ?_
  | with_reducible refine rd_CB ?_
  | with_reducible refine rd_callS ?_
  | with_reducible refine rd_raise0 ?_
  | with_reducible refine rd_raise1 ?_
  | with_reducible refine rd_raise2 ?_
  | ((with_reducible refine' rd_eq ?hs ?_); (case hs => rfl))
  | ((with_reducible refine' rd_ne ?hs ?_); (case hs => rfl))
  | ((with_reducible refine' rd_isT ?th ?hT ?_); (case th => assumption); (case hT => decide))
  | with_reducible refine rd_tup ?_
  | with_reducible refine rd_lst ?_
  | with_reducible refine rd_iEnum ?_
  | ((with_reducible refine' rd_ixl ?hl ?hk ?_); (case hl => assumption); (case hk => rfl))
  | with_reducible refine rd_int1 ?_
  | with_reducible refine rd_sub ?_
  | with_reducible refine rd_gcons ?_
  | with_reducible refine rd_gnil ?_
  | with_reducible refine rd_iZip ?_
  | with_reducible refine rd_BM ?_
  | with_reducible refine rd_neg ?_
  | ((with_reducible refine' rd_last ?hl ?_); (case hl => assumption))
  | with_reducible refine rd_lc2 ?_
  | with_reducible refine rd_Rg1 ?_
  | with_reducible refine rd_for ?_
  | with_reducible refine rd_iRev ?_
  | with_reducible refine rd_gname ?_
  | with_reducible refine rd_NN ?_
  | with_reducible refine rd_NL ?_
  | with_reducible refine rd_LN ?_
  | ((with_reducible refine' rd_shl1 ?hs ?_); (case hs => omega))
  | ((with_reducible refine' rd_I ?hs ?_); (case hs => first | omega | decide | exact ⟨by decide, by decide, by decide⟩ | exact ⟨by omega, by omega⟩))
  | with_reducible refine rd_tr ?_
  | with_reducible refine rd_trI ?_
  | with_reducible refine rd_star ?_
  | with_reducible refine rd_fmtB ?_
  | with_reducible refine rd_M1 ?_
  | with_reducible refine rd_un ?_
  | with_reducible refine rd_lc ?_
  | with_reducible refine rd_iT ?_
  | with_reducible refine rd_iL ?_
  | with_reducible refine rd_iR1 ?_
  | with_reducible refine rd_iR2 ?_
  | dsimp only [List.set, start]))
section
variable {P : Program} {w : World} {K : PySem.W.Frag} {mg : Str → Option Value} {base : Heap}

def Chk (b : Bool) (A B : Prop) : Prop := (b = true → A) ∧ (b = false → B)
def Let (K : PySem.W.Frag) (l : V) (E : XK) (H : Hp) (A : Nat → Prop) : Prop := Thg K H l ∧ (wholeV 1 5 l = false → Er0 K "BadLetters" E H) ∧ ∀ m : Nat, l = .int m → 1 ≤ m → m ≤ 5 → A m
theorem whole_nat {lo hi : Int} {x : V} (h : wholeV lo hi x = true) (h0 : 0 ≤ lo) : ∃ n : Nat, x = .int n ∧ lo ≤ n ∧ (n : Int) ≤ hi := by
  cases x with
  | int i =>
    have h2 : (decide (lo ≤ i) && decide (i ≤ hi)) = true := h
    simp only [Bool.and_eq_true, decide_eq_true_eq] at h2
    exact ⟨i.toNat, by rw [Int.toNat_of_nonneg (by omega)], by omega, by omega⟩
  | _ => cases h
theorem whole_of {lo hi : Int} {n : Nat} (h1 : lo ≤ n) (h2 : (n : Int) ≤ hi) : wholeV lo hi (.int n) = true := by
  show (decide (lo ≤ (n : Int)) && decide ((n : Int) ≤ hi)) = true
  simp [h1, h2]
theorem not_true {b : Bool} (h : (!b) = true) : b = false := by cases b <;> simp_all
theorem not_false {b : Bool} (h : (!b) = false) : b = true := by cases b <;> simp_all
def RetT (H : Hp) (Q : VK) (ns : List Int) : Prop := ∀ p H', H p = none → Ex H H' → H' p = some (.tup (ns.map V.int)) → Q (.ref p) H'
def spWhole (K : PySem.W.Frag) : Sp := fun vs H Q _ => ∃ (x : V) (lo hi : Int), vs = [x, .int lo, .int hi] ∧ Thg K H x ∧ Q (.bl (wholeV lo hi x)) H
theorem h_is_whole (E : Ctx K mg) : Has P w K mg base 2 "is_whole" ["thing", "low", "high"] (spWhole K) := by
  obtain ⟨fd, F⟩ := f_is_whole E
  refine ⟨⟨fd, ?_, F.bindsN fun _ _ _ _ _ _ us hl => match us, hl with | [_, _, _], _ => rfl⟩, g_is_whole E, F.kp⟩
  refine F.ok sc_is_whole (fun vs H Q E' h => ?len) (fun cdv A outer s H vs Q E' hr h => ⟨_, (pss_one (ps_ret (pe_and (pe_callB (kc_isT (K := K) rfl) rfl (b_isinstance E) (by decide +kernel) (pa_cons (pv 0) (pa_cons (pe_bltn rfl (b_int E) (by decide +kernel) (v := .ty "int") rfl) pa_nil))) (pe_and (pe_not (pe_callB (kc_isT (K := K) rfl) rfl (b_isinstance E) (by decide +kernel) (pa_cons (pv 0) (pa_cons (pe_bltn rfl (b_bool E) (by decide +kernel) (v := .ty "bool") rfl) pa_nil)))) (pe_one (pe_chain op_le op_le (pv 1) (pv 0) (pv 2))))))), ?rd⟩)
  case len =>
    obtain ⟨x, lo, hi, rfl, _⟩ := h
    rfl
  case rd =>
    obtain ⟨x, lo, hi, rfl, ⟨n, th⟩, q⟩ := h
    walk_at "rd"
    rcases th_cases th with ⟨h1, h2, i, rfl⟩ | ⟨h1, h2⟩
    · refine ⟨fun _ => ?_, fun z => by rw [h1] at z; cases z⟩
      walk_at "rd"
      refine ⟨fun _ => ?_, fun z => by rw [h2] at z; cases z⟩
      walk_at "rd"
      have e : wholeV lo hi (.int i) = (decide (lo ≤ i) && decide (i ≤ hi)) := rfl
      exact ⟨fun z => by walk_at "rd"; rw [e, z, Bool.true_and] at q; exact q, fun z => by rw [e, z, Bool.false_and] at q; exact q⟩
    · refine ⟨fun z => ?_, fun z => by rw [h2] at q; exact q⟩
      walk_at "rd"
      rw [h2] at q
      refine ⟨fun z2 => ?_, fun _ => q⟩
      rcases h1 with h1 | h1
      · rw [h1] at z; cases z
      · rw [h1] at z2; cases z2
def spCheckLetters (K : PySem.W.Frag) : Sp := fun vs H Q E => ∃ l : V, vs = [l] ∧ Let K l E H fun m => Q (.int m) H
theorem h_check_letters (E : Ctx K mg) : Has P w K mg base 4 "check_letters" ["letters"] (spCheckLetters K) := by
  obtain ⟨fd, F⟩ := f_check_letters E
  refine ⟨⟨fd, ?_, F.bindsN fun _ _ _ _ _ _ us hl => match us, hl with | [_], _ => rfl⟩, g_check_letters E, F.kp⟩
  refine F.ok sc_check_letters (fun vs H Q E' h => ?len) (fun cdv A outer s H vs Q E' hr h => ⟨_, (pss_cons (ps_if (pt_not (pt_val (pe_H (h_is_whole E) (hr.mono (by decide)) (takes_of rfl rfl rfl rfl) (pa_cons (pv 0) (pa_cons pe_int (pa_cons (pe_glob (v := .int 5) rfl (k_MOST_LETTERS E).choose_spec ⟨_, rfl⟩) pa_nil))))))
 (pss_one (ps_raise0 rfl (takes_of rfl rfl rfl rfl) (x0_BadLetters E)))
 pss_nil)
 (pss_one (ps_ret (pv 0)))), ?rd⟩)
  case len =>
    obtain ⟨l, rfl, _⟩ := h
    rfl
  case rd =>
    obtain ⟨l, rfl, th, hb, hg⟩ := h
    walk_at "rd"
    refine ⟨l, 1, 5, rfl, th, ?_⟩
    walk_at "rd"
    refine ⟨fun z => ?_, fun z => ?_⟩
    · walk_at "rd"
      exact hb (not_true z)
    · walk_at "rd"
      obtain ⟨n, rfl, h1, h2⟩ := whole_nat (not_false z) (by decide)
      exact hg n rfl (by omega) (by omega)
def spAllLetters (K : PySem.W.Frag) : Sp := fun vs H Q E => ∃ l : V, vs = [l] ∧ Let K l E H fun m => Q (.int ((2 ^ m - 1 : Nat) : Int)) H
theorem h_all_letters (E : Ctx K mg) : Has P w K mg base 5 "all_letters" ["letters"] (spAllLetters K) := by
  obtain ⟨fd, F⟩ := f_all_letters E
  refine ⟨⟨fd, ?_, F.bindsN fun _ _ _ _ _ _ us hl => match us, hl with | [_], _ => rfl⟩, g_all_letters E, F.kp⟩
  refine F.ok sc_all_letters (fun vs H Q E' h => ?len) (fun cdv A outer s H vs Q E' hr h => ⟨_, (pss_one (ps_ret (pe_op op_sub (pe_op on_shl pe_int (pe_H (h_check_letters E) (hr.mono (by decide)) (takes_of rfl rfl rfl rfl) (pa_cons (pv 0) pa_nil))) pe_int))), ?rd⟩)
  case len =>
    obtain ⟨l, rfl, _⟩ := h
    rfl
  case rd =>
    obtain ⟨l, rfl, th, hb, hg⟩ := h
    walk_at "rd"
    refine ⟨l, rfl, th, hb, fun m e h1 h2 => ?_⟩
    obtain rfl := e
    walk_at "rd"
    have e2 : ((2 ^ m : Nat) : Int) - 1 = ((2 ^ m - 1 : Nat) : Int) := by
      rcases (show m = 1 ∨ m = 2 ∨ m = 3 ∨ m = 4 ∨ m = 5 by omega) with rfl | rfl | rfl | rfl | rfl <;> decide
    rw [e2]
    exact hg m rfl h1 h2
def spCheckHeap (K : PySem.W.Frag) : Sp := fun vs H Q E => ∃ l x : V, vs = [l, x] ∧ Thg K H x ∧ Let K l E H fun m => Chk (wholeV 0 ((2 ^ m - 1 : Nat) : Int) x) (Q x H) (Er K "BadHeap" [("index", .int 0)] E H)
theorem h_check_heap (E : Ctx K mg) : Has P w K mg base 6 "check_heap" ["letters", "heap"] (spCheckHeap K) := by
  obtain ⟨fd, F⟩ := f_check_heap E
  refine ⟨⟨fd, ?_, F.bindsN fun _ _ _ _ _ _ us hl => match us, hl with | [_, _], _ => rfl⟩, g_check_heap E, F.kp⟩
  refine F.ok sc_check_heap (fun vs H Q E' h => ?len) (fun cdv A outer s H vs Q E' hr h => ⟨_, (pss_cons (ps_if (pt_not (pt_val (pe_H (h_is_whole E) (hr.mono (by decide)) (takes_of rfl rfl rfl rfl) (pa_cons (pv 1) (pa_cons pe_int (pa_cons (pe_H (h_all_letters E) (hr.mono (by decide)) (takes_of rfl rfl rfl rfl) (pa_cons (pv 0) pa_nil)) pa_nil))))))
 (pss_one (ps_raise1 rfl (takes_of rfl rfl rfl rfl) (i_BadHeap E) (hr.mono (by decide)) pe_int))
 pss_nil)
 (pss_one (ps_ret (pv 1)))), ?rd⟩)
  case len =>
    obtain ⟨l, x, rfl, _⟩ := h
    rfl
  case rd =>
    obtain ⟨l, x, rfl, tx, th, hb, hg⟩ := h
    walk_at "rd"
    refine ⟨l, rfl, th, hb, fun m e h1 h2 => ?_⟩
    walk_at "rd"
    refine ⟨x, 0, _, rfl, tx, ?_⟩
    walk_at "rd"
    refine ⟨fun z => ?_, fun z => ?_⟩
    · walk_at "rd"
      exact rd_mk1 ((hg m e h1 h2).2 (not_true z))
    · walk_at "rd"
      exact (hg m e h1 h2).1 (not_false z)
def spOnes : Sp := fun vs H Q _ => ∃ n : Nat, vs = [.int n] ∧ n < 4294967296 ∧ Q (.int (onesN n)) H
theorem h_count_ones (E : Ctx K mg) : Has P w K mg base 2 "count_ones" ["number"] (spOnes) := by
  obtain ⟨fd, F⟩ := f_count_ones E
  refine ⟨⟨fd, ?_, F.bindsN fun _ _ _ _ _ _ us hl => match us, hl with | [_], _ => rfl⟩, g_count_ones E, F.kp⟩
  refine F.ok sc_count_ones (fun vs H Q E' h => ?len) (fun cdv A outer s H vs Q E' hr h => ⟨_, (pss_cons (ps_set (i := 1) sc_count_ones.nd rfl (.inl rfl) (pe_fs1 (pe_fmtB (pv 0))))
 (pss_one (ps_ret (pe_m1 PySem.F.slot_str_count PySem.F.type_str_count mt_count (pv 1) pe_str)))), ?rd⟩)
  case len =>
    obtain ⟨l, rfl, _⟩ := h
    rfl
  case rd =>
    obtain ⟨n, rfl, hn, q⟩ := h
    walk_at "rd"
    refine ⟨n, rfl, Nat.le_trans (binL_len n (k := 32) (by decide) (by omega)) (by decide), ?_⟩
    walk_at "rd"
    refine ⟨⟨_, rfl⟩, ?_⟩
    walk_at "rd"
    refine ⟨_, _, rfl, rfl, ?_⟩
    rw [count_bin]
    exact q
theorem mod_test (a : Nat) : (a % 2 != 0) = (a % 2 == 1) := by
  rcases Nat.mod_two_eq_zero_or_one a with h | h <;> rw [h] <;> rfl
/-- the letters of a heap -/
def lets (n : Nat) : List Nat := (List.range 5).filter fun i => n / 2 ^ i % 2 == 1
def intsL (l : List Nat) : List Int := l.map fun (n : Nat) => (n : Int)
def spLettersOf (K : PySem.W.Frag) : Sp := fun vs H Q E => ∃ x : V, vs = [x] ∧ Thg K H x ∧ (wholeV 0 31 x = false → Er K "BadHeap" [("index", .int 0)] E H) ∧
  ∀ n : Nat, x = .int n → n < 32 → RetT H Q (intsL (lets n))
theorem h_letters_of (E : Ctx K mg) : Has P w K mg base 7 "letters_of" ["heap"] (spLettersOf K) := by
  obtain ⟨fd, F⟩ := f_letters_of E
  refine ⟨⟨fd, ?_, F.bindsN fun _ _ _ _ _ _ us hl => match us, hl with | [_], _ => rfl⟩, g_letters_of E, F.kp⟩
  refine F.ok sc_letters_of (fun vs H Q E' h => ?len) (fun cdv A outer s H vs Q E' hr h => ⟨_, (pss_cons (ps_expr (pe_H (h_check_heap E) (hr.mono (by decide)) (takes_of rfl rfl rfl rfl) (pa_cons (pe_glob (v := .int 5) rfl (k_MOST_LETTERS E).choose_spec ⟨_, rfl⟩) (pa_cons (pv 0) pa_nil))))
 (pss_one (ps_ret (pe_callTy (kc_tup (K := K) rfl) rfl (b_tuple E) (by decide +kernel) (pa_cons (pe_lc (own := [("letter", 1)]) (g := gName 1) rfl sc_letters_of.nd (pi_range1 rfl (b_range E) (pa_cons (pe_glob (v := .int 5) rfl (k_MOST_LETTERS E).choose_spec ⟨_, rfl⟩) pa_nil)) (blkOk_by (own := [("letter", 1)]) (N := N_letters_of) (sc := defScope s_letters_of) (by decide +kernel)) (fun _ _ _ _ _ => (pg_name (i := 1) sc_letters_of.nd rfl (.inl rfl))) (fun _ _ _ _ _ => (pts_one (kt_truth (K := K) rfl (pe_op on_and (pe_op on_shr (pv 0) (pv 1)) pe_int) (by intro _; rfl)))) (fun _ _ _ _ _ => (pv 1))) pa_nil))))), ?rd⟩)
  case len =>
    obtain ⟨x, rfl, _⟩ := h
    rfl
  case rd =>
    obtain ⟨x, rfl, tx, hb, hg⟩ := h
    walk_at "rd"
    refine ⟨.int 5, x, rfl, tx, ⟨_, th_int 5⟩, fun z => absurd z (by decide), fun m e h1 h2 => ?_⟩
    obtain rfl : m = 5 := by injection e with e; omega
    refine ⟨fun z => ?_, fun z => hb z⟩
    walk_at "rd"
    obtain ⟨n, rfl, h3, h4⟩ := whole_nat z (by decide)
    refine ⟨5, rfl, by decide, by decide, lc_rng0 (n := 5) (fun i => n / 2 ^ i % 2 == 1) (fun i => .int (i : Int)) (by decide) (fun _ => rfl) (fun i H1 e1 hi H2 e3 R q => ?_) (fun i H1 e1 hi hf H2 e3 R q => ?_) fun p H' hp e2 hl => ?_⟩
    · walk_at "rd"
      rw [bne_cast, Nat.and_one_is_mod, mod_test]
      exact q _ (Ex.refl _)
    · walk_at "rd"
      exact q _ (Ex.refl _)
    · walk_at "rd"
      refine ⟨p, _, rfl, .inl ⟨sq_of hl, fun l hn => ?_⟩⟩
      walk_at "rd"
      refine hg n rfl (by omega) l _ (fresh_back e2 hn) (e2.trans (Ex.new hn)) ?_
      rw [upd_same]
      show some (HO.tup (given 5 (fun i => n / 2 ^ i % 2 == 1) fun i => .int (i : Int))) = _
      unfold given intsL lets
      rw [List.map_map]
      rfl

end
end Lw

set_option Elab.async false
set_option linter.all false
set_option maxRecDepth 100000
set_option maxHeartbeats 4000000
namespace Lw
open PySem PySem.Spec PyProof.Rows L2 He Evl StX
local macro_rules | `(tactic| walk_at "rd") => `(tactic| (repeat first
  | with_reducible refine rd_seq ?_
  | with_reducible refine rd_asg ?_
  | with_reducible refine rd_ret ?_
  | with_reducible refine rd_next ?_
  | with_reducible refine rd_drop ?_
  | with_reducible refine rd_if ?_
  | with_reducible refine rd_ifE ?_
  | ((with_reducible refine' rd_var ?hv ?_); (case hv => rfl))
  | with_reducible refine rd_c ?_
  | with_reducible refine rd_op ?_
  | with_reducible refine rd_chain ?_
  | with_reducible refine rd_I0 ?_
  | with_reducible refine rd_test ?_
  | with_reducible refine rd_B ?_
  | with_reducible refine rd_bl ?_
  | with_reducible refine rd_not ?_
  | with_reducible refine rd_and ?_
  | with_reducible refine rd_or ?_
  | with_reducible refine rd_andV ?_
  | with_reducible refine rd_orV ?_
  | with_reducible refine rd_notV ?_
  | with_reducible refine rd_cons ?_
  | with_reducible refine rd_nil ?_
  | with_reducible refine rd_CB ?_
  | with_reducible refine rd_callS ?_
  | with_reducible refine rd_raise0 ?_
  | with_reducible refine rd_raise1 ?_
  | with_reducible refine rd_raise2 ?_
  | ((with_reducible refine' rd_eq ?hs ?_); (case hs => rfl))
  | ((with_reducible refine' rd_ne ?hs ?_); (case hs => rfl))
  | ((with_reducible refine' rd_isT ?th ?hT ?_); (case th => assumption); (case hT => decide))
  | with_reducible refine rd_tup ?_
  | with_reducible refine rd_lst ?_
  | with_reducible refine rd_iEnum ?_
  | ((with_reducible refine' rd_ixl ?hl ?hk ?_); (case hl => assumption); (case hk => rfl))
  | with_reducible refine rd_int1 ?_
  | with_reducible refine rd_sub ?_
  | with_reducible refine rd_gcons ?_
  | with_reducible refine rd_gnil ?_
  | with_reducible refine rd_iZip ?_
  | with_reducible refine rd_BM ?_
  | with_reducible refine rd_neg ?_
  | ((with_reducible refine' rd_last ?hl ?_); (case hl => assumption))
  | with_reducible refine rd_lc2 ?_
  | with_reducible refine rd_Rg1 ?_
  | with_reducible refine rd_for ?_
  | with_reducible refine rd_iRev ?_
  | with_reducible refine rd_gname ?_
  | with_reducible refine rd_NN ?_
  | with_reducible refine rd_NL ?_
  | with_reducible refine rd_LN ?_
  | ((with_reducible refine' rd_shl1 ?hs ?_); (case hs => omega))
  | ((with_reducible refine' rd_I ?hs ?_); (case hs => first | omega | decide | exact ⟨by decide, by decide, by decide⟩ | exact ⟨by omega, by omega⟩))
  | with_reducible refine rd_tr ?_
  | with_reducible refine rd_trI ?_
  | with_reducible refine rd_star ?_
  | with_reducible refine rd_fmtB ?_
  | with_reducible refine rd_M1 ?_
  | with_reducible refine rd_un ?_
  | with_reducible refine rd_lc ?_
  | with_reducible refine rd_iT ?_
  | with_reducible refine rd_iL ?_
  | with_reducible refine rd_iR1 ?_
  | with_reducible refine rd_iR2 ?_
  | dsimp only [List.set, start]))
section
variable {P : Program} {w : World} {K : PySem.W.Frag} {mg : Str → Option Value} {base : Heap}

def barP (n m l : Nat) : Bool := decide (onesN (m / 2 ^ l) < onesN (n / 2 ^ l))
def barN (n m : Nat) : Option Nat := [4, 3, 2, 1, 0].find? (barP n m)
theorem barP_t {n m l : Nat} (h : onesN (m / 2 ^ l) < onesN (n / 2 ^ l)) : barP n m l = true := decide_eq_true h
theorem barP_f {n m l : Nat} (h : ¬ onesN (m / 2 ^ l) < onesN (n / 2 ^ l)) : ¬ barP n m l = true := fun z => h (of_decide_eq_true z)
theorem bar_hit {n m i : Nat} (hi : i < 5) (h : ∀ k, k < i → ¬ onesN (m / 2 ^ (4 - k)) < onesN (n / 2 ^ (4 - k))) (hc : onesN (m / 2 ^ (4 - i)) < onesN (n / 2 ^ (4 - i))) : barN n m = some (4 - i) := by
  unfold barN
  rcases (show i = 0 ∨ i = 1 ∨ i = 2 ∨ i = 3 ∨ i = 4 by omega) with rfl | rfl | rfl | rfl | rfl
  · rw [List.find?_cons_of_pos (p := barP n m) (barP_t hc)]
  · rw [List.find?_cons_of_neg (p := barP n m) (barP_f (h 0 (by omega))), List.find?_cons_of_pos (p := barP n m) (barP_t hc)]
  · rw [List.find?_cons_of_neg (p := barP n m) (barP_f (h 0 (by omega))), List.find?_cons_of_neg (p := barP n m) (barP_f (h 1 (by omega))), List.find?_cons_of_pos (p := barP n m) (barP_t hc)]
  · rw [List.find?_cons_of_neg (p := barP n m) (barP_f (h 0 (by omega))), List.find?_cons_of_neg (p := barP n m) (barP_f (h 1 (by omega))), List.find?_cons_of_neg (p := barP n m) (barP_f (h 2 (by omega))), List.find?_cons_of_pos (p := barP n m) (barP_t hc)]
  · rw [List.find?_cons_of_neg (p := barP n m) (barP_f (h 0 (by omega))), List.find?_cons_of_neg (p := barP n m) (barP_f (h 1 (by omega))), List.find?_cons_of_neg (p := barP n m) (barP_f (h 2 (by omega))), List.find?_cons_of_neg (p := barP n m) (barP_f (h 3 (by omega))), List.find?_cons_of_pos (p := barP n m) (barP_t hc)]
theorem bar_none {n m : Nat} (h : ∀ k, k < 5 → ¬ onesN (m / 2 ^ (4 - k)) < onesN (n / 2 ^ (4 - k))) : barN n m = none := by
  unfold barN
  rw [List.find?_cons_of_neg (p := barP n m) (barP_f (h 0 (by omega))), List.find?_cons_of_neg (p := barP n m) (barP_f (h 1 (by omega))), List.find?_cons_of_neg (p := barP n m) (barP_f (h 2 (by omega))), List.find?_cons_of_neg (p := barP n m) (barP_f (h 3 (by omega))), List.find?_cons_of_neg (p := barP n m) (barP_f (h 4 (by omega)))]
  rfl
def optV : Option Nat → V
  | none => .non
  | some n => .int (n : Int)
/-- two heaps of five letters -/
def Two (K : PySem.W.Frag) (x y : V) (E : XK) (H : Hp) (A : Nat → Nat → Prop) : Prop := Thg K H x ∧ Thg K H y ∧ (wholeV 0 31 x = false → Er K "BadHeap" [("index", .int 0)] E H) ∧ (wholeV 0 31 x = true → wholeV 0 31 y = false → Er K "BadHeap" [("index", .int 0)] E H) ∧
  ∀ n m : Nat, x = .int n → y = .int m → n < 32 → m < 32 → A n m
theorem heap5 {K : PySem.W.Frag} {x : V} {H : Hp} {E : XK} {Q : VK} (tx : Thg K H x) (hb : wholeV 0 31 x = false → Er K "BadHeap" [("index", .int 0)] E H) (hg : wholeV 0 31 x = true → Q x H) : spCheckHeap K [.int 5, x] H Q E :=
  ⟨.int 5, x, rfl, tx, ⟨_, th_int 5⟩, fun z => absurd z (by decide), fun m e h1 h2 => by
    obtain rfl : m = 5 := by injection e with e; omega
    exact ⟨hg, hb⟩⟩
theorem ones_ok {H : Hp} {Q : VK} {E : XK} {n : Nat} (h : n < 4294967296) (q : Q (.int ((onesN n : Nat) : Int)) H) : spOnes [.int (n : Int)] H Q E := ⟨n, rfl, h, q⟩
def spBar (K : PySem.W.Frag) : Sp := fun vs H Q E => ∃ x y : V, vs = [x, y] ∧ Two K x y E H fun n m => Q (optV (barN n m)) H
theorem h_bar_letter (E : Ctx K mg) : Has P w K mg base 7 "bar_letter" ["heap", "other"] (spBar K) := by
  obtain ⟨fd, F⟩ := f_bar_letter E
  refine ⟨⟨fd, ?_, F.bindsN fun _ _ _ _ _ _ us hl => match us, hl with | [_, _], _ => rfl⟩, g_bar_letter E, F.kp⟩
  refine F.ok sc_bar_letter (fun vs H Q E' h => ?len) (fun cdv A outer s H vs Q E' hr h => ⟨_, (pss_cons (ps_expr (pe_H (h_check_heap E) (hr.mono (by decide)) (takes_of rfl rfl rfl rfl) (pa_cons (pe_glob (v := .int 5) rfl (k_MOST_LETTERS E).choose_spec ⟨_, rfl⟩) (pa_cons (pv 0) pa_nil))))
 (pss_cons (ps_expr (pe_H (h_check_heap E) (hr.mono (by decide)) (takes_of rfl rfl rfl rfl) (pa_cons (pe_glob (v := .int 5) rfl (k_MOST_LETTERS E).choose_spec ⟨_, rfl⟩) (pa_cons (pv 1) pa_nil))))
 (pss_cons (ps_for (passes_of rfl) rfl (pi_revR rfl (b_reversed E) (prg_1 rfl (b_range E) (pe_glob (v := .int 5) rfl (k_MOST_LETTERS E).choose_spec ⟨_, rfl⟩))) (pg_name (i := 2) sc_bar_letter.nd rfl (.inl rfl))
 (pss_one (ps_if (pt_cmpR op_gt (pe_H (h_count_ones E) (hr.mono (by decide)) (takes_of rfl rfl rfl rfl) (pa_cons (pe_op on_shr (pv 0) (pv 2)) pa_nil)) (pe_H (h_count_ones E) (hr.mono (by decide)) (takes_of rfl rfl rfl rfl) (pa_cons (pe_op on_shr (pv 1) (pv 2)) pa_nil)) (nomark _))
 (pss_one (ps_ret (pv 2)))
 pss_nil)))
 (pss_one (ps_ret pe_non))))), ?rd⟩)
  case len =>
    obtain ⟨x, y, rfl, _⟩ := h
    rfl
  case rd =>
    obtain ⟨x, y, rfl, tx, ty, hx, hy, hg⟩ := h
    walk_at "rd"
    refine heap5 tx hx fun zx => ?_
    walk_at "rd"
    refine heap5 ty (hy zx) fun zy => ?_
    obtain ⟨n, rfl, h1, h2⟩ := whole_nat zx (by decide)
    obtain ⟨m, rfl, h3, h4⟩ := whole_nat zy (by decide)
    have q : Q (optV (barN n m)) H := hg n m rfl rfl (by omega) (by omega)
    walk_at "rd"
    refine ⟨5, rfl, by decide, by decide, by decide, by decide, for_rangeC (lo := 4) (c := -1) (n := 5) (fun i σ H' => H' = H ∧ ∃ v, σ = [some (.int n), some (.int m), v] ∧ ∀ k, k < i → ¬ onesN (m / 2 ^ (4 - k)) < onesN (n / 2 ^ (4 - k))) ⟨rfl, none, rfl, fun k hk => absurd hk (Nat.not_lt_zero k)⟩ ?_ ?_⟩
    · rintro i σ H' hi ⟨rfl, v, rfl, hk⟩
      have e : (4 : Int) + ((i : Nat) : Int) * (-1) = ((4 - i : Nat) : Int) := by omega
      rw [e]
      walk_at "rd"
      have hn : n / 2 ^ (4 - i) < 4294967296 := Nat.lt_of_le_of_lt (Nat.div_le_self _ _) (by omega)
      have hm : m / 2 ^ (4 - i) < 4294967296 := Nat.lt_of_le_of_lt (Nat.div_le_self _ _) (by omega)
      refine ones_ok hn ?_
      walk_at "rd"
      refine ones_ok hm ?_
      walk_at "rd"
      refine ⟨fun z => ?_, fun z => ?_⟩
      · walk_at "rd"
        have z := of_decide_eq_true z
        rw [bar_hit hi hk (by omega)] at q
        exact q
      · walk_at "rd"
        have z := of_decide_eq_false z
        refine ⟨rfl, _, rfl, fun k h => ?_⟩
        by_cases ek : k = i
        · subst ek; omega
        · exact hk k (by omega)
    · rintro σ H' ⟨rfl, v, rfl, hk⟩
      walk_at "rd"
      rw [bar_none hk] at q
      exact q
def spIsBelow (K : PySem.W.Frag) : Sp := fun vs H Q E => ∃ x y : V, vs = [x, y] ∧ Two K x y E H fun n m => Q (.bl (barN n m).isNone) H
theorem h_is_below (E : Ctx K mg) : Has P w K mg base 8 "is_below" ["heap", "other"] (spIsBelow K) := by
  obtain ⟨fd, F⟩ := f_is_below E
  refine ⟨⟨fd, ?_, F.bindsN fun _ _ _ _ _ _ us hl => match us, hl with | [_, _], _ => rfl⟩, g_is_below E, F.kp⟩
  refine F.ok sc_is_below (fun vs H Q E' h => ?len) (fun cdv A outer s H vs Q E' hr h => ⟨_, (pss_one (ps_ret (pe_cmpR op_isN (pe_H (h_bar_letter E) (hr.mono (by decide)) (takes_of rfl rfl rfl rfl) (pa_cons (pv 0) (pa_cons (pv 1) pa_nil))) pe_non (nomark _)))), ?rd⟩)
  case len =>
    obtain ⟨x, y, rfl, _⟩ := h
    rfl
  case rd =>
    obtain ⟨x, y, rfl, tx, ty, hx, hy, hg⟩ := h
    walk_at "rd"
    refine ⟨x, y, rfl, tx, ty, hx, hy, fun n m e1 e2 h1 h2 => ?_⟩
    have q : Q (.bl (barN n m).isNone) H := hg n m e1 e2 h1 h2
    walk_at "rd"
    refine ⟨rfl, ?_⟩
    cases e : barN n m with
    | none => rw [e] at q; exact q
    | some l => rw [e] at q; exact q
def leftN (n : Nat) : List Int := isort ((lets n).map fun l => ((n ^^^ 2 ^ l : Nat) : Int))
theorem lets_lt {n l : Nat} (h : l ∈ lets n) : l < 5 := by
  unfold lets at h
  exact List.mem_range.mp (List.mem_filter.mp h).1
theorem lets_at {n i : Nat} {x : V} (h : ((intsL (lets n)).map V.int)[i]? = some x) : ∃ l, (lets n)[i]? = some l ∧ x = .int (l : Int) ∧ l < 5 := by
  unfold intsL at h
  rw [List.map_map, List.getElem?_map] at h
  cases e : (lets n)[i]? with
  | none => rw [e] at h; cases h
  | some l =>
    rw [e] at h
    exact ⟨l, rfl, (Option.some.inj h).symm, lets_lt (List.mem_of_getElem? e)⟩
theorem given_all {xs : List Nat} {f : Nat → V} : given xs.length (fun _ => true) (fun i => f (xs.getD i 0)) = xs.map f := by
  rw [given_map]
  refine List.ext_getElem (by simp) fun i h1 h2 => ?_
  simp only [List.getElem_map, List.getElem_range]
  rw [List.getD_eq_getElem?_getD, List.getElem?_eq_getElem (by simpa using h2)]
  rfl
def spHeapsLeft (K : PySem.W.Frag) : Sp := fun vs H Q E => ∃ x : V, vs = [x] ∧ Thg K H x ∧ (wholeV 0 31 x = false → Er K "BadHeap" [("index", .int 0)] E H) ∧
  ∀ n : Nat, x = .int n → n < 32 → RetT H Q (leftN n)
theorem h_heaps_left (E : Ctx K mg) : Has P w K mg base 8 "heaps_left" ["heap"] (spHeapsLeft K) := by
  obtain ⟨fd, F⟩ := f_heaps_left E
  refine ⟨⟨fd, ?_, F.bindsN fun _ _ _ _ _ _ us hl => match us, hl with | [_], _ => rfl⟩, g_heaps_left E, F.kp⟩
  refine F.ok sc_heaps_left (fun vs H Q E' h => ?len) (fun cdv A outer s H vs Q E' hr h => ⟨_, (pss_one (ps_ret (pe_callTy (kc_tup (K := K) rfl) rfl (b_tuple E) (by decide +kernel) (pa_cons (pe_callB (kc_sorted (K := K) rfl) rfl (b_sorted E) (by decide +kernel) (pa_cons (pe_lc (own := [("letter", 1)]) (g := gName 1) (tt := tYes) rfl sc_heaps_left.nd (ki_tup (K := K) rfl (pe_H (h_letters_of E) (hr.mono (by decide)) (takes_of rfl rfl rfl rfl) (pa_cons (pv 0) pa_nil))) (blkOk_by (own := [("letter", 1)]) (N := N_heaps_left) (sc := defScope s_heaps_left) (by decide +kernel)) (fun _ _ _ _ _ => (pg_name (i := 1) sc_heaps_left.nd rfl (.inl rfl))) (fun _ _ _ _ _ => pts_nil) (fun _ _ _ _ _ => (pe_op on_xor (pv 0) (pe_op on_shl pe_int (pv 1))))) pa_nil)) pa_nil)))), ?rd⟩)
  case len =>
    obtain ⟨x, rfl, _⟩ := h
    rfl
  case rd =>
    obtain ⟨x, rfl, tx, hb, hg⟩ := h
    walk_at "rd"
    refine ⟨x, rfl, tx, hb, fun n e hn p H1 hp e1 h1 => ?_⟩
    subst e
    have hlen : (lets n).length ≤ 5 := by
      unfold lets
      exact Nat.le_trans (List.length_filter_le _ _) (by simp)
    refine ⟨p, rfl, ⟨_, st_of h1⟩, lc_tupT (fun _ => true) (fun i => .int ((n ^^^ 2 ^ ((lets n).getD i 0) : Nat) : Int)) (st_of h1) (by simp [intsL]; omega) (fun _ => rfl) (fun i x H2 e2 hi H3 e3 R q => q _ (Ex.refl _)) (fun i x H2 e2 hi hf H3 e3 R q => ?_) fun p2 H2 hp2 e2 h2 => ?_⟩
    · obtain ⟨l, hl, rfl, l5⟩ := lets_at hi
      walk_at "rd"
      have q2 := q _ (Ex.refl _)
      rw [List.getD_eq_getElem?_getD, hl] at q2
      exact q2
    · walk_at "rd"
      have e3 : given ((intsL (lets n)).map V.int).length (fun _ => true) (fun i => V.int ((n ^^^ 2 ^ ((lets n).getD i 0) : Nat) : Int)) = ((lets n).map fun l => ((n ^^^ 2 ^ l : Nat) : Int)).map V.int := by
        rw [show ((intsL (lets n)).map V.int).length = (lets n).length by simp [intsL], given_all (f := fun l => V.int ((n ^^^ 2 ^ l : Nat) : Int)), map_int]
      rw [e3] at h2
      refine rd_sorted (sq_of h2) fun p3 hp3 => ?_
      walk_at "rd"
      refine ⟨p3, _, rfl, .inl ⟨sq_of upd_same, fun p4 hp4 => ?_⟩⟩
      have f3 := fresh_back e2 hp3
      have e4 : Ex H (upd (upd H2 p3 (.lst ((leftN n).map V.int))) p4 (.tup ((leftN n).map V.int))) := ((e1.trans e2).trans (Ex.new hp3)).trans (Ex.new hp4)
      exact hg n rfl hn p4 _ (fresh_back ((e1.trans e2).trans (Ex.new hp3)) hp4) e4 upd_same

end
end Lw

set_option Elab.async false
set_option linter.all false
set_option maxRecDepth 100000
set_option maxHeartbeats 4000000
namespace Lw
open PySem PySem.Spec PyProof.Rows L2 He Evl StX
local macro_rules | `(tactic| walk_at "rd") => `(tactic| (repeat first
  | with_reducible refine rd_seq ?_
  | with_reducible refine rd_asg ?_
  | with_reducible refine rd_ret ?_
  | with_reducible refine rd_next ?_
  | with_reducible refine rd_drop ?_
  | with_reducible refine rd_if ?_
  | with_reducible refine rd_ifE ?_
  | ((with_reducible refine' rd_var ?hv ?_); (case hv => rfl))
  | with_reducible refine rd_c ?_
  | with_reducible refine rd_op ?_
  | with_reducible refine rd_chain ?_
  | with_reducible refine rd_I0 ?_
  | with_reducible refine rd_test ?_
  | with_reducible refine rd_B ?_
  | with_reducible refine rd_bl ?_
  | with_reducible refine rd_not ?_
  | with_reducible refine rd_and ?_
  | with_reducible refine rd_or ?_
  | with_reducible refine rd_andV ?_
  | with_reducible refine rd_orV ?_
  | with_reducible refine rd_notV ?_
  | with_reducible refine rd_cons ?_
  | with_reducible refine rd_nil ?_
  | with_reducible refine rd_CB ?_
  | with_reducible refine rd_callS ?_
  | with_reducible refine rd_raise0 ?_
  | with_reducible refine rd_raise1 ?_
  | with_reducible refine rd_raise2 ?_
  | ((with_reducible refine' rd_eq ?hs ?_); (case hs => rfl))
  | ((with_reducible refine' rd_ne ?hs ?_); (case hs => rfl))
  | ((with_reducible refine' rd_isT ?th ?hT ?_); (case th => assumption); (case hT => decide))
  | with_reducible refine rd_tup ?_
  | with_reducible refine rd_lst ?_
  | with_reducible refine rd_iEnum ?_
  | ((with_reducible refine' rd_ixl ?hl ?hk ?_); (case hl => assumption); (case hk => rfl))
  | with_reducible refine rd_int1 ?_
  | with_reducible refine rd_sub ?_
  | with_reducible refine rd_gcons ?_
  | with_reducible refine rd_gnil ?_
  | with_reducible refine rd_iZip ?_
  | with_reducible refine rd_BM ?_
  | with_reducible refine rd_neg ?_
  | ((with_reducible refine' rd_last ?hl ?_); (case hl => assumption))
  | with_reducible refine rd_lc2 ?_
  | with_reducible refine rd_Rg1 ?_
  | with_reducible refine rd_for ?_
  | with_reducible refine rd_iRev ?_
  | with_reducible refine rd_gname ?_
  | with_reducible refine rd_NN ?_
  | with_reducible refine rd_NL ?_
  | with_reducible refine rd_LN ?_
  | ((with_reducible refine' rd_shl1 ?hs ?_); (case hs => omega))
  | ((with_reducible refine' rd_I ?hs ?_); (case hs => first | omega | decide | exact ⟨by decide, by decide, by decide⟩ | exact ⟨by omega, by omega⟩))
  | with_reducible refine rd_tr ?_
  | with_reducible refine rd_trI ?_
  | with_reducible refine rd_star ?_
  | with_reducible refine rd_fmtB ?_
  | with_reducible refine rd_M1 ?_
  | with_reducible refine rd_un ?_
  | with_reducible refine rd_lc ?_
  | with_reducible refine rd_iT ?_
  | with_reducible refine rd_iL ?_
  | with_reducible refine rd_iR1 ?_
  | with_reducible refine rd_iR2 ?_
  | dsimp only [List.set, start]))
section
variable {P : Program} {w : World} {K : PySem.W.Frag} {mg : Str → Option Value} {base : Heap}

theorem lets_len (n : Nat) : (lets n).length ≤ 5 := by
  unfold lets
  exact Nat.le_trans (List.length_filter_le _ _) (by simp)
/-- letters lowered -/
def lowV (n i : Nat) : List V := given ((lets n).getD i 0) (fun k => !(n / 2 ^ k % 2 == 1)) (fun k => .int ((n ^^^ 2 ^ ((lets n).getD i 0) ^^^ 2 ^ k : Nat) : Int))
def lowL (n : Nat) : List Int := (lets n).flatMap fun l => ((List.range l).filter fun k => !(n / 2 ^ k % 2 == 1)).map fun k => ((n ^^^ 2 ^ l ^^^ 2 ^ k : Nat) : Int)
def descN (n : Nat) : List Int := isort (leftN n ++ lowL n)
theorem flatMap_range {α β : Type} (d : α) : ∀ (l : List α) (F : α → List β), ((List.range l.length).flatMap fun i => F (l.getD i d)) = l.flatMap F
  | [], F => rfl
  | a :: l, F => by
    rw [List.length_cons, List.range_succ_eq_map, List.flatMap_cons, List.flatMap_map, List.flatMap_cons]
    congr 1
    exact flatMap_range d l F
theorem flat_low (n : Nat) : flat (lets n).length (fun i => (lets n).getD i 0) (fun _ k => !(n / 2 ^ k % 2 == 1)) (fun i k => .int ((n ^^^ 2 ^ ((lets n).getD i 0) ^^^ 2 ^ k : Nat) : Int)) = (lowL n).map V.int := by
  unfold flat lowL
  rw [List.map_flatMap]
  have e := flatMap_range 0 (lets n) (fun l => given l (fun k => !(n / 2 ^ k % 2 == 1)) (fun k => V.int ((n ^^^ 2 ^ l ^^^ 2 ^ k : Nat) : Int)))
  rw [e]
  congr 1
  funext l
  unfold given
  rw [List.map_map]
  rfl
def spDescents (K : PySem.W.Frag) : Sp := fun vs H Q E => ∃ x : V, vs = [x] ∧ Thg K H x ∧ (wholeV 0 31 x = false → Er K "BadHeap" [("index", .int 0)] E H) ∧
  ∀ n : Nat, x = .int n → n < 32 → RetT H Q (descN n)
theorem h_descents_of (E : Ctx K mg) : Has P w K mg base 9 "descents_of" ["heap"] (spDescents K) := by
  obtain ⟨fd, F⟩ := f_descents_of E
  refine ⟨⟨fd, ?_, F.bindsN fun _ _ _ _ _ _ us hl => match us, hl with | [_], _ => rfl⟩, g_descents_of E, F.kp⟩
  refine F.ok sc_descents_of (fun vs H Q E' h => ?len) (fun cdv A outer s H vs Q E' hr h => ⟨_, (pss_cons (ps_setLc2 (i := 1) (own := [("letter", 2), ("lower", 3)]) (vs1 := [3]) (tt := tYes) rfl sc_descents_of.nd rfl rfl (sw_true rfl rfl rfl (by decide +kernel)) (ki_tup (K := K) rfl (pe_H (h_letters_of E) (hr.mono (by decide)) (takes_of rfl rfl rfl rfl) (pa_cons (pv 0) pa_nil))) (blkOk_by (own := [("letter", 2), ("lower", 3)]) (N := N_descents_of) (sc := defScope s_descents_of) (by decide +kernel)) (by decide) (fun _ _ _ _ _ => (pg_name (i := 2) sc_descents_of.nd rfl (.inl rfl))) (fun _ _ _ _ _ => pts_nil) (fun _ _ _ _ _ => (pi_range1 rfl (b_range E) (pa_cons (pv 2) pa_nil))) (fun _ _ _ _ _ => (pg_name (i := 3) sc_descents_of.nd rfl (.inl rfl))) (fun _ _ _ _ _ => (pts_one (pt_not (kt_truth (K := K) rfl (pe_op on_and (pe_op on_shr (pv 0) (pv 3)) pe_int) (by intro _; rfl))))) (fun _ _ _ _ _ => (pe_op on_xor (pe_op on_xor (pv 0) (pe_op on_shl pe_int (pv 2))) (pe_op on_shl pe_int (pv 3)))))
 (pss_one (ps_ret (pe_callTy (kc_tup (K := K) rfl) rfl (b_tuple E) (by decide +kernel) (pa_cons (pe_callB (kc_sorted (K := K) rfl) rfl (b_sorted E) (by decide +kernel) (pa_cons (pe_lst (ka_star (K := K) rfl (pe_H (h_heaps_left E) (hr.mono (by decide)) (takes_of rfl rfl rfl rfl) (pa_cons (pv 0) pa_nil)) (ka_star (K := K) rfl (pv 1) pa_nil))) pa_nil)) pa_nil))))), ?rd⟩)
  case len =>
    obtain ⟨x, rfl, _⟩ := h
    rfl
  case rd =>
    obtain ⟨x, rfl, tx, hb, hg⟩ := h
    walk_at "rd"
    refine ⟨x, rfl, tx, hb, fun n e hn p H1 hp e1 h1 => ?_⟩
    subst e
    have hlen := lets_len n
    have el : ((intsL (lets n)).map V.int).length = (lets n).length := by simp [intsL]
    have gd : ∀ {i : Nat} {x : V}, ((intsL (lets n)).map V.int)[i]? = some x → (lets n).getD i 0 < 5 ∧ x = .int ((lets n).getD i 0 : Nat) := fun {i x} hi => by
      obtain ⟨l, hl, rfl, l5⟩ := lets_at hi
      rw [List.getD_eq_getElem?_getD, hl]
      exact ⟨l5, rfl⟩
    refine ⟨p, rfl, ⟨_, st_of h1⟩, lc2_TR (M := 5) (fun _ => true) (fun i => (lets n).getD i 0) (fun _ k => !(n / 2 ^ k % 2 == 1)) (fun i k => .int ((n ^^^ 2 ^ ((lets n).getD i 0) ^^^ 2 ^ k : Nat) : Int)) (st_of h1) (by rw [el]; omega) (fun i hi => ?_) (fun _ => rfl) (fun _ _ => rfl) (fun i x hi H3 e3 R q => q _ (Ex.refl _)) (fun i hi z => nomatch z) (fun i x hi _ H3 e3 R q => ?_) (fun i x k hi hk H3 e3 R q => ?_) (fun i x k hi hk hf H3 e3 R q => ?_) fun p2 H2 hp2 e2 h2 => ?_⟩
    · have hi' : i < ((intsL (lets n)).map V.int).length := hi
      exact Nat.le_of_lt (gd (List.getElem?_eq_getElem hi')).1
    · obtain ⟨l5, rfl⟩ := gd hi
      walk_at "rd"
      exact q _ (Ex.refl _)
    · obtain ⟨l5, rfl⟩ := gd hi
      walk_at "rd"
      have q2 := q _ (Ex.refl _)
      rw [bne_cast, Nat.and_one_is_mod, mod_test]
      exact q2
    · obtain ⟨l5, rfl⟩ := gd hi
      walk_at "rd"
      exact q _ (Ex.refl _)
    · rw [el, flat_low] at h2
      walk_at "rd"
      refine ⟨.int n, rfl, ⟨_, th_int _⟩, fun z => absurd z (by rw [whole_of (by omega) (by omega)]; decide), fun m em hm p3 H3 hp3 e3 h3 => ?_⟩
      obtain rfl : n = m := by injection em with em; omega
      walk_at "rd"
      refine ⟨p3, _, rfl, .inl (st_of h3), ?_⟩
      walk_at "rd"
      refine ⟨p2, _, rfl, .inr (sq_of (e3 p2 _ h2)), ?_⟩
      walk_at "rd"
      have hle : (leftN n).length ≤ 5 := by
        unfold leftN
        rw [(isort_perm _).length_eq, List.length_map]
        exact hlen
      have hlo : (lowL n).length ≤ 25 := by
        have e9 := congrArg List.length (flat_low n)
        rw [List.length_map] at e9
        rw [← e9]
        refine Nat.le_trans (flat_len (M := 5) fun k hk => Nat.le_of_lt ?_) (by omega)
        have hi' : k < ((intsL (lets n)).map V.int).length := by rw [el]; exact hk
        exact (gd (List.getElem?_eq_getElem hi')).1
      have ea : List.map V.int (leftN n) ++ (List.map V.int (lowL n) ++ []) = (leftN n ++ lowL n).map V.int := by
        rw [List.append_nil, List.map_append]
      rw [ea]
      refine ⟨sz_of (by rw [List.length_map, List.length_append]; omega), fun p4 hp4 => ?_⟩
      walk_at "rd"
      refine rd_sorted (sq_of upd_same) fun p5 hp5 => ?_
      walk_at "rd"
      refine ⟨p5, _, rfl, .inl ⟨sq_of upd_same, fun p6 hp6 => ?_⟩⟩
      have eH : Ex H (upd (upd H3 p4 (.lst ((leftN n ++ lowL n).map V.int))) p5 (.lst ((isort (leftN n ++ lowL n)).map V.int))) := ((((e1.trans e2).trans e3).trans (Ex.new hp4)).trans (Ex.new hp5))
      exact hg n rfl hn p6 _ (fresh_back eH hp6) (eH.trans (Ex.new hp6)) upd_same
def belowL (n : Nat) : List Nat := (List.range (n + 1)).filter fun l => (barN l n).isNone
def spAllBelow (K : PySem.W.Frag) : Sp := fun vs H Q E => ∃ x : V, vs = [x] ∧ Thg K H x ∧ (wholeV 0 31 x = false → Er K "BadHeap" [("index", .int 0)] E H) ∧
  ∀ n : Nat, x = .int n → n < 32 → RetT H Q (intsL (belowL n))
theorem h_all_below (E : Ctx K mg) : Has P w K mg base 9 "all_below" ["heap"] (spAllBelow K) := by
  obtain ⟨fd, F⟩ := f_all_below E
  refine ⟨⟨fd, ?_, F.bindsN fun _ _ _ _ _ _ us hl => match us, hl with | [_], _ => rfl⟩, g_all_below E, F.kp⟩
  refine F.ok sc_all_below (fun vs H Q E' h => ?len) (fun cdv A outer s H vs Q E' hr h => ⟨_, (pss_cons (ps_expr (pe_H (h_check_heap E) (hr.mono (by decide)) (takes_of rfl rfl rfl rfl) (pa_cons (pe_glob (v := .int 5) rfl (k_MOST_LETTERS E).choose_spec ⟨_, rfl⟩) (pa_cons (pv 0) pa_nil))))
 (pss_one (ps_ret (pe_callTy (kc_tup (K := K) rfl) rfl (b_tuple E) (by decide +kernel) (pa_cons (pe_lc (own := [("lower", 1)]) (g := gName 1) rfl sc_all_below.nd (pi_range1 rfl (b_range E) (pa_cons (pe_op op_add (pv 0) pe_int) pa_nil)) (blkOk_by (own := [("lower", 1)]) (N := N_all_below) (sc := defScope s_all_below) (by decide +kernel)) (fun _ _ _ _ _ => (pg_name (i := 1) sc_all_below.nd rfl (.inl rfl))) (fun _ _ _ _ _ => (pts_one (pt_val (pe_H (h_is_below E) (hr.mono (by decide)) takes0 (pa_cons (pv 1) (pa_cons (pv 0) pa_nil)))))) (fun _ _ _ _ _ => (pv 1))) pa_nil))))), ?rd⟩)
  case len =>
    obtain ⟨x, rfl, _⟩ := h
    rfl
  case rd =>
    obtain ⟨x, rfl, tx, hb, hg⟩ := h
    walk_at "rd"
    refine heap5 tx hb fun z => ?_
    obtain ⟨n, rfl, h1, h2⟩ := whole_nat z (by decide)
    walk_at "rd"
    have en : (((n : Nat) : Int) + 1).toNat = n + 1 := by omega
    refine ⟨_, rfl, by omega, by omega, ?_⟩
    rw [en]
    have two : ∀ (i : Nat) (H2 : Hp) (E : XK) (R : Bool → Hp → Prop), i < n + 1 → R (barN i n).isNone H2 → spIsBelow K [.int i, .int n] H2 (fun x H1 => ∃ k, x = .bl k ∧ R k H1) E := fun i H2 E R hi q =>
      ⟨_, _, rfl, ⟨_, th_int _⟩, ⟨_, th_int _⟩, fun z => absurd z (by rw [whole_of (by omega) (by omega)]; decide), fun _ z => absurd z (by rw [whole_of (by omega) (by omega)]; decide), fun a b ea eb _ _ => by
        obtain rfl : i = a := by injection ea with ea; omega
        obtain rfl : n = b := by injection eb with eb; omega
        exact ⟨_, rfl, q⟩⟩
    refine lc_rng0 (n := n + 1) (fun l => (barN l n).isNone) (fun i => .int (i : Int)) (by omega) (fun _ => rfl) (fun i H1 e1 hi H2 e3 R q => ?_) (fun i H1 e1 hi hf H2 e3 R q => ?_) fun p H' hp e2 hl => ?_
    · walk_at "rd"
      exact two i H2 _ R hi (q _ (Ex.refl _))
    · walk_at "rd"
      exact q _ (Ex.refl _)
    · walk_at "rd"
      refine ⟨p, _, rfl, .inl ⟨sq_of hl, fun l hn => ?_⟩⟩
      walk_at "rd"
      refine hg n rfl (by omega) l _ (fresh_back e2 hn) (e2.trans (Ex.new hn)) ?_
      rw [upd_same]
      unfold given intsL belowL
      rw [List.map_map]
      rfl

end
end Lw

set_option Elab.async false
set_option linter.all false
set_option maxRecDepth 100000
set_option maxHeartbeats 4000000
namespace Lw
open PySem PySem.Spec PyProof.Rows L2 He Evl StX
local macro_rules | `(tactic| walk_at "rd") => `(tactic| (repeat first
  | with_reducible refine rd_seq ?_
  | with_reducible refine rd_asg ?_
  | with_reducible refine rd_ret ?_
  | with_reducible refine rd_next ?_
  | with_reducible refine rd_drop ?_
  | with_reducible refine rd_if ?_
  | with_reducible refine rd_ifE ?_
  | ((with_reducible refine' rd_var ?hv ?_); (case hv => rfl))
  | with_reducible refine rd_c ?_
  | with_reducible refine rd_op ?_
  | with_reducible refine rd_chain ?_
  | with_reducible refine rd_I0 ?_
  | with_reducible refine rd_test ?_
  | with_reducible refine rd_B ?_
  | with_reducible refine rd_bl ?_
  | with_reducible refine rd_not ?_
  | with_reducible refine rd_and ?_
  | with_reducible refine rd_or ?_
  | with_reducible refine rd_andV ?_
  | with_reducible refine rd_orV ?_
  | with_reducible refine rd_notV ?_
  | with_reducible refine rd_cons ?_
  | with_reducible refine rd_nil ?_
  | with_reducible refine rd_CB ?_
  | with_reducible refine rd_callS ?_
  | with_reducible refine rd_raise0 ?_
  | with_reducible refine rd_raise1 ?_
  | with_reducible refine rd_raise2 ?_
  | ((with_reducible refine' rd_eq ?hs ?_); (case hs => rfl))
  | ((with_reducible refine' rd_ne ?hs ?_); (case hs => rfl))
  | ((with_reducible refine' rd_isT ?th ?hT ?_); (case th => assumption); (case hT => decide))
  | with_reducible refine rd_tup ?_
  | with_reducible refine rd_lst ?_
  | with_reducible refine rd_iEnum ?_
  | ((with_reducible refine' rd_ixl ?hl ?hk ?_); (case hl => assumption); (case hk => rfl))
  | with_reducible refine rd_int1 ?_
  | with_reducible refine rd_sub ?_
  | with_reducible refine rd_gcons ?_
  | with_reducible refine rd_gnil ?_
  | with_reducible refine rd_iZip ?_
  | with_reducible refine rd_BM ?_
  | with_reducible refine rd_neg ?_
  | ((with_reducible refine' rd_last ?hl ?_); (case hl => assumption))
  | with_reducible refine rd_lc2 ?_
  | with_reducible refine rd_Rg1 ?_
  | with_reducible refine rd_for ?_
  | with_reducible refine rd_iRev ?_
  | with_reducible refine rd_gname ?_
  | with_reducible refine rd_NN ?_
  | with_reducible refine rd_NL ?_
  | with_reducible refine rd_LN ?_
  | ((with_reducible refine' rd_shl1 ?hs ?_); (case hs => omega))
  | ((with_reducible refine' rd_I ?hs ?_); (case hs => first | omega | decide | exact ⟨by decide, by decide, by decide⟩ | exact ⟨by omega, by omega⟩))
  | with_reducible refine rd_tr ?_
  | with_reducible refine rd_trI ?_
  | with_reducible refine rd_star ?_
  | with_reducible refine rd_fmtB ?_
  | with_reducible refine rd_M1 ?_
  | with_reducible refine rd_un ?_
  | with_reducible refine rd_lc ?_
  | with_reducible refine rd_iT ?_
  | with_reducible refine rd_iL ?_
  | with_reducible refine rd_iR1 ?_
  | with_reducible refine rd_iR2 ?_
  | dsimp only [List.set, start]))
section
variable {P : Program} {w : World} {K : PySem.W.Frag} {mg : Str → Option Value} {base : Heap}

def lastN (w : List Nat) : Nat := w.getLastD 0
def down : Nat → Nat → List Nat → List Nat
  | 0, _, w => w
  | k + 1, g, w => if g < onesN (lastN w) then down k g (w ++ [lastN w &&& (lastN w - 1)]) else w
def step2 (w : List Nat) (p : Nat × Nat) : List Nat := if p.1 ≠ p.2 then w ++ [lastN w ^^^ 2 ^ p.1 ^^^ 2 ^ p.2] else w
def wayN (h o : Nat) : List Nat := ((lets (lastN (down 32 (onesN h) [o]))).zip (lets h)).foldl step2 (down 32 (onesN h) [o])
def wayOk : Bool := (List.range 32).all fun h => (List.range 32).all fun o => !(barN h o).isNone || (decide ((lets (lastN (down 32 (onesN h) [o]))).length = (lets h).length) && decide (lastN (down 32 (onesN h) [o]) < 32))
theorem wayOk_true : wayOk = true := by decide +kernel
theorem way_fact {h o : Nat} (hh : h < 32) (ho : o < 32) (hb : (barN h o).isNone = true) : (lets (lastN (down 32 (onesN h) [o]))).length = (lets h).length ∧ lastN (down 32 (onesN h) [o]) < 32 := by
  have z := List.all_eq_true.mp (List.all_eq_true.mp wayOk_true h (List.mem_range.mpr hh)) o (List.mem_range.mpr ho)
  rw [hb] at z
  simp only [Bool.not_true, Bool.false_or, Bool.and_eq_true, decide_eq_true_eq] at z
  exact z
theorem lastN_app (w : List Nat) (a : Nat) : lastN (w ++ [a]) = a := by simp [lastN]
theorem split_last {w : List Nat} (h : w ≠ []) : w = w.dropLast ++ [lastN w] := by
  have e : lastN w = w.getLast h := by
    unfold lastN
    rw [List.getLastD_eq_getLast?, List.getLast?_eq_some_getLast h]
    rfl
  rw [e, List.dropLast_concat_getLast h]
theorem and_pred {n : Nat} (h : 0 < n) : n &&& (n - 1) < n := Nat.lt_of_le_of_lt Nat.and_le_right (by omega)
theorem ones_zero : onesN 0 = 0 := by decide
def intsV (w : List Nat) : List V := w.map fun (n : Nat) => V.int (n : Int)
theorem intsV_last {w : List Nat} (h : w ≠ []) : intsV w = intsV w.dropLast ++ [.int (lastN w : Int)] := by
  conv => lhs; rw [split_last h]
  unfold intsV
  rw [List.map_append]
  rfl
theorem intsV_at {w : List Nat} {i : Nat} {x : V} (h : (intsV w)[i]? = some x) : ∃ a, w[i]? = some a ∧ x = .int (a : Int) := by
  unfold intsV at h
  rw [List.getElem?_map] at h
  cases e : w[i]? with
  | none => rw [e] at h; cases h
  | some a => rw [e] at h; exact ⟨a, rfl, (Option.some.inj h).symm⟩
theorem take_succ_of {α : Type} {l : List α} {i : Nat} {a : α} (h : l[i]? = some a) : l.take (i + 1) = l.take i ++ [a] := by
  rw [List.take_add_one, h]
  rfl
def spWay (K : PySem.W.Frag) : Sp := fun vs H Q E => ∃ x y : V, vs = [x, y] ∧ Two K x y E H fun n m => ((barN n m).isNone = false → ∀ H', Ex H H' → Q .non H') ∧ ((barN n m).isNone = true → RetT H Q (intsL (wayN n m)))
theorem h_way_down (E : Ctx K mg) : Has P w K mg base 9 "way_down" ["heap", "other"] (spWay K) := by
  obtain ⟨fd, F⟩ := f_way_down E
  refine ⟨⟨fd, ?_, F.bindsN fun _ _ _ _ _ _ us hl => match us, hl with | [_, _], _ => rfl⟩, g_way_down E, F.kp⟩
  refine F.ok sc_way_down (fun vs H Q E' h => ?len) (fun cdv A outer s H vs Q E' hr h => ⟨_, (pss_cons (ps_if (pt_not (pt_val (pe_H (h_is_below E) (hr.mono (by decide)) (takes_of rfl rfl rfl rfl) (pa_cons (pv 0) (pa_cons (pv 1) pa_nil)))))
 (pss_one (ps_ret pe_non))
 pss_nil)
 (pss_cons (ps_set (i := 2) sc_way_down.nd rfl (.inl rfl) (pe_lst (pa_cons (pv 1) pa_nil)))
 (pss_cons (ps_while (passes_of rfl) (pt_cmpR op_gt (pe_H (h_count_ones E) (hr.mono (by decide)) (takes_of rfl rfl rfl rfl) (pa_cons (pe_ix (kx_list (K := K) rfl) (pv 2) (pe_un un_neg pe_int) (fun _ _ => rfl)) pa_nil)) (pe_H (h_count_ones E) (hr.mono (by decide)) (takes_of rfl rfl rfl rfl) (pa_cons (pv 0) pa_nil)) (nomark _))
 (pss_one (ps_expr (pe_bm PySem.F.plainAttrs_list PySem.F.slot_list_append PySem.F.type_list_append mt_append (pv 2) (pa_cons (pe_op on_and (pe_ix (kx_list (K := K) rfl) (pv 2) (pe_un un_neg pe_int) (fun _ _ => rfl)) (pe_op op_sub (pe_ix (kx_list (K := K) rfl) (pv 2) (pe_un un_neg pe_int) (fun _ _ => rfl)) pe_int)) pa_nil)))))
 (pss_cons (ps_set (i := 3) sc_way_down.nd rfl (.inl rfl) (pe_H (h_letters_of E) (hr.mono (by decide)) (takes_of rfl rfl rfl rfl) (pa_cons (pe_ix (kx_list (K := K) rfl) (pv 2) (pe_un un_neg pe_int) (fun _ _ => rfl)) pa_nil)))
 (pss_cons (ps_for (passes_of rfl) rfl (RZ.pi_zipA rfl (b_zip E) (pa_cons (pv 3) (pa_cons (pe_H (h_letters_of E) (hr.mono (by decide)) (takes_of rfl rfl rfl rfl) (pa_cons (pv 0) pa_nil)) pa_nil))) (pg_tup rfl (pgs_cons (pg_name (i := 4) sc_way_down.nd rfl (.inl rfl)) (pgs_cons (pg_name (i := 5) sc_way_down.nd rfl (.inl rfl)) pgs_nil)))
 (pss_one (ps_if (pt_cmpR op_ne (pv 4) (pv 5) (nomark _))
 (pss_one (ps_expr (pe_bm PySem.F.plainAttrs_list PySem.F.slot_list_append PySem.F.type_list_append mt_append (pv 2) (pa_cons (pe_op on_xor (pe_op on_xor (pe_ix (kx_list (K := K) rfl) (pv 2) (pe_un un_neg pe_int) (fun _ _ => rfl)) (pe_op on_shl pe_int (pv 4))) (pe_op on_shl pe_int (pv 5))) pa_nil))))
 pss_nil)))
 (pss_one (ps_ret (pe_callTy (kc_tup (K := K) rfl) rfl (b_tuple E) (by decide +kernel) (pa_cons (pv 2) pa_nil))))))))), ?rd⟩)
  case len =>
    obtain ⟨x, y, rfl, _⟩ := h
    rfl
  case rd =>
    obtain ⟨x, y, rfl, tx, ty, hx, hy, hg⟩ := h
    walk_at "rd"
    refine ⟨x, y, rfl, tx, ty, hx, hy, fun n m en em hn hm => ?_⟩
    obtain ⟨g1, g2⟩ := hg n m en em hn hm
    subst en em
    walk_at "rd"
    refine ⟨fun z => ?_, fun z => ?_⟩
    · walk_at "rd"
      exact g1 (not_true z) H (Ex.refl H)
    · have hb := not_false z
      have q := g2 hb
      obtain ⟨f1, f2⟩ := way_fact hn hm hb
      walk_at "rd"
      refine ⟨by show 1 ≤ sizeLine; decide, fun l hl => ?_⟩
      walk_at "rd"
      refine rd_while ⟨fun k σ H' => ∃ (w : List Nat) (j : Nat) (v1 v2 v3 : Option V), σ = [some (.int n), some (.int m), some (.ref l), v1, v2, v3] ∧ Fill H l (intsV w) H' ∧ w ≠ [] ∧ w.length + j = 33 ∧ k = lastN w ∧ lastN w < 32 ∧ lastN w ≤ j ∧ down j (onesN n) w = down 32 (onesN n) [m],
        ⟨m, [m], 32, none, none, none, rfl, Fill.new hl, by simp, rfl, rfl, hm, Nat.le_of_lt hm, rfl⟩, ?_⟩
      rintro k σ H' ⟨w, j, v1, v2, v3, rfl, F, hw, hj, rfl, h32, hlj, hd⟩
      have Fl : H' l = some (.lst (intsV w.dropLast ++ [.int (lastN w : Int)])) := by rw [← intsV_last hw]; exact F.2.2
      walk_at "rd"
      refine ones_ok (by omega) ?_
      walk_at "rd"
      refine ones_ok (by omega) ?_
      walk_at "rd"
      refine ⟨fun z => ?_, fun z => ?_⟩
      · have z : onesN n < onesN (lastN w) := by have := of_decide_eq_true z; omega
        have hpos : 0 < lastN w := by
          rcases Nat.eq_zero_or_pos (lastN w) with e | e
          · rw [e, ones_zero] at z; omega
          · exact e
        cases j with
        | zero => omega
        | succ j =>
          have hd' : down j (onesN n) (w ++ [lastN w &&& (lastN w - 1)]) = down 32 (onesN n) [m] := by
            rw [← hd]
            show _ = (if onesN n < onesN (lastN w) then _ else _)
            rw [if_pos z]
          have hlt := and_pred hpos
          refine ⟨fun σ' H2 => ∃ m', m' < lastN w ∧ ∃ (w' : List Nat) (j' : Nat) (v1 v2 v3 : Option V), σ' = [some (.int n), some (.int m), some (.ref l), v1, v2, v3] ∧ Fill H l (intsV w') H2 ∧ w' ≠ [] ∧ w'.length + j' = 33 ∧ m' = lastN w' ∧ lastN w' < 32 ∧ lastN w' ≤ j' ∧ down j' (onesN n) w' = down 32 (onesN n) [m], fun σ' H2 h => h, ?_⟩
          walk_at "rd"
          refine ⟨ty_lst F.2.2, ?_⟩
          walk_at "rd"
          have e1 : ((lastN w : Nat) : Int) - 1 = ((lastN w - 1 : Nat) : Int) := by omega
          rw [e1]
          walk_at "rd"
          refine rd_app F.2.2 (by simp [intsV]; omega) ?_
          walk_at "rd"
          have ev : intsV w ++ [V.int ((lastN w &&& (lastN w - 1) : Nat) : Int)] = intsV (w ++ [lastN w &&& (lastN w - 1)]) := by simp [intsV]
          rw [ev]
          exact ⟨_, by rw [lastN_app]; exact hlt, _, j, v1, v2, v3, rfl, F.set _, by simp, by rw [List.length_append]; simp; omega, rfl, by rw [lastN_app]; omega, by rw [lastN_app]; omega, hd'⟩
      · have z : ¬ onesN n < onesN (lastN w) := by have := of_decide_eq_false z; omega
        have hw0 : w = down 32 (onesN n) [m] := by
          rw [← hd]
          cases j with
          | zero => rfl
          | succ j =>
            show _ = (if onesN n < onesN (lastN w) then _ else _)
            rw [if_neg z]
        walk_at "rd"
        refine ⟨_, rfl, ⟨_, th_int _⟩, fun zz => absurd zz (by rw [whole_of (by omega) (by omega)]; decide), fun a ea ha p1 H1 hp1 e1 h1 => ?_⟩
        obtain rfl : lastN w = a := by injection ea with ea; omega
        walk_at "rd"
        refine ⟨_, rfl, ⟨_, th_int _⟩, fun zz => absurd zz (by rw [whole_of (by omega) (by omega)]; decide), fun a ea ha p2 H2 hp2 e2 h2 => ?_⟩
        obtain rfl : n = a := by injection ea with ea; omega
        walk_at "rd"
        have L0 : (intsL (lets (lastN w))).map V.int = intsV (lets (lastN w)) := by unfold intsL intsV; rw [List.map_map]; rfl
        have L1 : (intsL (lets n)).map V.int = intsV (lets n) := by unfold intsL intsV; rw [List.map_map]; rfl
        rw [L0] at h1
        rw [L1] at h2
        rw [← hw0] at f1
        have F2 : Fill H l (intsV w) H2 := (F.ex e1).ex e2
        refine ⟨p1, p2, intsV (lets (lastN w)), intsV (lets n), rfl, .inr ⟨st_of (e2 p1 _ h1), st_of h2, RZ.for_zipT (xs := intsV (lets (lastN w))) (ys := intsV (lets n)) (by simp [intsV, f1])
          (fun i σ' H3 => ∃ (v2 v3 : Option V), σ' = [some (.int n), some (.int m), some (.ref l), some (.ref p1), v2, v3] ∧ Fill H l (intsV ((((lets (lastN w)).zip (lets n)).take i).foldl step2 w)) H3 ∧ H3 p1 = some (.tup (intsV (lets (lastN w)))) ∧ H3 p2 = some (.tup (intsV (lets n))) ∧
            ((((lets (lastN w)).zip (lets n)).take i).foldl step2 w) ≠ [] ∧ lastN ((((lets (lastN w)).zip (lets n)).take i).foldl step2 w) < 32 ∧ ((((lets (lastN w)).zip (lets n)).take i).foldl step2 w).length ≤ 33 + i)
          ⟨v2, v3, rfl, F2, e2 p1 _ h1, h2, hw, h32, by show w.length ≤ 33 + 0; omega⟩ (fun i σ' H3 ⟨_, _, _, _, a1, a2, _⟩ => ⟨st_of a1, st_of a2⟩) ?_ ?_⟩⟩
        · rintro i x y T σ' H3 hx hy ⟨v2, v3, rfl, F3, a1, a2, b1, b2, b3⟩ hT
          obtain ⟨a, ha, rfl⟩ := intsV_at hx
          obtain ⟨b, hb2, rfl⟩ := intsV_at hy
          have a5 := lets_lt (List.mem_of_getElem? ha)
          have b5 := lets_lt (List.mem_of_getElem? hb2)
          have hi5 : i < 5 := Nat.lt_of_lt_of_le (List.getElem?_eq_some_iff.mp ha).1 (lets_len _)
          have et : ((lets (lastN w)).zip (lets n)).take (i + 1) = ((lets (lastN w)).zip (lets n)).take i ++ [(a, b)] := by
            refine take_succ_of ?_
            rw [List.getElem?_zip_eq_some]
            exact ⟨ha, hb2⟩
          rw [et, List.foldl_append]
          generalize ((((lets (lastN w)).zip (lets n)).take i).foldl step2 w) = u at F3 b1 b2 b3 ⊢
          show gTup _ _ _ _ _ _ _
          refine ⟨T, _, rfl, st_of upd_same, rfl, ?_⟩
          have F4 : Fill H l (intsV u) (upd H3 T (.tup [.int (a : Int), .int (b : Int)])) := F3.ex (Ex.new hT)
          have Fl : upd H3 T (.tup [.int (a : Int), .int (b : Int)]) l = some (.lst (intsV u.dropLast ++ [.int (lastN u : Int)])) := by rw [← intsV_last b1]; exact F4.2.2
          walk_at "rd"
          have ea : decide (V.int (a : Int) = V.int (b : Int)) = decide (a = b) := by
            by_cases h : a = b
            · simp [h]
            · rw [decide_eq_false h, decide_eq_false]
              intro z
              injection z with z
              omega
          rw [ea]
          have keep : ∀ {p : Addr} {o : HO}, H3 p = some o → upd H3 T (.tup [.int (a : Int), .int (b : Int)]) p = some o := fun {p o} h => (Ex.new hT) p o h
          refine ⟨fun z => ?_, fun z => ?_⟩
          · walk_at "rd"
            refine ⟨ty_lst F4.2.2, ?_⟩
            walk_at "rd"
            refine rd_app F4.2.2 (by simp [intsV]; omega) ?_
            walk_at "rd"
            have hab : a ≠ b := by simpa using z
            have es : List.foldl step2 u [(a, b)] = u ++ [lastN u ^^^ 2 ^ a ^^^ 2 ^ b] := by
              show step2 u (a, b) = _
              unfold step2
              rw [if_pos hab]
            have lx : lastN u ^^^ 2 ^ a ^^^ 2 ^ b < 32 := by
              refine Nat.xor_lt_two_pow (n := 5) (Nat.xor_lt_two_pow (n := 5) b2 ?_) ?_
              · exact Nat.pow_lt_pow_right (by decide) a5
              · exact Nat.pow_lt_pow_right (by decide) b5
            have ne1 : p1 ≠ l := fun e => by
              subst e
              have c1 := F4.2.2
              rw [keep a1] at c1
              cases c1
            have ne2 : p2 ≠ l := fun e => by
              subst e
              have c1 := F4.2.2
              rw [keep a2] at c1
              cases c1
            rw [es]
            have ev : intsV u ++ [V.int ((lastN u ^^^ 2 ^ a ^^^ 2 ^ b : Nat) : Int)] = intsV (u ++ [lastN u ^^^ 2 ^ a ^^^ 2 ^ b]) := by simp [intsV]
            rw [ev]
            exact ⟨_, _, rfl, F4.set _, by rw [upd_ne ne1]; exact keep a1, by rw [upd_ne ne2]; exact keep a2, by simp, by rw [lastN_app]; exact lx, by rw [List.length_append]; simp; omega⟩
          · walk_at "rd"
            have hab : a = b := by simpa using z
            have es : List.foldl step2 u [(a, b)] = u := by
              show step2 u (a, b) = _
              unfold step2
              rw [if_neg (by simp [hab])]
            rw [es]
            exact ⟨_, _, rfl, F4, keep a1, keep a2, b1, b2, by omega⟩
        · rintro σ' H3 ⟨v2, v3, rfl, F3, a1, a2, b1, b2, b3⟩
          have el : (intsV (lets (lastN w))).length = ((lets (lastN w)).zip (lets n)).length := by
            rw [List.length_zip, f1, Nat.min_self]
            simp [intsV, f1]
          rw [el, List.take_length] at F3
          walk_at "rd"
          refine ⟨l, _, rfl, .inl ⟨sq_of F3.2.2, fun p hp => ?_⟩⟩
          have ew : (intsL (wayN n m)).map V.int = intsV (((lets (lastN w)).zip (lets n)).foldl step2 w) := by
            unfold wayN intsL intsV
            rw [← hw0, List.map_map]
            rfl
          refine q p _ (fresh_back F3.2.1 hp) (F3.2.1.trans (Ex.new hp)) ?_
          rw [ew, upd_same]

end
end Lw

set_option Elab.async false
set_option linter.all false
set_option maxRecDepth 100000
set_option maxHeartbeats 4000000
namespace Lw
open PySem PySem.Spec PyProof.Rows L2 He Evl StX
local macro_rules | `(tactic| walk_at "rd") => `(tactic| (repeat first
  | with_reducible refine rd_seq ?_
  | with_reducible refine rd_asg ?_
  | with_reducible refine rd_ret ?_
  | with_reducible refine rd_next ?_
  | with_reducible refine rd_drop ?_
  | with_reducible refine rd_if ?_
  | with_reducible refine rd_ifE ?_
  | ((with_reducible refine' rd_var ?hv ?_); (case hv => rfl))
  | with_reducible refine rd_c ?_
  | with_reducible refine rd_op ?_
  | with_reducible refine rd_chain ?_
  | with_reducible refine rd_I0 ?_
  | with_reducible refine rd_test ?_
  | with_reducible refine rd_B ?_
  | with_reducible refine rd_bl ?_
  | with_reducible refine rd_not ?_
  | with_reducible refine rd_and ?_
  | with_reducible refine rd_or ?_
  | with_reducible refine rd_andV ?_
  | with_reducible refine rd_orV ?_
  | with_reducible refine rd_notV ?_
  | with_reducible refine rd_cons ?_
  | with_reducible refine rd_nil ?_
  | with_reducible refine rd_CB ?_
  | with_reducible refine rd_callS ?_
  | with_reducible refine rd_raise0 ?_
  | with_reducible refine rd_raise1 ?_
  | with_reducible refine rd_raise2 ?_
  | ((with_reducible refine' rd_eq ?hs ?_); (case hs => rfl))
  | ((with_reducible refine' rd_ne ?hs ?_); (case hs => rfl))
  | ((with_reducible refine' rd_isT ?th ?hT ?_); (case th => assumption); (case hT => decide))
  | with_reducible refine rd_tup ?_
  | with_reducible refine rd_lst ?_
  | with_reducible refine rd_iEnum ?_
  | ((with_reducible refine' rd_ixl ?hl ?hk ?_); (case hl => assumption); (case hk => rfl))
  | with_reducible refine rd_int1 ?_
  | with_reducible refine rd_sub ?_
  | with_reducible refine rd_gcons ?_
  | with_reducible refine rd_gnil ?_
  | with_reducible refine rd_iZip ?_
  | with_reducible refine rd_BM ?_
  | with_reducible refine rd_neg ?_
  | ((with_reducible refine' rd_last ?hl ?_); (case hl => assumption))
  | with_reducible refine rd_lc2 ?_
  | with_reducible refine rd_Rg1 ?_
  | with_reducible refine rd_for ?_
  | with_reducible refine rd_iRev ?_
  | with_reducible refine rd_gname ?_
  | with_reducible refine rd_NN ?_
  | with_reducible refine rd_NL ?_
  | with_reducible refine rd_LN ?_
  | ((with_reducible refine' rd_shl1 ?hs ?_); (case hs => omega))
  | ((with_reducible refine' rd_I ?hs ?_); (case hs => first | omega | decide | exact ⟨by decide, by decide, by decide⟩ | exact ⟨by omega, by omega⟩))
  | with_reducible refine rd_tr ?_
  | with_reducible refine rd_trI ?_
  | with_reducible refine rd_star ?_
  | with_reducible refine rd_fmtB ?_
  | with_reducible refine rd_M1 ?_
  | with_reducible refine rd_un ?_
  | with_reducible refine rd_lc ?_
  | with_reducible refine rd_iT ?_
  | with_reducible refine rd_iL ?_
  | with_reducible refine rd_iR1 ?_
  | with_reducible refine rd_iR2 ?_
  | dsimp only [List.set, start]))
section
variable {P : Program} {w : World} {K : PySem.W.Frag} {mg : Str → Option Value} {base : Heap}

def spMix : Sp := fun vs H Q _ => ∃ a b : Int, vs = [.int a, .int b] ∧ (0 ≤ a ∧ a < 2147483648) ∧ (0 ≤ b ∧ b < 1024) ∧ ∀ r : Int, 0 ≤ r → r < 2147483648 → Q (.int r) H
theorem h__law_mix (E : Ctx K mg) : Has P w K mg base 2 "_law_mix" ["_law_number", "_law_turn"] (spMix) := by
  obtain ⟨fd, F⟩ := f__law_mix E
  refine ⟨⟨fd, ?_, F.bindsN fun _ _ _ _ _ _ us hl => match us, hl with | [_, _], _ => rfl⟩, g__law_mix E, F.kp⟩
  refine F.ok sc__law_mix (fun vs H Q E' h => ?len) (fun cdv A outer s H vs Q E' hr h => ⟨_, (pss_cons (ps_set (i := 2) sc__law_mix.nd rfl (.inl rfl) (pe_op op_modN (pe_callTy call_int1 rfl (b_int E) (by decide +kernel) (pa_cons (pe_op op_add (pe_op op_add (pe_op op_mulX (pv 0) pe_int) (pe_op op_mulX (pv 1) pe_int)) pe_int) pa_nil)) pe_int))
 (pss_cons (ps_set (i := 3) sc__law_mix.nd rfl (.inl rfl) (pe_op op_modN (pe_callTy call_int1 rfl (b_int E) (by decide +kernel) (pa_cons (pe_op op_add (pe_op op_add (pe_op op_mulX (pv 2) (pv 2)) (pe_op op_mulX (pe_op op_fdivW (pv 2) pe_int) pe_int)) (pe_op op_mulX (pv 1) pe_int)) pa_nil)) pe_int))
 (pss_one (ps_ret (pe_op op_fdivW (pe_op op_modN (pe_callTy call_int1 rfl (b_int E) (by decide +kernel) (pa_cons (pe_op op_add (pe_op op_fdivW (pe_op op_mulX (pv 3) (pv 3)) pe_int) (pv 2)) pa_nil)) pe_int) pe_int))))), ?rd⟩)
  case len =>
    obtain ⟨a, b, rfl, _⟩ := h
    rfl
  case rd =>
    obtain ⟨a, b, rfl, ⟨ha, ha2⟩, ⟨hb, hb2⟩, q⟩ := h
    walk_at "rd"
    refine rd_I (mulx_ok (a := 31) (b := 16) (by omega) (by decide) (by decide)) ?_
    walk_at "rd"
    refine rd_I (mulx_ok (a := 10) (b := 16) (by omega) (by decide) (by decide)) ?_
    walk_at "rd"
    obtain ⟨o1, o2⟩ := fmod_bd (a * 48271 + b * 30269 + 101) (j := 2147483647) (by decide)
    generalize (a * 48271 + b * 30269 + 101).fmod 2147483647 = x at o1 o2 ⊢
    refine rd_I (mulx_ok (a := 31) (b := 31) (by omega) (by omega) (by decide)) ?_
    walk_at "rd"
    refine rd_I (wide_div (b := 8) (by decide) (by decide) (by decide) (by decide)) ?_
    walk_at "rd"
    obtain ⟨d1, d2⟩ := div_bd o1 (j := 211) (by decide)
    generalize x / 211 = y at d1 d2 ⊢
    refine rd_I (mulx_ok (a := 31) (b := 17) (by omega) (by decide) (by decide)) ?_
    walk_at "rd"
    refine rd_I (mulx_ok (a := 10) (b := 13) (by omega) (by decide) (by decide)) ?_
    walk_at "rd"
    obtain ⟨p1, p2⟩ := fmod_bd (x * x + y * 69621 + b * 7919) (j := 2147483629) (by decide)
    generalize (x * x + y * 69621 + b * 7919).fmod 2147483629 = z at p1 p2 ⊢
    refine rd_I (mulx_ok (a := 31) (b := 31) (by omega) (by omega) (by decide)) ?_
    walk_at "rd"
    refine rd_I (wide_div (b := 11) (by decide) (by decide) (by decide) (by decide)) ?_
    walk_at "rd"
    obtain ⟨e1, e2⟩ := fmod_bd (z * z / 2003 + x) (j := 2147483587) (by decide)
    generalize (z * z / 2003 + x).fmod 2147483587 = u at e1 e2 ⊢
    refine rd_I (wide_div (b := 4) (by decide) (by decide) (by decide) (by decide)) ?_
    obtain ⟨f1, f2⟩ := div_bd e1 (j := 8) (by decide)
    exact q _ f1 (by omega)
def spDraw (K : PySem.W.Frag) : Sp := fun vs H Q _ => ∃ (h : Addr) (m : Int), vs = [.ref h, .int m] ∧ Hand H h ∧ (0 < m ∧ m < 2 ^ 200) ∧ ∀ (r : Nat) (H' : Hp), (r : Int) < m → Dh h H H' → Hand H' h → Q (.int (r : Int)) H'
theorem h__law_draw (E : Ctx K mg) : Has P w K mg base 3 "_law_draw" ["_law_hand_here", "_law_many"] (spDraw K) := by
  obtain ⟨fd, F⟩ := f__law_draw E
  refine ⟨⟨fd, ?_, F.bindsN fun _ _ _ _ _ _ us hl => match us, hl with | [_, _], _ => rfl⟩, g__law_draw E, F.kp⟩
  refine F.ok sc__law_draw (fun vs H Q E' h => ?len) (fun cdv A outer s H vs Q E' hr h => ⟨_, (pss_cons (ps_if (PW.pt (pw_and (pt_cmpR op_eq (pe_ix (kx_list (K := K) rfl) (pv 0) pe_int (fun _ _ => rfl)) pe_int (nomark _)) (pw_and1 (pt_cmpR op_lt (pe_ix (kx_list (K := K) rfl) (pv 0) pe_int (fun _ _ => rfl)) (pe_callB (kc_len (K := K) rfl) rfl (b_len E) (by decide +kernel) (pa_cons (pe_ix (kx_list (K := K) rfl) (pv 0) pe_int (fun _ _ => rfl)) pa_nil)) (nomark _)))))
 (pss_cons (ps_set (i := 2) sc__law_draw.nd rfl (.inl rfl) (pe_ix (kx_list (K := K) rfl) (pe_ix (kx_list (K := K) rfl) (pv 0) pe_int (fun _ _ => rfl)) (pe_ix (kx_list (K := K) rfl) (pv 0) pe_int (fun _ _ => rfl)) (fun _ _ => rfl)))
 (pss_cons (ps_asg (pe_op op_add (pe_ix (kx_list (K := K) rfl) (pv 0) pe_int (fun _ _ => rfl)) pe_int) (pg_sub (pv 0) pe_int set_list))
 (pss_cons (ps_if (pt_cmpR op_lt (pv 2) (pe_op op_pow pe_int pe_int) (nomark _))
 (pss_one (ps_ret (pe_op op_modN (pe_callTy call_int1 rfl (b_int E) (by decide +kernel) (pa_cons (pe_H (h__law_mix E) (hr.mono (by decide)) (takes_of rfl rfl rfl rfl) (pa_cons (pe_op op_modN (pe_callTy call_int1 rfl (b_int E) (by decide +kernel) (pa_cons (pv 2) pa_nil)) pe_int) (pa_cons (pe_ix (kx_list (K := K) rfl) (pv 0) pe_int (fun _ _ => rfl)) pa_nil))) pa_nil)) (pv 1))))
 pss_nil)
 (pss_one (ps_asg (pv 2) (pg_sub (pv 0) pe_int set_list))))))
 pss_nil)
 (pss_cons (ps_if (pt_cmpR op_gt (pe_ix (kx_list (K := K) rfl) (pv 0) pe_int (fun _ _ => rfl)) pe_int (nomark _))
 (pss_cons (ps_set (i := 3) sc__law_draw.nd rfl (.inl rfl) (pe_ix (kx_list (K := K) rfl) (pv 0) pe_int (fun _ _ => rfl)))
 (pss_cons (ps_asg (pe_op op_fdivW (pv 3) (pv 1)) (pg_sub (pv 0) pe_int set_list))
 (pss_one (ps_ret (pe_op op_modN (pe_callTy call_int1 rfl (b_int E) (by decide +kernel) (pa_cons (pv 3) pa_nil)) (pv 1))))))
 pss_nil)
 (pss_cons (ps_asg (pe_op op_modN (pe_callTy call_int1 rfl (b_int E) (by decide +kernel) (pa_cons (pe_op op_add (pe_ix (kx_list (K := K) rfl) (pv 0) pe_int (fun _ _ => rfl)) pe_int) pa_nil)) pe_int) (pg_sub (pv 0) pe_int set_list))
 (pss_one (ps_ret (pe_op op_modN (pe_callTy call_int1 rfl (b_int E) (by decide +kernel) (pa_cons (pe_H (h__law_mix E) (hr.mono (by decide)) (takes_of rfl rfl rfl rfl) (pa_cons (pe_ix (kx_list (K := K) rfl) (pv 0) pe_int (fun _ _ => rfl)) (pa_cons (pe_ix (kx_list (K := K) rfl) (pv 0) pe_int (fun _ _ => rfl)) pa_nil))) pa_nil)) (pv 1))))))), ?rd⟩)
  case len =>
    obtain ⟨h0, m, rfl, _⟩ := h
    rfl
  case rd =>
    obtain ⟨h0, m, rfl, ⟨c, cells, i, r, t, hh, hc, hne, hz, hi, hl, hr0, hrb, ht0, ht1⟩, ⟨hm0, hm1⟩, q⟩ := h
    have fin : ∀ (x : Int) (H' : Hp), Dh h0 H H' → Hand H' h0 → Q (.int (x.fmod m)) H' := fun x H' d hd => by
      obtain ⟨f1, f2⟩ := fmod_bd x hm0
      have e : x.fmod m = ((x.fmod m).toNat : Int) := by omega
      rw [e]
      exact q _ H' (by omega) d hd
    have hcl : (cells.map V.int).length = cells.length := by simp
    refine rd_mid (fun σ H' => ∃ (v1 v2 : Option V) (i' : Nat) (r' : Int), σ = [some (.ref h0), some (.int m), v1, v2] ∧ Dh h0 H H' ∧ H' h0 = some (.lst [.ref c, .int (i' : Int), .int r', .int t]) ∧ H' c = some (.lst (cells.map V.int)) ∧ i' ≤ cells.length ∧ 0 ≤ r' ∧ bits r' ≤ 1048576) (fun N hN => ?_) ?_
    · walk_at "rd"
      have stay : N (L2.start N__law_draw [V.ref h0, V.int m]) H := hN _ _ ⟨none, none, i, r, rfl, Dh.refl _ _, hh, hc, hi, hr0, hrb⟩
      refine ⟨fun z => ?_, fun z => ⟨(fun z => nomatch z), fun _ => stay⟩⟩
      walk_at "rd"
      refine ⟨c, _, rfl, .inl (sq_of hc), ?_⟩
      walk_at "rd"
      refine ⟨fun z2 => ?_, fun z2 => stay⟩
      have hi2 : i < cells.length := by
        have := of_decide_eq_true z2
        rw [hcl] at this
        omega
      walk_at "rd"
      have hx : (cells.map V.int)[i]? = some (.int cells[i]) := by
        rw [List.getElem?_map, List.getElem?_eq_getElem hi2]
        rfl
      obtain ⟨x0, xb⟩ := hz cells[i] (List.getElem_mem hi2)
      refine rd_ix (sq_of hc) hx ?_
      walk_at "rd"
      refine rd_setH (k := 1) hh (by show 1 < 4; omega) ?_
      have e1 : ((i : Nat) : Int) + 1 = ((i + 1 : Nat) : Int) := by omega
      rw [e1]
      have hh1 : upd H h0 (.lst ([V.ref c, V.int (i : Int), V.int r, V.int t].set 1 (V.int ((i + 1 : Nat) : Int)))) h0 = some (.lst [.ref c, .int ((i + 1 : Nat) : Int), .int r, .int t]) := upd_same
      have hc1 : upd H h0 (.lst ([V.ref c, V.int (i : Int), V.int r, V.int t].set 1 (V.int ((i + 1 : Nat) : Int)))) c = some (.lst (cells.map V.int)) := by rw [upd_ne hne]; exact hc
      have d1 : Dh h0 H (upd H h0 (.lst ([V.ref c, V.int (i : Int), V.int r, V.int t].set 1 (V.int ((i + 1 : Nat) : Int))))) := Dh.upd
      generalize upd H h0 (.lst ([V.ref c, V.int (i : Int), V.int r, V.int t].set 1 (V.int ((i + 1 : Nat) : Int)))) = H1 at hh1 hc1 d1 ⊢
      walk_at "rd"
      refine ⟨fun z3 => ?_, fun z3 => ?_⟩
      · walk_at "rd"
        obtain ⟨f1, f2⟩ := fmod_bd cells[i] (j := 2147483647) (by decide)
        refine ⟨_, _, rfl, ⟨f1, by omega⟩, ⟨by omega, by omega⟩, fun u u0 u1 => ?_⟩
        walk_at "rd"
        exact fin u H1 d1 (Hand.mk hh1 hc1 hne hz (by omega) hl hr0 hrb ht0 ht1)
      · walk_at "rd"
        refine rd_setH (k := 2) hh1 (by show 2 < 4; omega) ?_
        refine hN _ _ ⟨_, none, i + 1, cells[i], rfl, d1.trans Dh.upd, upd_same, by rw [upd_ne hne]; exact hc1, by omega, x0, xb⟩
    · rintro σ H1 ⟨v1, v2, i', r', rfl, d1, hh1, hc1, hi', hr', hrb'⟩
      walk_at "rd"
      refine ⟨fun z => ?_, fun z => ?_⟩
      · walk_at "rd"
        refine rd_I (wide_div (b := 200) hm0 (by omega) (by decide) (by decide)) ?_
        walk_at "rd"
        obtain ⟨q0, q1⟩ := div_bd hr' hm0
        refine rd_setH (k := 2) hh1 (by show 2 < 4; omega) ?_
        walk_at "rd"
        exact fin r' _ (d1.trans Dh.upd) (Hand.mk upd_same (by rw [upd_ne hne]; exact hc1) hne hz hi' hl q0 (Nat.le_trans (bits_mono q0 q1) hrb') ht0 ht1)
      · walk_at "rd"
        obtain ⟨f1, f2⟩ := fmod_bd (t + 1) (j := 2147483629) (by decide)
        refine rd_setH (k := 3) hh1 (by show 3 < 4; omega) ?_
        have hh2 : upd H1 h0 (.lst ([V.ref c, V.int (i' : Int), V.int r', V.int t].set 3 (V.int ((t + 1).fmod 2147483629)))) h0 = some (.lst [.ref c, .int (i' : Int), .int r', .int ((t + 1).fmod 2147483629)]) := upd_same
        have hc2 : upd H1 h0 (.lst ([V.ref c, V.int (i' : Int), V.int r', V.int t].set 3 (V.int ((t + 1).fmod 2147483629)))) c = some (.lst (cells.map V.int)) := by rw [upd_ne hne]; exact hc1
        have d2 : Dh h0 H (upd H1 h0 (.lst ([V.ref c, V.int (i' : Int), V.int r', V.int t].set 3 (V.int ((t + 1).fmod 2147483629))))) := d1.trans Dh.upd
        generalize upd H1 h0 (.lst ([V.ref c, V.int (i' : Int), V.int r', V.int t].set 3 (V.int ((t + 1).fmod 2147483629)))) = H2 at hh2 hc2 d2 ⊢
        walk_at "rd"
        refine ⟨_, _, rfl, ⟨f1, by omega⟩, ⟨by omega, by omega⟩, fun u u0 u1 => ?_⟩
        walk_at "rd"
        exact fin u H2 d2 (Hand.mk hh2 hc2 hne hz hi' hl hr' hrb' f1 f2)
def spHand (K : PySem.W.Frag) : Sp := fun vs H Q _ => ∃ (a : Addr) (ns : List Int), vs = [.ref a] ∧ SqL K H a (ns.map V.int) ∧ ns.length ≤ 63 ∧ (∀ z ∈ ns, bits z ≤ 1048576) ∧ ∀ (h : Addr) (H' : Hp), H h = none → Ex H H' → Hand H' h → Q (.ref h) H'
theorem h__law_hand (E : Ctx K mg) : Has P w K mg base 2 "_law_hand" ["_law_script"] (spHand K) := by
  obtain ⟨fd, F⟩ := f__law_hand E
  refine ⟨⟨fd, ?_, F.bindsN fun _ _ _ _ _ _ us hl => match us, hl with | [_], _ => rfl⟩, g__law_hand E, F.kp⟩
  refine F.ok sc__law_hand (fun vs H Q E' h => ?len) (fun cdv A outer s H vs Q E' hr h => ⟨_, (pss_cons (ps_set (i := 1) sc__law_hand.nd rfl (.inl rfl) pe_int)
 (pss_cons (ps_for (passes_of rfl) rfl (pi_enum rfl (b_enumerate E) (pa_cons (pv 0) pa_nil)) (pg_tup rfl (pgs_cons (pg_name (i := 2) sc__law_hand.nd rfl (.inl rfl)) (pgs_cons (pg_name (i := 3) sc__law_hand.nd rfl (.inl rfl)) pgs_nil)))
 (pss_one (ps_set (i := 1) sc__law_hand.nd rfl (.inl rfl) (pe_op op_modN (pe_callTy call_int1 rfl (b_int E) (by decide +kernel) (pa_cons (pe_op op_add (pe_op op_mulX (pv 1) pe_int) (pe_op op_mulX (pe_callTy call_int1 rfl (b_int E) (by decide +kernel) (pa_cons (pv 3) pa_nil)) (pe_op op_add (pe_op op_mulX pe_int (pv 2)) pe_int))) pa_nil)) pe_int))))
 (pss_one (ps_ret (pe_lst (pa_cons (pe_lc (own := [("_law_cell", 3)]) (g := gName 3) (tt := tYes) rfl sc__law_hand.nd (ki_list (K := K) rfl (pv 0)) (blkOk_by (own := [("_law_cell", 3)]) (N := N__law_hand) (sc := defScope s__law_hand) (by decide +kernel)) (fun _ _ _ _ _ => (pg_name (i := 3) sc__law_hand.nd rfl (.inl rfl))) (fun _ _ _ _ _ => pts_nil) (fun _ _ _ _ _ => (pe_callB call_abs rfl (b_abs E) (by decide +kernel) (pa_cons (pe_callTy call_int1 rfl (b_int E) (by decide +kernel) (pa_cons (pv 3) pa_nil)) pa_nil)))) (pa_cons pe_int (pa_cons pe_int (pa_cons (pv 1) pa_nil))))))))), ?rd⟩)
  case len =>
    obtain ⟨a, ns, rfl, _⟩ := h
    rfl
  case rd =>
    obtain ⟨a, ns, rfl, hs, hl, hb, q⟩ := h
    have hcl : (ns.map V.int).length = ns.length := by simp
    have item : ∀ {i : Nat} {x : V}, (ns.map V.int)[i]? = some x → ∃ z, z ∈ ns ∧ ns[i]? = some z ∧ x = .int z := fun {i x} hx => by
      rw [List.getElem?_map] at hx
      cases e : ns[i]? with
      | none => rw [e] at hx; cases hx
      | some z => rw [e] at hx; exact ⟨z, List.mem_of_getElem? e, rfl, (Option.some.inj hx).symm⟩
    walk_at "rd"
    refine ⟨a, _, rfl, hs, for_it walk_enum (fun i σ H' => ∃ (t : Int) (v2 v3 : Option V), σ = [some (.ref a), some (.int t), v2, v3] ∧ Ex H H' ∧ 0 ≤ t ∧ t < 2147483629) ⟨17, none, none, rfl, Ex.refl H, by decide, by decide⟩ (fun i σ H' _ ⟨_, _, _, _, e, _⟩ => ex_l e hs) ?_ ?_⟩
    · rintro i x σ H1 H2 hi ⟨t, v2, v3, rfl, e1, t0, t1⟩ ⟨T, p, y, rfl, hT, rfl, hp, hy⟩
      obtain rfl : V.int ((i : Nat) : Int) = p := Option.some.inj hp
      obtain ⟨z, hz, _, rfl⟩ := item hy
      refine ⟨T, _, rfl, st_of upd_same, rfl, ?_⟩
      walk_at "rd"
      refine rd_I (mulx_ok (a := 31) (b := 6) (by omega) (by decide) (by decide)) ?_
      walk_at "rd"
      refine rd_I (mulx_ok (a := 2) (b := 20) (by decide) (by rw [hcl] at hi; omega) (by decide)) ?_
      walk_at "rd"
      refine rd_I (mulx_bits (a := 1048576) (b := 20) (hb z hz) (bits_le (by rw [hcl] at hi; omega)) (by decide)) ?_
      walk_at "rd"
      obtain ⟨f1, f2⟩ := fmod_bd (t * 37 + z * (2 * ((i : Nat) : Int) + 3)) (j := 2147483629) (by decide)
      exact ⟨_, _, _, rfl, e1.trans (Ex.new hT), f1, f2⟩
    · rintro σ H1 ⟨t, v2, v3, rfl, e1, t0, t1⟩
      walk_at "rd"
      refine ⟨a, rfl, ⟨_, ex_l e1 hs⟩, lc_lstT (fun _ => true) (fun i => .int (if ns.getD i 0 < 0 then -(ns.getD i 0) else ns.getD i 0)) (ex_l e1 hs) (by rw [hcl]; omega) (fun _ => rfl) (fun i x H2 e2 hx H3 e3 R q => q _ (Ex.refl _)) (fun i x H2 e2 hx hf H3 e3 R q => ?_) fun c H2 hc e2 h2 => ?_⟩
      · obtain ⟨z, hz, hz2, rfl⟩ := item hx
        walk_at "rd"
        refine rd_ex1 ?_
        have q2 := q _ (Ex.refl _)
        rw [List.getD_eq_getElem?_getD, hz2] at q2
        exact q2
      · walk_at "rd"
        refine ⟨by show 4 ≤ sizeLine; decide, fun h0 hh0 => ?_⟩
        have ec : given (ns.map V.int).length (fun _ => true) (fun i => V.int (if ns.getD i 0 < 0 then -(ns.getD i 0) else ns.getD i 0)) = (ns.map fun z => if z < 0 then -z else z).map V.int := by
          rw [hcl, given_map]
          refine List.ext_getElem (by simp) fun i h1 h2 => ?_
          simp only [List.getElem_map, List.getElem_range]
          rw [List.getD_eq_getElem?_getD, List.getElem?_eq_getElem (by simpa using h2)]
          rfl
        rw [ec] at h2
        have ne : c ≠ h0 := ne_of_none h2 hh0
        refine q h0 _ (fresh_back (e1.trans e2) hh0) ((e1.trans e2).trans (Ex.new hh0)) (Hand.mk (i := 0) upd_same (by rw [upd_ne ne]; exact h2) ne (fun z hz => ?_) (Nat.zero_le _) (by rw [List.length_map]; exact hl) (Int.le_refl 0) (by decide) t0 t1)
        obtain ⟨y, hy, rfl⟩ := List.mem_map.mp hz
        refine ⟨by split <;> omega, ?_⟩
        rw [bits_abs]
        exact hb y hy

end
end Lw

set_option Elab.async false
set_option linter.all false
set_option maxRecDepth 100000
set_option maxHeartbeats 4000000
namespace Lw
open PySem PySem.Spec PyProof.Rows L2 He Evl StX
local macro_rules | `(tactic| walk_at "rd") => `(tactic| (repeat first
  | with_reducible refine rd_seq ?_
  | with_reducible refine rd_asg ?_
  | with_reducible refine rd_ret ?_
  | with_reducible refine rd_next ?_
  | with_reducible refine rd_drop ?_
  | with_reducible refine rd_if ?_
  | with_reducible refine rd_ifE ?_
  | ((with_reducible refine' rd_var ?hv ?_); (case hv => rfl))
  | with_reducible refine rd_c ?_
  | with_reducible refine rd_op ?_
  | with_reducible refine rd_chain ?_
  | with_reducible refine rd_I0 ?_
  | with_reducible refine rd_test ?_
  | with_reducible refine rd_B ?_
  | with_reducible refine rd_bl ?_
  | with_reducible refine rd_not ?_
  | with_reducible refine rd_and ?_
  | with_reducible refine rd_or ?_
  | with_reducible refine rd_andV ?_
  | with_reducible refine rd_orV ?_
  | with_reducible refine rd_notV ?_
  | with_reducible refine rd_cons ?_
  | with_reducible refine rd_nil ?_
  | with_reducible refine rd_CB ?_
  | with_reducible refine rd_callS ?_
  | with_reducible refine rd_raise0 ?_
  | with_reducible refine rd_raise1 ?_
  | with_reducible refine rd_raise2 ?_
  | ((with_reducible refine' rd_eq ?hs ?_); (case hs => rfl))
  | ((with_reducible refine' rd_ne ?hs ?_); (case hs => rfl))
  | ((with_reducible refine' rd_isT ?th ?hT ?_); (case th => assumption); (case hT => decide))
  | with_reducible refine rd_tup ?_
  | with_reducible refine rd_lst ?_
  | with_reducible refine rd_iEnum ?_
  | ((with_reducible refine' rd_ixl ?hl ?hk ?_); (case hl => assumption); (case hk => rfl))
  | with_reducible refine rd_int1 ?_
  | with_reducible refine rd_sub ?_
  | with_reducible refine rd_gcons ?_
  | with_reducible refine rd_gnil ?_
  | with_reducible refine rd_iZip ?_
  | with_reducible refine rd_BM ?_
  | with_reducible refine rd_neg ?_
  | ((with_reducible refine' rd_last ?hl ?_); (case hl => assumption))
  | with_reducible refine rd_lc2 ?_
  | with_reducible refine rd_Rg1 ?_
  | with_reducible refine rd_for ?_
  | with_reducible refine rd_iRev ?_
  | with_reducible refine rd_gname ?_
  | with_reducible refine rd_NN ?_
  | with_reducible refine rd_NL ?_
  | with_reducible refine rd_LN ?_
  | ((with_reducible refine' rd_shl1 ?hs ?_); (case hs => omega))
  | ((with_reducible refine' rd_I ?hs ?_); (case hs => first | omega | decide | exact ⟨by decide, by decide, by decide⟩ | exact ⟨by omega, by omega⟩))
  | with_reducible refine rd_tr ?_
  | with_reducible refine rd_trI ?_
  | with_reducible refine rd_star ?_
  | with_reducible refine rd_fmtB ?_
  | with_reducible refine rd_M1 ?_
  | with_reducible refine rd_un ?_
  | with_reducible refine rd_lc ?_
  | with_reducible refine rd_iT ?_
  | with_reducible refine rd_iL ?_
  | with_reducible refine rd_iR1 ?_
  | with_reducible refine rd_iR2 ?_
  | dsimp only [List.set, start]))
section
variable {P : Program} {w : World} {K : PySem.W.Frag} {mg : Str → Option Value} {base : Heap}

def spWide (K : PySem.W.Frag) : Sp := fun vs H Q _ => ∃ (h : Addr) (b : Nat), vs = [.ref h, .int (b : Int)] ∧ Hand H h ∧ b ≤ 64 ∧ ∀ (r : Nat) (H' : Hp), Dh h H H' → Hand H' h → Q (.int (r : Int)) H'
theorem h__law_wide (E : Ctx K mg) : Has P w K mg base 4 "_law_wide" ["_law_hand_here", "_law_bits"] (spWide K) := by
  obtain ⟨fd, F⟩ := f__law_wide E
  refine ⟨⟨fd, ?_, F.bindsN fun _ _ _ _ _ _ us hl => match us, hl with | [_, _], _ => rfl⟩, g__law_wide E, F.kp⟩
  refine F.ok sc__law_wide (fun vs H Q E' h => ?len) (fun cdv A outer s H vs Q E' hr h => ⟨_, (pss_cons (ps_set (i := 2) sc__law_wide.nd rfl (.inl rfl) pe_int)
 (pss_cons (ps_for (passes_of rfl) rfl (pi_range1 rfl (b_range E) (pa_cons (pe_op op_fdivW (pv 1) pe_int) pa_nil)) (pg_name (i := 3) sc__law_wide.nd rfl (.inl rfl))
 (pss_one (ps_set (i := 2) sc__law_wide.nd rfl (.inl rfl) (pe_op op_add (pe_op op_mulX (pv 2) pe_int) (pe_H (h__law_draw E) (hr.mono (by decide)) (takes_of rfl rfl rfl rfl) (pa_cons (pv 0) (pa_cons pe_int pa_nil)))))))
 (pss_one (ps_ret (pe_op op_add (pe_op op_mulX (pv 2) (pe_op on_shl pe_int (pe_op op_sub (pv 1) (pe_op op_mulX (pe_op op_fdivW (pv 1) pe_int) pe_int)))) (pe_H (h__law_draw E) (hr.mono (by decide)) (takes_of rfl rfl rfl rfl) (pa_cons (pv 0) (pa_cons (pe_op on_shl pe_int (pe_op op_sub (pv 1) (pe_op op_mulX (pe_op op_fdivW (pv 1) pe_int) pe_int))) pa_nil)))))))), ?rd⟩)
  case len =>
    obtain ⟨h0, b, rfl, _⟩ := h
    rfl
  case rd =>
    obtain ⟨h0, b, rfl, hh, hb, q⟩ := h
    walk_at "rd"
    refine rd_I (wide_div (b := 4) (by decide) (by decide) (by decide) (by decide)) ?_
    have e8 : ((b : Int) / 8) = ((b / 8 : Nat) : Int) := by omega
    rw [e8]
    walk_at "rd"
    refine ⟨_, rfl, by omega, by omega, ?_⟩
    rw [Int.toNat_natCast]
    refine for_range (lo := 0) (n := b / 8) (fun i σ H' => ∃ (x : Nat) (v : Option V), σ = [some (.ref h0), some (.int (b : Int)), some (.int (x : Int)), v] ∧ Dh h0 H H' ∧ Hand H' h0 ∧ x < 256 ^ i) ⟨0, none, rfl, Dh.refl _ _, hh, by decide⟩ ?_ ?_
    · rintro i σ H1 hi ⟨x, v, rfl, d1, h1, hx⟩
      have hx2 : x < 2 ^ 64 := Nat.lt_of_lt_of_le hx (by
        have e : (256 : Nat) ^ i ≤ 256 ^ 8 := Nat.pow_le_pow_right (by decide) (by omega)
        exact Nat.le_trans e (by decide))
      walk_at "rd"
      refine rd_I (mulx_ok (a := 64) (b := 9) (by omega) (by decide) (by decide)) ?_
      walk_at "rd"
      refine ⟨h0, 256, rfl, h1, ⟨by decide, by decide⟩, fun r H2 hr d2 h2 => ?_⟩
      walk_at "rd"
      have e2 : (x : Int) * 256 + (r : Int) = ((x * 256 + r : Nat) : Int) := by omega
      rw [e2]
      refine ⟨_, _, rfl, d1.trans d2, h2, ?_⟩
      rw [Nat.pow_succ]
      omega
    · rintro σ H1 ⟨x, v, rfl, d1, h1, hx⟩
      have hx2 : x < 2 ^ 64 := Nat.lt_of_lt_of_le hx (by
        have e : (256 : Nat) ^ (b / 8) ≤ 256 ^ 8 := Nat.pow_le_pow_right (by decide) (by omega)
        exact Nat.le_trans e (by decide))
      walk_at "rd"
      refine rd_I (wide_div (b := 4) (by decide) (by decide) (by decide) (by decide)) ?_
      walk_at "rd"
      refine rd_I (mulx_ok (a := 64) (b := 4) (by omega) (by decide) (by decide)) ?_
      walk_at "rd"
      have e9 : (b : Int) - (b : Int) / 8 * 8 = ((b % 8 : Nat) : Int) := by omega
      rw [e9]
      walk_at "rd"
      have p2 : (2 : Nat) ^ (b % 8) < 2 ^ 8 := Nat.pow_lt_pow_right (by decide) (by omega)
      have p1 : 0 < (2 : Nat) ^ (b % 8) := Nat.pow_pos (by decide)
      generalize (2 : Nat) ^ (b % 8) = u at p1 p2 ⊢
      refine rd_I (mulx_ok (a := 64) (b := 9) (by omega) (by omega) (by decide)) ?_
      walk_at "rd"
      refine rd_I (wide_div (b := 4) (by decide) (by decide) (by decide) (by decide)) ?_
      walk_at "rd"
      refine rd_I (mulx_ok (a := 64) (b := 4) (by omega) (by decide) (by decide)) ?_
      walk_at "rd"
      rw [e9]
      walk_at "rd"
      have p3 : (2 : Nat) ^ (b % 8) < 2 ^ 8 := Nat.pow_lt_pow_right (by decide) (by omega)
      have p4 : 0 < (2 : Nat) ^ (b % 8) := Nat.pow_pos (by decide)
      generalize (2 : Nat) ^ (b % 8) = u2 at p3 p4 ⊢
      refine ⟨h0, (u2 : Int), rfl, h1, ⟨by omega, by omega⟩, fun r H2 hr d2 h2 => ?_⟩
      walk_at "rd"
      have e10 : (x : Int) * (u : Int) + (r : Int) = ((x * u + r : Nat) : Int) := by
        rw [Int.natCast_add, Int.natCast_mul]
      rw [e10]
      exact q _ _ (d1.trans d2) h2
theorem h__law_ones (E : Ctx K mg) : Has P w K mg base 2 "_law_ones" ["_law_number"] (spOnes) := by
  obtain ⟨fd, F⟩ := f__law_ones E
  refine ⟨⟨fd, ?_, F.bindsN fun _ _ _ _ _ _ us hl => match us, hl with | [_], _ => rfl⟩, g__law_ones E, F.kp⟩
  refine F.ok sc__law_ones (fun vs H Q E' h => ?len) (fun cdv A outer s H vs Q E' hr h => ⟨_, (pss_cons (ps_set (i := 1) sc__law_ones.nd rfl (.inl rfl) pe_int)
 (pss_cons (ps_while (passes_of rfl) (pt_cmpR op_gt (pv 0) pe_int (nomark _))
 (pss_cons (ps_set (i := 1) sc__law_ones.nd rfl (.inl rfl) (pe_op op_add (pv 1) (pe_op on_and (pv 0) pe_int)))
 (pss_one (ps_set (i := 0) sc__law_ones.nd rfl (.inl rfl) (pe_op op_fdivW (pv 0) pe_int)))))
 (pss_one (ps_ret (pv 1))))), ?rd⟩)
  case len =>
    obtain ⟨n, rfl, _⟩ := h
    rfl
  case rd =>
    obtain ⟨n, rfl, hn, q⟩ := h
    walk_at "rd"
    refine rd_while ⟨fun k σ H' => ∃ (x m : Nat), σ = [some (.int (x : Int)), some (.int (m : Int))] ∧ H' = H ∧ k = x ∧ x < 4294967296 ∧ m + onesN x = onesN n, ⟨n, n, 0, rfl, rfl, rfl, hn, by omega⟩, ?_⟩
    rintro x σ H' ⟨_, m, rfl, rfl, rfl, hx, hm⟩
    walk_at "rd"
    refine ⟨fun z => ?_, fun z => ?_⟩
    · have z : 0 < x := by have := of_decide_eq_true z; omega
      refine ⟨fun σ' H2 => ∃ m', m' < x ∧ ∃ (x' m1 : Nat), σ' = [some (.int (x' : Int)), some (.int (m1 : Int))] ∧ H2 = H' ∧ m' = x' ∧ x' < 4294967296 ∧ m1 + onesN x' = onesN n, fun σ' H2 h => h, ?_⟩
      walk_at "rd"
      refine rd_I (wide_div (b := 2) (by decide) (by decide) (by decide) (by decide)) ?_
      walk_at "rd"
      have e1 : (m : Int) + ((x &&& 1 : Nat) : Int) = ((m + x % 2 : Nat) : Int) := by rw [Nat.and_one_is_mod]; omega
      have e2 : (x : Int) / 2 = ((x / 2 : Nat) : Int) := by omega
      rw [e1, e2]
      refine ⟨x / 2, by omega, x / 2, _, rfl, rfl, rfl, by omega, ?_⟩
      have := ones_half x z
      omega
    · have z : x = 0 := by have := of_decide_eq_false z; omega
      subst z
      rw [ones_zero] at hm
      walk_at "rd"
      rw [show m = onesN n by omega]
      exact q
def belB (f g : Nat) : Bool := (List.range 5).all fun l => !(decide (onesN (g / 2 ^ l) < onesN (f / 2 ^ l)))
def spLBelow : Sp := fun vs H Q _ => ∃ f g : Nat, vs = [.int (f : Int), .int (g : Int)] ∧ f < 32 ∧ g < 32 ∧ Q (.bl (belB f g)) H
theorem h__law_is_below (E : Ctx K mg) : Has P w K mg base 3 "_law_is_below" ["_law_f", "_law_g"] (spLBelow) := by
  obtain ⟨fd, F⟩ := f__law_is_below E
  refine ⟨⟨fd, ?_, F.bindsN fun _ _ _ _ _ _ us hl => match us, hl with | [_, _], _ => rfl⟩, g__law_is_below E, F.kp⟩
  refine F.ok sc__law_is_below (fun vs H Q E' h => ?len) (fun cdv A outer s H vs Q E' hr h => ⟨_, (pss_cons (ps_for (passes_of rfl) rfl (pi_range1 rfl (b_range E) (pa_cons pe_int pa_nil)) (pg_name (i := 2) sc__law_is_below.nd rfl (.inl rfl))
 (pss_one (ps_if (pt_cmpR op_gt (pe_H (h__law_ones E) (hr.mono (by decide)) (takes_of rfl rfl rfl rfl) (pa_cons (pe_op on_shr (pv 0) (pv 2)) pa_nil)) (pe_H (h__law_ones E) (hr.mono (by decide)) (takes_of rfl rfl rfl rfl) (pa_cons (pe_op on_shr (pv 1) (pv 2)) pa_nil)) (nomark _))
 (pss_one (ps_ret pe_bl))
 pss_nil)))
 (pss_one (ps_ret pe_bl))), ?rd⟩)
  case len =>
    obtain ⟨f, g, rfl, _⟩ := h
    rfl
  case rd =>
    obtain ⟨f, g, rfl, hf, hg, q⟩ := h
    walk_at "rd"
    refine ⟨5, rfl, by decide, by decide, for_range (lo := 0) (n := 5) (fun i σ H' => ∃ v : Option V, σ = [some (.int (f : Int)), some (.int (g : Int)), v] ∧ H' = H ∧ ∀ k, k < i → ¬ onesN (g / 2 ^ k) < onesN (f / 2 ^ k)) ⟨none, rfl, rfl, fun k hk => absurd hk (Nat.not_lt_zero k)⟩ ?_ ?_⟩
    · rintro i σ H' hi ⟨v, rfl, rfl, hk⟩
      rw [Int.zero_add]
      have h1 : f / 2 ^ i < 4294967296 := Nat.lt_of_le_of_lt (Nat.div_le_self _ _) (by omega)
      have h2 : g / 2 ^ i < 4294967296 := Nat.lt_of_le_of_lt (Nat.div_le_self _ _) (by omega)
      walk_at "rd"
      refine ones_ok h1 ?_
      walk_at "rd"
      refine ones_ok h2 ?_
      walk_at "rd"
      refine ⟨fun z => ?_, fun z => ?_⟩
      · walk_at "rd"
        have z : onesN (g / 2 ^ i) < onesN (f / 2 ^ i) := by have := of_decide_eq_true z; omega
        have e : belB f g = false := by
          unfold belB
          rw [List.all_eq_false]
          exact ⟨i, List.mem_range.mpr hi, by rw [decide_eq_true z]; decide⟩
        rw [e] at q
        exact q
      · have z : ¬ onesN (g / 2 ^ i) < onesN (f / 2 ^ i) := by have := of_decide_eq_false z; omega
        walk_at "rd"
        refine ⟨_, rfl, rfl, fun k h => ?_⟩
        by_cases e : k = i
        · subst e; exact z
        · exact hk k (by omega)
    · rintro σ H' ⟨v, rfl, rfl, hk⟩
      walk_at "rd"
      have e : belB f g = true := by
        unfold belB
        rw [List.all_eq_true]
        intro l hl
        rw [decide_eq_false (hk l (List.mem_range.mp hl))]
        rfl
      rw [e] at q
      exact q

end
end Lw

set_option Elab.async false
set_option linter.all false
set_option maxRecDepth 100000
set_option maxHeartbeats 4000000
namespace Lw
open PySem PySem.Spec PyProof.Rows L2 He Evl StX
local macro_rules | `(tactic| walk_at "rd") => `(tactic| (repeat first
  | with_reducible refine rd_seq ?_
  | with_reducible refine rd_asg ?_
  | with_reducible refine rd_ret ?_
  | with_reducible refine rd_next ?_
  | with_reducible refine rd_drop ?_
  | with_reducible refine rd_if ?_
  | with_reducible refine rd_ifE ?_
  | ((with_reducible refine' rd_var ?hv ?_); (case hv => rfl))
  | with_reducible refine rd_c ?_
  | with_reducible refine rd_op ?_
  | with_reducible refine rd_chain ?_
  | with_reducible refine rd_I0 ?_
  | with_reducible refine rd_test ?_
  | with_reducible refine rd_B ?_
  | with_reducible refine rd_bl ?_
  | with_reducible refine rd_not ?_
  | with_reducible refine rd_and ?_
  | with_reducible refine rd_or ?_
  | with_reducible refine rd_andV ?_
  | with_reducible refine rd_orV ?_
  | with_reducible refine rd_notV ?_
  | with_reducible refine rd_cons ?_
  | with_reducible refine rd_nil ?_
  | with_reducible refine rd_CB ?_
  | with_reducible refine rd_callS ?_
  | with_reducible refine rd_raise0 ?_
  | with_reducible refine rd_raise1 ?_
  | with_reducible refine rd_raise2 ?_
  | ((with_reducible refine' rd_eq ?hs ?_); (case hs => rfl))
  | ((with_reducible refine' rd_ne ?hs ?_); (case hs => rfl))
  | ((with_reducible refine' rd_isT ?th ?hT ?_); (case th => assumption); (case hT => decide))
  | with_reducible refine rd_tup ?_
  | with_reducible refine rd_lst ?_
  | with_reducible refine rd_iEnum ?_
  | ((with_reducible refine' rd_ixl ?hl ?hk ?_); (case hl => assumption); (case hk => rfl))
  | with_reducible refine rd_int1 ?_
  | with_reducible refine rd_sub ?_
  | with_reducible refine rd_gcons ?_
  | with_reducible refine rd_gnil ?_
  | with_reducible refine rd_iZip ?_
  | with_reducible refine rd_BM ?_
  | with_reducible refine rd_neg ?_
  | ((with_reducible refine' rd_last ?hl ?_); (case hl => assumption))
  | with_reducible refine rd_lc2 ?_
  | with_reducible refine rd_Rg1 ?_
  | with_reducible refine rd_for ?_
  | with_reducible refine rd_iRev ?_
  | with_reducible refine rd_gname ?_
  | with_reducible refine rd_NN ?_
  | with_reducible refine rd_NL ?_
  | with_reducible refine rd_LN ?_
  | ((with_reducible refine' rd_shl1 ?hs ?_); (case hs => omega))
  | ((with_reducible refine' rd_I ?hs ?_); (case hs => first | omega | decide | exact ⟨by decide, by decide, by decide⟩ | exact ⟨by omega, by omega⟩))
  | with_reducible refine rd_tr ?_
  | with_reducible refine rd_trI ?_
  | with_reducible refine rd_star ?_
  | with_reducible refine rd_fmtB ?_
  | with_reducible refine rd_M1 ?_
  | with_reducible refine rd_un ?_
  | with_reducible refine rd_lc ?_
  | with_reducible refine rd_iT ?_
  | with_reducible refine rd_iL ?_
  | with_reducible refine rd_iR1 ?_
  | with_reducible refine rd_iR2 ?_
  | dsimp only [List.set, start]))
section
variable {P : Program} {w : World} {K : PySem.W.Frag} {mg : Str → Option Value} {base : Heap}

def RetL (H : Hp) (Q : VK) (ns : List Int) : Prop := ∀ p H', H p = none → Ex H H' → H' p = some (.lst (ns.map V.int)) → Q (.ref p) H'
theorem bit_eq1 (n i : Nat) : decide (V.int ((n / 2 ^ i &&& 1 : Nat) : Int) = V.int 1) = (n / 2 ^ i % 2 == 1) := by
  rw [Nat.and_one_is_mod]
  rcases Nat.mod_two_eq_zero_or_one (n / 2 ^ i) with h | h <;> rw [h] <;> rfl
theorem bit_eq0 (n i : Nat) : decide (V.int ((n / 2 ^ i &&& 1 : Nat) : Int) = V.int 0) = !(n / 2 ^ i % 2 == 1) := by
  rw [Nat.and_one_is_mod]
  rcases Nat.mod_two_eq_zero_or_one (n / 2 ^ i) with h | h <;> rw [h] <;> rfl
def spNL (F : Nat → List Int) : Sp := fun vs H Q _ => ∃ n : Nat, vs = [.int (n : Int)] ∧ n < 32 ∧ RetL H Q (F n)
theorem h__law_left_out (E : Ctx K mg) : Has P w K mg base 2 "_law_left_out" ["_law_heap"] (spNL leftN) := by
  obtain ⟨fd, F⟩ := f__law_left_out E
  refine ⟨⟨fd, ?_, F.bindsN fun _ _ _ _ _ _ us hl => match us, hl with | [_], _ => rfl⟩, g__law_left_out E, F.kp⟩
  refine F.ok sc__law_left_out (fun vs H Q E' h => ?len) (fun cdv A outer s H vs Q E' hr h => ⟨_, (pss_one (ps_ret (pe_callB (kc_sorted (K := K) rfl) rfl (b_sorted E) (by decide +kernel) (pa_cons (pe_lc (own := [("_law_i", 1)]) (g := gName 1) rfl sc__law_left_out.nd (pi_range1 rfl (b_range E) (pa_cons pe_int pa_nil)) (blkOk_by (own := [("_law_i", 1)]) (N := N__law_left_out) (sc := defScope s__law_left_out) (by decide +kernel)) (fun _ _ _ _ _ => (pg_name (i := 1) sc__law_left_out.nd rfl (.inl rfl))) (fun _ _ _ _ _ => (pts_one (pt_cmpR op_eq (pe_op on_and (pe_op on_shr (pv 0) (pv 1)) pe_int) pe_int (nomark _)))) (fun _ _ _ _ _ => (pe_op on_xor (pv 0) (pe_op on_shl pe_int (pv 1))))) pa_nil)))), ?rd⟩)
  case len =>
    obtain ⟨n, rfl, _⟩ := h
    rfl
  case rd =>
    obtain ⟨n, rfl, hn, q⟩ := h
    walk_at "rd"
    refine ⟨5, rfl, by decide, by decide, lc_rng0 (n := 5) (fun i => n / 2 ^ i % 2 == 1) (fun i => .int ((n ^^^ 2 ^ i : Nat) : Int)) (by decide) (fun _ => rfl) (fun i H1 e1 hi H2 e3 R q => ?_) (fun i H1 e1 hi hf H2 e3 R q => ?_) fun p H' hp e2 hl => ?_⟩
    · walk_at "rd"
      rw [bit_eq1]
      exact q _ (Ex.refl _)
    · walk_at "rd"
      exact q _ (Ex.refl _)
    · have e : given 5 (fun i => n / 2 ^ i % 2 == 1) (fun i => V.int ((n ^^^ 2 ^ i : Nat) : Int)) = ((lets n).map fun l => ((n ^^^ 2 ^ l : Nat) : Int)).map V.int := by
        unfold given lets
        rw [List.map_map]
        rfl
      rw [e] at hl
      walk_at "rd"
      refine rd_sorted (sq_of hl) fun p2 hp2 => ?_
      exact q p2 _ (fresh_back e2 hp2) (e2.trans (Ex.new hp2)) upd_same
theorem h__law_letter_row (E : Ctx K mg) : Has P w K mg base 2 "_law_letter_row" ["_law_heap"] (spNL (fun n => intsL (lets n))) := by
  obtain ⟨fd, F⟩ := f__law_letter_row E
  refine ⟨⟨fd, ?_, F.bindsN fun _ _ _ _ _ _ us hl => match us, hl with | [_], _ => rfl⟩, g__law_letter_row E, F.kp⟩
  refine F.ok sc__law_letter_row (fun vs H Q E' h => ?len) (fun cdv A outer s H vs Q E' hr h => ⟨_, (pss_one (ps_ret (pe_lc (own := [("_law_i", 1)]) (g := gName 1) rfl sc__law_letter_row.nd (pi_range1 rfl (b_range E) (pa_cons pe_int pa_nil)) (blkOk_by (own := [("_law_i", 1)]) (N := N__law_letter_row) (sc := defScope s__law_letter_row) (by decide +kernel)) (fun _ _ _ _ _ => (pg_name (i := 1) sc__law_letter_row.nd rfl (.inl rfl))) (fun _ _ _ _ _ => (pts_one (pt_cmpR op_eq (pe_op on_and (pe_op on_shr (pv 0) (pv 1)) pe_int) pe_int (nomark _)))) (fun _ _ _ _ _ => (pv 1))))), ?rd⟩)
  case len =>
    obtain ⟨n, rfl, _⟩ := h
    rfl
  case rd =>
    obtain ⟨n, rfl, hn, q⟩ := h
    walk_at "rd"
    refine ⟨5, rfl, by decide, by decide, lc_rng0 (n := 5) (fun i => n / 2 ^ i % 2 == 1) (fun i => .int (i : Int)) (by decide) (fun _ => rfl) (fun i H1 e1 hi H2 e3 R q => ?_) (fun i H1 e1 hi hf H2 e3 R q => ?_) fun p H' hp e2 hl => ?_⟩
    · walk_at "rd"
      rw [bit_eq1]
      exact q _ (Ex.refl _)
    · walk_at "rd"
      exact q _ (Ex.refl _)
    · refine q p _ hp e2 ?_
      rw [hl]
      unfold given intsL lets
      rw [List.map_map]
      rfl
def lowB (n i k : Nat) : Bool := (n / 2 ^ i % 2 == 1) && !(n / 2 ^ k % 2 == 1)
def lowT (n i k : Nat) : Int := ((n ^^^ 2 ^ i ^^^ 2 ^ k : Nat) : Int)
def lowRow (n i : Nat) : List Int := ((List.range i).filter (lowB n i)).map (lowT n i)
def lowW (n j : Nat) : List Int := (List.range j).flatMap (lowRow n)
theorem lowRow_len (n i : Nat) : (lowRow n i).length ≤ i := by
  unfold lowRow
  rw [List.length_map]
  exact Nat.le_trans (List.length_filter_le _ _) (by simp)
theorem lowW_succ (n j : Nat) : lowW n (j + 1) = lowW n j ++ lowRow n j := by
  unfold lowW
  rw [List.range_succ, List.flatMap_append, List.flatMap_singleton]
theorem lowW_len (n : Nat) : ∀ j, (lowW n j).length ≤ j * j
  | 0 => by simp [lowW]
  | j + 1 => by
    rw [lowW_succ, List.length_append]
    have h1 := lowW_len n j
    have h2 := lowRow_len n j
    rw [Nat.succ_mul, Nat.mul_succ]
    omega
def lowP (n i k : Nat) : List Int := ((List.range k).filter (lowB n i)).map (lowT n i)
theorem lowP_succ (n i k : Nat) : lowP n i (k + 1) = lowP n i k ++ (if lowB n i k = true then [lowT n i k] else []) := by
  unfold lowP
  rw [List.range_succ, List.filter_append, List.map_append, List.filter_cons]
  by_cases h : lowB n i k = true
  · rw [if_pos h, if_pos h]; rfl
  · rw [if_neg h, if_neg h]; rfl
theorem lowP_len (n i k : Nat) : (lowP n i k).length ≤ k := by
  unfold lowP
  rw [List.length_map]
  exact Nat.le_trans (List.length_filter_le _ _) (by simp)
theorem h__law_lowered (E : Ctx K mg) : Has P w K mg base 2 "_law_lowered" ["_law_heap"] (spNL (fun n => isort (lowW n 5))) := by
  obtain ⟨fd, F⟩ := f__law_lowered E
  refine ⟨⟨fd, ?_, F.bindsN fun _ _ _ _ _ _ us hl => match us, hl with | [_], _ => rfl⟩, g__law_lowered E, F.kp⟩
  refine F.ok sc__law_lowered (fun vs H Q E' h => ?len) (fun cdv A outer s H vs Q E' hr h => ⟨_, (pss_cons (ps_set (i := 1) sc__law_lowered.nd rfl (.inl rfl) (pe_lst pa_nil))
 (pss_cons (ps_for (passes_of rfl) rfl (pi_range1 rfl (b_range E) (pa_cons pe_int pa_nil)) (pg_name (i := 2) sc__law_lowered.nd rfl (.inl rfl))
 (pss_one (ps_for (passes_of rfl) rfl (pi_range1 rfl (b_range E) (pa_cons (pv 2) pa_nil)) (pg_name (i := 3) sc__law_lowered.nd rfl (.inl rfl))
 (pss_one (ps_if (PW.pt (pw_and (pt_cmpR op_eq (pe_op on_and (pe_op on_shr (pv 0) (pv 2)) pe_int) pe_int (nomark _)) (pw_and1 (pt_cmpR op_eq (pe_op on_and (pe_op on_shr (pv 0) (pv 3)) pe_int) pe_int (nomark _)))))
 (pss_one (ps_expr (pe_bm PySem.F.plainAttrs_list PySem.F.slot_list_append PySem.F.type_list_append mt_append (pv 1) (pa_cons (pe_op on_xor (pe_op on_xor (pv 0) (pe_op on_shl pe_int (pv 2))) (pe_op on_shl pe_int (pv 3))) pa_nil))))
 pss_nil)))))
 (pss_one (ps_ret (pe_callB (kc_sorted (K := K) rfl) rfl (b_sorted E) (by decide +kernel) (pa_cons (pv 1) pa_nil)))))), ?rd⟩)
  case len =>
    obtain ⟨n, rfl, _⟩ := h
    rfl
  case rd =>
    obtain ⟨n, rfl, hn, q⟩ := h
    walk_at "rd"
    refine ⟨by show 0 ≤ sizeLine; omega, fun l hl => ?_⟩
    walk_at "rd"
    refine ⟨5, rfl, by decide, by decide, for_range (lo := 0) (n := 5) (fun i σ H' => ∃ v2 v3 : Option V, σ = [some (.int (n : Int)), some (.ref l), v2, v3] ∧ Fill H l ((lowW n i).map V.int) H') ⟨none, none, rfl, Fill.new hl⟩ ?_ ?_⟩
    · rintro i σ H1 hi ⟨v2, v3, rfl, F⟩
      rw [Int.zero_add]
      walk_at "rd"
      refine ⟨_, rfl, by omega, by omega, ?_⟩
      rw [Int.toNat_natCast]
      refine for_range (lo := 0) (n := i) (fun k σ H' => ∃ v3 : Option V, σ = [some (.int (n : Int)), some (.ref l), some (.int (i : Int)), v3] ∧ Fill H l ((lowW n i ++ lowP n i k).map V.int) H') ⟨v3, rfl, by rw [show lowP n i 0 = [] from rfl, List.append_nil]; exact F⟩ ?_ ?_
      · rintro k σ H2 hk ⟨v3, rfl, F⟩
        rw [Int.zero_add]
        walk_at "rd"
        rw [bit_eq1]
        have lw := lowW_len n i
        have lp := lowP_len n i k
        have li : i * i ≤ 5 * 5 := Nat.mul_le_mul (by omega) (by omega)
        refine ⟨fun z1 => ?_, fun z1 => ⟨(fun z => nomatch z), fun _ => ?_⟩⟩
        · walk_at "rd"
          rw [bit_eq0]
          refine ⟨fun z2 => ?_, fun z2 => ?_⟩
          · walk_at "rd"
            refine ⟨ty_lst F.2.2, ?_⟩
            walk_at "rd"
            refine rd_app F.2.2 (by rw [List.length_map, List.length_append]; omega) ?_
            walk_at "rd"
            refine ⟨_, rfl, ?_⟩
            have e : (lowW n i ++ lowP n i (k + 1)).map V.int = (lowW n i ++ lowP n i k).map V.int ++ [V.int ((n ^^^ 2 ^ i ^^^ 2 ^ k : Nat) : Int)] := by
              rw [lowP_succ, if_pos (show lowB n i k = true by unfold lowB; rw [z1, z2]; rfl), ← List.append_assoc, List.map_append]
              rfl
            rw [e]
            exact F.set _
          · walk_at "rd"
            refine ⟨_, rfl, ?_⟩
            rw [lowP_succ, if_neg (show ¬ lowB n i k = true by unfold lowB; rw [z1, z2]; decide), List.append_nil]
            exact F
        · walk_at "rd"
          refine ⟨_, rfl, ?_⟩
          rw [lowP_succ, if_neg (show ¬ lowB n i k = true by unfold lowB; rw [z1, Bool.false_and]; decide), List.append_nil]
          exact F
      · rintro σ H2 ⟨v3, rfl, F⟩
        walk_at "rd"
        refine ⟨_, _, rfl, ?_⟩
        rw [lowW_succ]
        exact F
    · rintro σ H1 ⟨v2, v3, rfl, F⟩
      walk_at "rd"
      refine rd_sorted (sq_of F.2.2) fun p2 hp2 => ?_
      exact q p2 _ (fresh_back F.2.1 hp2) (F.2.1.trans (Ex.new hp2)) upd_same
def descW (n : Nat) : List Int := isort (leftN n ++ isort (lowW n 5))
theorem h__law_descents (E : Ctx K mg) : Has P w K mg base 3 "_law_descents" ["_law_heap"] (spNL descW) := by
  obtain ⟨fd, F⟩ := f__law_descents E
  refine ⟨⟨fd, ?_, F.bindsN fun _ _ _ _ _ _ us hl => match us, hl with | [_], _ => rfl⟩, g__law_descents E, F.kp⟩
  refine F.ok sc__law_descents (fun vs H Q E' h => ?len) (fun cdv A outer s H vs Q E' hr h => ⟨_, (pss_one (ps_ret (pe_callB (kc_sorted (K := K) rfl) rfl (b_sorted E) (by decide +kernel) (pa_cons (pe_op op_cat (pe_H (h__law_left_out E) (hr.mono (by decide)) (takes_of rfl rfl rfl rfl) (pa_cons (pv 0) pa_nil)) (pe_H (h__law_lowered E) (hr.mono (by decide)) (takes_of rfl rfl rfl rfl) (pa_cons (pv 0) pa_nil))) pa_nil)))), ?rd⟩)
  case len =>
    obtain ⟨n, rfl, _⟩ := h
    rfl
  case rd =>
    obtain ⟨n, rfl, hn, q⟩ := h
    walk_at "rd"
    refine ⟨n, rfl, hn, fun p1 H1 hp1 e1 h1 => ?_⟩
    walk_at "rd"
    refine ⟨n, rfl, hn, fun p2 H2 hp2 e2 h2 => ?_⟩
    have l1 : (leftN n).length ≤ 5 := by
      unfold leftN
      rw [(isort_perm _).length_eq, List.length_map]
      exact lets_len n
    have l2 : (isort (lowW n 5)).length ≤ 25 := by
      rw [(isort_perm _).length_eq]
      exact lowW_len n 5
    have h2 : H2 p2 = some (.lst ((isort (lowW n 5)).map V.int)) := h2
    refine ⟨p1, p2, _, _, rfl, rfl, e2 p1 _ h1, h2, sz_of (by rw [List.length_map, List.length_map]; omega), fun p3 hp3 => ?_⟩
    rw [← List.map_append]
    walk_at "rd"
    refine rd_sorted (sq_of upd_same) fun p4 hp4 => ?_
    have e3 : Ex H (upd H2 p3 (.lst ((leftN n ++ isort (lowW n 5)).map V.int))) := (e1.trans e2).trans (Ex.new hp3)
    exact q p4 _ (fresh_back e3 hp4) (e3.trans (Ex.new hp4)) upd_same

end
end Lw

set_option Elab.async false
set_option linter.all false
set_option maxRecDepth 100000
set_option maxHeartbeats 4000000
namespace Lw
open PySem PySem.Spec PyProof.Rows L2 He Evl StX
local macro_rules | `(tactic| walk_at "rd") => `(tactic| (repeat first
  | with_reducible refine rd_seq ?_
  | with_reducible refine rd_asg ?_
  | with_reducible refine rd_ret ?_
  | with_reducible refine rd_next ?_
  | with_reducible refine rd_drop ?_
  | with_reducible refine rd_if ?_
  | with_reducible refine rd_ifE ?_
  | ((with_reducible refine' rd_var ?hv ?_); (case hv => rfl))
  | with_reducible refine rd_c ?_
  | with_reducible refine rd_op ?_
  | with_reducible refine rd_chain ?_
  | with_reducible refine rd_I0 ?_
  | with_reducible refine rd_test ?_
  | with_reducible refine rd_B ?_
  | with_reducible refine rd_bl ?_
  | with_reducible refine rd_not ?_
  | with_reducible refine rd_and ?_
  | with_reducible refine rd_or ?_
  | with_reducible refine rd_andV ?_
  | with_reducible refine rd_orV ?_
  | with_reducible refine rd_notV ?_
  | with_reducible refine rd_cons ?_
  | with_reducible refine rd_nil ?_
  | with_reducible refine rd_CB ?_
  | with_reducible refine rd_callS ?_
  | with_reducible refine rd_raise0 ?_
  | with_reducible refine rd_raise1 ?_
  | with_reducible refine rd_raise2 ?_
  | ((with_reducible refine' rd_eq ?hs ?_); (case hs => rfl))
  | ((with_reducible refine' rd_ne ?hs ?_); (case hs => rfl))
  | ((with_reducible refine' rd_isT ?th ?hT ?_); (case th => assumption); (case hT => decide))
  | with_reducible refine rd_tup ?_
  | with_reducible refine rd_lst ?_
  | with_reducible refine rd_iEnum ?_
  | ((with_reducible refine' rd_ixl ?hl ?hk ?_); (case hl => assumption); (case hk => rfl))
  | with_reducible refine rd_int1 ?_
  | with_reducible refine rd_sub ?_
  | with_reducible refine rd_gcons ?_
  | with_reducible refine rd_gnil ?_
  | with_reducible refine rd_iZip ?_
  | with_reducible refine rd_BM ?_
  | with_reducible refine rd_neg ?_
  | ((with_reducible refine' rd_last ?hl ?_); (case hl => assumption))
  | with_reducible refine rd_lc2 ?_
  | with_reducible refine rd_Rg1 ?_
  | with_reducible refine rd_for ?_
  | with_reducible refine rd_iRev ?_
  | with_reducible refine rd_gname ?_
  | with_reducible refine rd_NN ?_
  | with_reducible refine rd_NL ?_
  | with_reducible refine rd_LN ?_
  | ((with_reducible refine' rd_shl1 ?hs ?_); (case hs => omega))
  | ((with_reducible refine' rd_I ?hs ?_); (case hs => first | omega | decide | exact ⟨by decide, by decide, by decide⟩ | exact ⟨by omega, by omega⟩))
  | with_reducible refine rd_tr ?_
  | with_reducible refine rd_trI ?_
  | with_reducible refine rd_star ?_
  | with_reducible refine rd_fmtB ?_
  | with_reducible refine rd_M1 ?_
  | with_reducible refine rd_un ?_
  | with_reducible refine rd_lc ?_
  | with_reducible refine rd_iT ?_
  | with_reducible refine rd_iL ?_
  | with_reducible refine rd_iR1 ?_
  | with_reducible refine rd_iR2 ?_
  | dsimp only [List.set, start]))
section
variable {P : Program} {w : World} {K : PySem.W.Frag} {mg : Str → Option Value} {base : Heap}

def tTryAs (K : PySem.W.Frag) (c : Value) (i : Nat) (ts : Addr → Value → Option Addr → TS) (Wout : WX) (tb : WX → TS) : TS := fun D σ H => tb (wAs K c i ts Wout D) D σ H
theorem rd_tryAs {σ : L2.St} {H : Hp} {D : Ends} {c : Value} {i : Nat} {ts : Addr → Value → Option Addr → TS} {Wout : WX} {tb : WX → TS} (h : tb (wAs K c i ts Wout D) D σ H) : tTryAs K c i ts Wout tb D σ H := h
section
variable {X : Cx} {x n : Str} {c : Value} {i : Nat} {body suite : List Stmt} {b₀ : Stmt} {np pos pos' : Pos} {tb : WX → TS} {ts : Addr → Value → Option Addr → TS} {Wout : WX}
theorem kts_try_as (h : X.K = K) (hs : X.stack = X.env :: X.outer) (hf : X.env.frame = some X.env.locals) (hN : X.N.Nodup) (hi : X.N[i]? = some n) (hln : X.env.kindOf n = some .local) (hc : Names X x c) (tk : L2N.Takes X Wout)
    (hb : ∀ (W : WX) (pn : List (Addr × Obj)) (xe : Value → Shared → Prop), L2N.Takes (X.tr pn xe) W → PassesOwn (model X.prog X.w) X.A X.env xe → PSs (X.tr pn xe) body (tb W))
    (hsu : ∀ (a : Addr) (oe : Obj) (cls : Value) (d : Option Addr) (pn : List (Addr × Obj)), L2N.Zn cls d oe → (∃ vs, oe.data = .fields vs) → PSs (X.suite a ((a, oe) :: pn)) (b₀ :: suite) (ts a cls d)) :
    PS X (.Try body [.ExceptHandler (some (.Name x np)) (some n) (b₀ :: suite) pos'] [] [] pos) (tTryAs K c i ts Wout tb) := h ▸ L2N.ps_try_as hs hf hN hi hln hc tk hb hsu
end
def spTruth : Sp := fun vs H Q _ => ∃ a b : Bool, vs = [.bl a, .bl b] ∧ Q (.bl (decide (a = b))) H
theorem h__law_truth (E : Ctx K mg) : Has P w K mg base 2 "_law_truth" ["_law_told", "_law_due"] (spTruth) := by
  obtain ⟨fd, F⟩ := f__law_truth E
  refine ⟨⟨fd, ?_, F.bindsN fun _ _ _ _ _ _ us hl => match us, hl with | [_, _], _ => rfl⟩, g__law_truth E, F.kp⟩
  refine F.ok sc__law_truth (fun vs H Q E' h => ?len) (fun cdv A outer s H vs Q E' hr h => ⟨_, (pss_one (ps_ret (pe_ifExp (kt_truth (K := K) rfl (pv 1) (by intro _; rfl)) (pe_cmpR op_isBl (pv 0) pe_bl (nomark _)) (pe_cmpR op_isBl (pv 0) pe_bl (nomark _))))), ?rd⟩)
  case len =>
    obtain ⟨a, b, rfl, _⟩ := h
    rfl
  case rd =>
    obtain ⟨a, b, rfl, q⟩ := h
    walk_at "rd"
    refine ⟨b, rfl, fun z => ?_, fun z => ?_⟩
    · subst z
      walk_at "rd"
      exact ⟨a, true, rfl, rfl, q⟩
    · subst z
      walk_at "rd"
      exact ⟨a, false, rfl, rfl, q⟩
def spExa0 : Sp := fun vs H Q _ => ∃ x : V, vs = [x, x] ∧ (x = .non ∨ ∃ i, x = .int i) ∧ Q (.bl true) H
def spExact : Sp := fun vs H Q E => spExa0 vs H Q E ∨ ∃ (p q : Addr) (ns : List Int), vs = [.ref p, .ref q] ∧ H p = some (.tup (ns.map V.int)) ∧ H q = some (.tup (ns.map V.int)) ∧ ns.length ≤ 1000 ∧ ∀ H', Ex H H' → Q (.bl true) H'
theorem h0__law_exact (E : Ctx K mg) : Has P w K mg base 2 "_law_exact" ["_law_told", "_law_due"] (fun _ _ _ _ => False) := by
  obtain ⟨fd, F⟩ := f__law_exact E
  exact ⟨⟨fd, F.ok sc__law_exact (fun _ _ _ _ h => h.elim) (fun _ _ _ _ _ _ _ _ _ h => h.elim), F.bindsN fun _ _ _ _ _ _ us hl => match us, hl with | [_, _], _ => rfl⟩, g__law_exact E, F.kp⟩
theorem h1__law_exact (E : Ctx K mg) : Has P w K mg base 3 "_law_exact" ["_law_told", "_law_due"] (spExa0) := by
  obtain ⟨fd, F⟩ := f__law_exact E
  refine ⟨⟨fd, ?_, F.bindsN fun _ _ _ _ _ _ us hl => match us, hl with | [_, _], _ => rfl⟩, g__law_exact E, F.kp⟩
  refine F.ok sc__law_exact (fun vs H Q E' h => ?len) (fun cdv A outer s H vs Q E' hr h => ⟨_, (pss_cons (ps_if (pt_val (pe_callB (kc_isT (K := K) rfl) rfl (b_isinstance E) (by decide +kernel) (pa_cons (pv 1) (pa_cons (pe_bltn rfl (b_tuple E) (by decide +kernel) (v := .ty "tuple") rfl) pa_nil))))
 (pss_cons (ps_if (PW.pt (pw_or (pt_not (pt_val (pe_callB (kc_isT (K := K) rfl) rfl (b_isinstance E) (by decide +kernel) (pa_cons (pv 0) (pa_cons (pe_bltn rfl (b_tuple E) (by decide +kernel) (v := .ty "tuple") rfl) pa_nil))))) (pw_or1 (pt_cmpR op_ne (pe_callB (kc_len (K := K) rfl) rfl (b_len E) (by decide +kernel) (pa_cons (pv 0) pa_nil)) (pe_callB (kc_len (K := K) rfl) rfl (b_len E) (by decide +kernel) (pa_cons (pv 1) pa_nil)) (nomark _)))))
 (pss_one (ps_ret pe_bl))
 pss_nil)
 (pss_one (ps_ret (pe_cmpR (ko_eqD hr (K := K) rfl) (pe_lc (own := [("_law_k", 2)]) (g := gName 2) rfl sc__law_exact.nd (pi_range1 rfl (b_range E) (pa_cons (pe_callB (kc_len (K := K) rfl) rfl (b_len E) (by decide +kernel) (pa_cons (pv 1) pa_nil)) pa_nil)) (blkOk_by (own := [("_law_k", 2)]) (N := N__law_exact) (sc := defScope s__law_exact) (by decide +kernel)) (fun _ _ _ _ _ => (pg_name (i := 2) sc__law_exact.nd rfl (.inl rfl))) (fun _ _ _ _ _ => (pts_one (pt_not (pt_val (pe_H (h0__law_exact E) (hr.mono (by decide)) takes0 (pa_cons (pe_ix (kx_tup (K := K) rfl) (pv 0) (pv 2) (fun _ _ => rfl)) (pa_cons (pe_ix (kx_tup (K := K) rfl) (pv 1) (pv 2) (fun _ _ => rfl)) pa_nil))))))) (fun _ _ _ _ _ => (pv 2))) (pe_lst pa_nil) (nomark _)))))
 pss_nil)
 (pss_cons (ps_if (pt_cmpR op_isN (pv 1) pe_non (nomark _))
 (pss_one (ps_ret (pe_cmpR op_isN (pv 0) pe_non (nomark _))))
 pss_nil)
 (pss_one (ps_ret (pe_and (pe_callB (kc_isT (K := K) rfl) rfl (b_isinstance E) (by decide +kernel) (pa_cons (pv 0) (pa_cons (pe_bltn rfl (b_int E) (by decide +kernel) (v := .ty "int") rfl) pa_nil))) (pe_and (pe_not (pe_callB (kc_isT (K := K) rfl) rfl (b_isinstance E) (by decide +kernel) (pa_cons (pv 0) (pa_cons (pe_bltn rfl (b_bool E) (by decide +kernel) (v := .ty "bool") rfl) pa_nil)))) (pe_one (pe_cmpR op_eq (pv 0) (pv 1) (nomark _))))))))), ?rd⟩)
  case len =>
    obtain ⟨x, rfl, _⟩ := h
    rfl
  case rd =>
    obtain ⟨x, rfl, rfl | ⟨i, rfl⟩, q⟩ := h
    · have th : Th K H .non "NoneType" := th_non
      walk_at "rd"
      refine ⟨(fun z => nomatch z), fun _ => ?_⟩
      walk_at "rd"
      refine ⟨rfl, ?_⟩
      walk_at "rd"
      refine ⟨fun _ => ?_, (fun z => nomatch z)⟩
      walk_at "rd"
      exact ⟨rfl, q⟩
    · have th : Th K H (.int i) "int" := th_int i
      walk_at "rd"
      refine ⟨(fun z => nomatch z), fun _ => ?_⟩
      walk_at "rd"
      refine ⟨rfl, ?_⟩
      walk_at "rd"
      refine ⟨(fun z => nomatch z), fun _ => ?_⟩
      walk_at "rd"
      refine ⟨fun _ => ?_, (fun z => nomatch z)⟩
      walk_at "rd"
      refine ⟨fun _ => ?_, (fun z => nomatch z)⟩
      walk_at "rd"
      rw [decide_eq_true rfl]
      exact q
theorem h__law_exact (E : Ctx K mg) : Has P w K mg base 4 "_law_exact" ["_law_told", "_law_due"] (spExact) := by
  obtain ⟨fd, F⟩ := f__law_exact E
  refine ⟨⟨fd, ?_, F.bindsN fun _ _ _ _ _ _ us hl => match us, hl with | [_, _], _ => rfl⟩, g__law_exact E, F.kp⟩
  refine F.ok sc__law_exact (fun vs H Q E' h => ?len) (fun cdv A outer s H vs Q E' hr h => ⟨_, (pss_cons (ps_if (pt_val (pe_callB (kc_isT (K := K) rfl) rfl (b_isinstance E) (by decide +kernel) (pa_cons (pv 1) (pa_cons (pe_bltn rfl (b_tuple E) (by decide +kernel) (v := .ty "tuple") rfl) pa_nil))))
 (pss_cons (ps_if (PW.pt (pw_or (pt_not (pt_val (pe_callB (kc_isT (K := K) rfl) rfl (b_isinstance E) (by decide +kernel) (pa_cons (pv 0) (pa_cons (pe_bltn rfl (b_tuple E) (by decide +kernel) (v := .ty "tuple") rfl) pa_nil))))) (pw_or1 (pt_cmpR op_ne (pe_callB (kc_len (K := K) rfl) rfl (b_len E) (by decide +kernel) (pa_cons (pv 0) pa_nil)) (pe_callB (kc_len (K := K) rfl) rfl (b_len E) (by decide +kernel) (pa_cons (pv 1) pa_nil)) (nomark _)))))
 (pss_one (ps_ret pe_bl))
 pss_nil)
 (pss_one (ps_ret (pe_cmpR (ko_eqD hr (K := K) rfl) (pe_lc (own := [("_law_k", 2)]) (g := gName 2) rfl sc__law_exact.nd (pi_range1 rfl (b_range E) (pa_cons (pe_callB (kc_len (K := K) rfl) rfl (b_len E) (by decide +kernel) (pa_cons (pv 1) pa_nil)) pa_nil)) (blkOk_by (own := [("_law_k", 2)]) (N := N__law_exact) (sc := defScope s__law_exact) (by decide +kernel)) (fun _ _ _ _ _ => (pg_name (i := 2) sc__law_exact.nd rfl (.inl rfl))) (fun _ _ _ _ _ => (pts_one (pt_not (pt_val (pe_H (h1__law_exact E) (hr.mono (by decide)) takes0 (pa_cons (pe_ix (kx_tup (K := K) rfl) (pv 0) (pv 2) (fun _ _ => rfl)) (pa_cons (pe_ix (kx_tup (K := K) rfl) (pv 1) (pv 2) (fun _ _ => rfl)) pa_nil))))))) (fun _ _ _ _ _ => (pv 2))) (pe_lst pa_nil) (nomark _)))))
 pss_nil)
 (pss_cons (ps_if (pt_cmpR op_isN (pv 1) pe_non (nomark _))
 (pss_one (ps_ret (pe_cmpR op_isN (pv 0) pe_non (nomark _))))
 pss_nil)
 (pss_one (ps_ret (pe_and (pe_callB (kc_isT (K := K) rfl) rfl (b_isinstance E) (by decide +kernel) (pa_cons (pv 0) (pa_cons (pe_bltn rfl (b_int E) (by decide +kernel) (v := .ty "int") rfl) pa_nil))) (pe_and (pe_not (pe_callB (kc_isT (K := K) rfl) rfl (b_isinstance E) (by decide +kernel) (pa_cons (pv 0) (pa_cons (pe_bltn rfl (b_bool E) (by decide +kernel) (v := .ty "bool") rfl) pa_nil)))) (pe_one (pe_cmpR op_eq (pv 0) (pv 1) (nomark _))))))))), ?rd⟩)
  case len =>
    rcases h with ⟨x, rfl, _⟩ | ⟨p, q, ns, rfl, _⟩
    · rfl
    · rfl
  case rd =>
    rcases h with ⟨x, rfl, rfl | ⟨i, rfl⟩, q⟩ | ⟨p, p2, ns, rfl, h1, h2, hl, q⟩
    · have th : Th K H .non "NoneType" := th_non
      walk_at "rd"
      refine ⟨(fun z => nomatch z), fun _ => ?_⟩
      walk_at "rd"
      refine ⟨rfl, ?_⟩
      walk_at "rd"
      refine ⟨fun _ => ?_, (fun z => nomatch z)⟩
      walk_at "rd"
      exact ⟨rfl, q⟩
    · have th : Th K H (.int i) "int" := th_int i
      walk_at "rd"
      refine ⟨(fun z => nomatch z), fun _ => ?_⟩
      walk_at "rd"
      refine ⟨rfl, ?_⟩
      walk_at "rd"
      refine ⟨(fun z => nomatch z), fun _ => ?_⟩
      walk_at "rd"
      refine ⟨fun _ => ?_, (fun z => nomatch z)⟩
      walk_at "rd"
      refine ⟨fun _ => ?_, (fun z => nomatch z)⟩
      walk_at "rd"
      rw [decide_eq_true rfl]
      exact q
    · have th : Th K H (.ref p2) "tuple" := th_tup h2
      have th2 : Th K H (.ref p) "tuple" := th_tup h1
      walk_at "rd"
      refine ⟨fun _ => ?_, (fun z => nomatch z)⟩
      walk_at "rd"
      refine ⟨(fun z => nomatch z), fun _ => ?_⟩
      walk_at "rd"
      have st1 : SqT K H p (ns.map V.int) := st_of h1
      have st2 : SqT K H p2 (ns.map V.int) := st_of h2
      refine ⟨p, _, rfl, .inr st1, ?_⟩
      walk_at "rd"
      refine ⟨p2, _, rfl, .inr st2, ?_⟩
      walk_at "rd"
      rw [decide_eq_true rfl]
      refine ⟨(fun z => nomatch z), fun _ => ?_⟩
      walk_at "rd"
      refine ⟨p2, _, rfl, .inr st2, ?_⟩
      have el : (ns.map V.int).length = ns.length := by simp
      rw [el]
      refine ⟨_, rfl, by omega, by omega, ?_⟩
      rw [Int.toNat_natCast]
      have it : ∀ {k : Nat}, k < ns.length → ∃ z : Int, (ns.map V.int)[k]? = some (.int z) := fun {k} hk => ⟨ns[k], by rw [List.getElem?_map, List.getElem?_eq_getElem hk]; rfl⟩
      refine lc_rng0 (n := ns.length) (fun _ => false) (fun i => .int (i : Int)) (by omega) (fun _ => rfl) (fun k H1 e1 hk H2 e3 R q => ?_) (fun k H1 e1 hk hf => nomatch hf) fun p3 H' hp e2 hl3 => ?_
      · obtain ⟨z, hz⟩ := it hk
        walk_at "rd"
        refine ⟨p, _, _, _, rfl, rfl, ex_t (e1.trans e3) st1, atI_nat hz, ?_⟩
        walk_at "rd"
        refine ⟨p2, _, _, _, rfl, rfl, ex_t (e1.trans e3) st2, atI_nat hz, ?_⟩
        walk_at "rd"
        refine ⟨_, rfl, .inr ⟨z, rfl⟩, ?_⟩
        exact ⟨true, rfl, q _ (Ex.refl _)⟩
      · have eg : ∀ n, given n (fun _ => false) (fun i => V.int (i : Int)) = [] := fun n => by
          unfold given
          rw [List.filter_eq_nil_iff.mpr (fun _ _ => by decide)]
          rfl
        rw [eg] at hl3
        walk_at "rd"
        refine ⟨by show 0 ≤ sizeLine; omega, fun p4 hp4 => ?_⟩
        have ne : p3 ≠ p4 := ne_of_none hl3 hp4
        refine ⟨.list [], .list [], .lst (sq_of (by rw [upd_ne ne]; exact hl3)) .nil, .lst (sq_of upd_same) .nil, by decide, by decide, ?_⟩
        exact q _ (e2.trans (Ex.new hp4))
theorem hH__law_exact (E : Ctx K mg) : HasH P w K mg base 1 "_law_exact" ["_law_told", "_law_due"] (spExa0) := by
  obtain ⟨fd, F⟩ := f__law_exact E
  obtain ⟨oc, od, dV, kV, doc, pm, an, cdv, ct, osl, rfl, lk, hcd, _, _⟩ := F.ex
  refine ⟨⟨_, ?_, F.bindsN fun _ _ _ _ _ _ us hl => match us, hl with | [_, _], _ => rfl⟩, g__law_exact E, F.kp⟩
  refine L2H.fn_ofH lk hcd sc__law_exact (fun vs H Q E' h => ?len) (fun A outer s H vs Q E' pp hot hr h => ⟨_, (pss_cons (ps_if (pt_val (pe_callB (kc_isT (K := K) rfl) rfl (b_isinstance E) (by decide +kernel) (pa_cons (pv 1) (pa_cons (pe_bltn rfl (b_tuple E) (by decide +kernel) (v := .ty "tuple") rfl) pa_nil))))
 (pss_cons ps_dead
 (pss_one ps_dead))
 pss_nil)
 (pss_cons (ps_if (pt_cmpR op_isN (pv 1) pe_non (nomark _))
 (pss_one (ps_ret (pe_cmpR op_isN (pv 0) pe_non (nomark _))))
 pss_nil)
 (pss_one (ps_ret (pe_and (pe_callB (kc_isT (K := K) rfl) rfl (b_isinstance E) (by decide +kernel) (pa_cons (pv 0) (pa_cons (pe_bltn rfl (b_int E) (by decide +kernel) (v := .ty "int") rfl) pa_nil))) (pe_and (pe_not (pe_callB (kc_isT (K := K) rfl) rfl (b_isinstance E) (by decide +kernel) (pa_cons (pv 0) (pa_cons (pe_bltn rfl (b_bool E) (by decide +kernel) (v := .ty "bool") rfl) pa_nil)))) (pe_one (pe_cmpR op_eq (pv 0) (pv 1) (nomark _))))))))), ?rd⟩)
  case len =>
    obtain ⟨x, rfl, _⟩ := h
    rfl
  case rd =>
    obtain ⟨x, rfl, rfl | ⟨i, rfl⟩, q⟩ := h
    · have th : Th K H .non "NoneType" := th_non
      walk_at "rd"
      refine ⟨(fun z => nomatch z), fun _ => ?_⟩
      walk_at "rd"
      refine ⟨rfl, ?_⟩
      walk_at "rd"
      refine ⟨fun _ => ?_, (fun z => nomatch z)⟩
      walk_at "rd"
      exact ⟨rfl, q⟩
    · have th : Th K H (.int i) "int" := th_int i
      walk_at "rd"
      refine ⟨(fun z => nomatch z), fun _ => ?_⟩
      walk_at "rd"
      refine ⟨rfl, ?_⟩
      walk_at "rd"
      refine ⟨(fun z => nomatch z), fun _ => ?_⟩
      walk_at "rd"
      refine ⟨fun _ => ?_, (fun z => nomatch z)⟩
      walk_at "rd"
      refine ⟨fun _ => ?_, (fun z => nomatch z)⟩
      walk_at "rd"
      rw [decide_eq_true rfl]
      exact q
def spLBar : Sp := fun vs H Q _ => ∃ n m : Nat, vs = [.int (n : Int), .int (m : Int)] ∧ n < 32 ∧ m < 32 ∧ Q (optV (barN n m)) H
theorem h__law_bar (E : Ctx K mg) : Has P w K mg base 3 "_law_bar" ["_law_heap", "_law_other"] (spLBar) := by
  obtain ⟨fd, F⟩ := f__law_bar E
  refine ⟨⟨fd, ?_, F.bindsN fun _ _ _ _ _ _ us hl => match us, hl with | [_, _], _ => rfl⟩, g__law_bar E, F.kp⟩
  refine F.ok sc__law_bar (fun vs H Q E' h => ?len) (fun cdv A outer s H vs Q E' hr h => ⟨_, (pss_cons (ps_for (passes_of rfl) rfl (pi_range1 rfl (b_range E) (pa_cons pe_int pa_nil)) (pg_name (i := 2) sc__law_bar.nd rfl (.inl rfl))
 (pss_one (ps_if (pt_cmpR op_gt (pe_H (h__law_ones E) (hr.mono (by decide)) (takes_of rfl rfl rfl rfl) (pa_cons (pe_op on_shr (pv 0) (pe_op op_sub pe_int (pv 2))) pa_nil)) (pe_H (h__law_ones E) (hr.mono (by decide)) (takes_of rfl rfl rfl rfl) (pa_cons (pe_op on_shr (pv 1) (pe_op op_sub pe_int (pv 2))) pa_nil)) (nomark _))
 (pss_one (ps_ret (pe_op op_sub pe_int (pv 2))))
 pss_nil)))
 (pss_one (ps_ret pe_non))), ?rd⟩)
  case len =>
    obtain ⟨n, m, rfl, _⟩ := h
    rfl
  case rd =>
    obtain ⟨n, m, rfl, hn, hm, q⟩ := h
    walk_at "rd"
    refine ⟨5, rfl, by decide, by decide, for_range (lo := 0) (n := 5) (fun i σ H' => H' = H ∧ ∃ v, σ = [some (.int n), some (.int m), v] ∧ ∀ k, k < i → ¬ onesN (m / 2 ^ (4 - k)) < onesN (n / 2 ^ (4 - k))) ⟨rfl, none, rfl, fun k hk => absurd hk (Nat.not_lt_zero k)⟩ ?_ ?_⟩
    · rintro i σ H' hi ⟨rfl, v, rfl, hk⟩
      rw [Int.zero_add]
      walk_at "rd"
      have e : (4 : Int) - ((i : Nat) : Int) = ((4 - i : Nat) : Int) := by omega
      rw [e]
      have h1 : n / 2 ^ (4 - i) < 4294967296 := Nat.lt_of_le_of_lt (Nat.div_le_self _ _) (by omega)
      have h2 : m / 2 ^ (4 - i) < 4294967296 := Nat.lt_of_le_of_lt (Nat.div_le_self _ _) (by omega)
      walk_at "rd"
      refine ones_ok h1 ?_
      walk_at "rd"
      rw [e]
      walk_at "rd"
      refine ones_ok h2 ?_
      walk_at "rd"
      refine ⟨fun z => ?_, fun z => ?_⟩
      · walk_at "rd"
        rw [e]
        have z := of_decide_eq_true z
        rw [bar_hit hi hk (by omega)] at q
        exact q
      · walk_at "rd"
        have z := of_decide_eq_false z
        refine ⟨rfl, _, rfl, fun k h => ?_⟩
        by_cases ek : k = i
        · subst ek; omega
        · exact hk k (by omega)
    · rintro σ H' ⟨rfl, v, rfl, hk⟩
      walk_at "rd"
      rw [bar_none hk] at q
      exact q

end
end Lw

set_option Elab.async false
set_option linter.all false
set_option maxRecDepth 100000
set_option maxHeartbeats 4000000
namespace Lw
open PySem PySem.Spec PyProof.Rows L2 He Evl StX
local macro_rules | `(tactic| walk_at "rd") => `(tactic| (repeat first
  | with_reducible refine rd_seq ?_
  | with_reducible refine rd_asg ?_
  | with_reducible refine rd_ret ?_
  | with_reducible refine rd_next ?_
  | with_reducible refine rd_drop ?_
  | with_reducible refine rd_if ?_
  | with_reducible refine rd_ifE ?_
  | ((with_reducible refine' rd_var ?hv ?_); (case hv => rfl))
  | with_reducible refine rd_c ?_
  | with_reducible refine rd_op ?_
  | with_reducible refine rd_chain ?_
  | with_reducible refine rd_I0 ?_
  | with_reducible refine rd_test ?_
  | with_reducible refine rd_B ?_
  | with_reducible refine rd_bl ?_
  | with_reducible refine rd_not ?_
  | with_reducible refine rd_and ?_
  | with_reducible refine rd_or ?_
  | with_reducible refine rd_andV ?_
  | with_reducible refine rd_orV ?_
  | with_reducible refine rd_notV ?_
  | with_reducible refine rd_cons ?_
  | with_reducible refine rd_nil ?_
  | with_reducible refine rd_CB ?_
  | with_reducible refine rd_callS ?_
  | with_reducible refine rd_raise0 ?_
  | with_reducible refine rd_raise1 ?_
  | with_reducible refine rd_raise2 ?_
  | ((with_reducible refine' rd_eq ?hs ?_); (case hs => rfl))
  | ((with_reducible refine' rd_ne ?hs ?_); (case hs => rfl))
  | ((with_reducible refine' rd_isT ?th ?hT ?_); (case th => assumption); (case hT => decide))
  | with_reducible refine rd_tup ?_
  | with_reducible refine rd_lst ?_
  | with_reducible refine rd_iEnum ?_
  | ((with_reducible refine' rd_ixl ?hl ?hk ?_); (case hl => assumption); (case hk => rfl))
  | with_reducible refine rd_int1 ?_
  | with_reducible refine rd_sub ?_
  | with_reducible refine rd_gcons ?_
  | with_reducible refine rd_gnil ?_
  | with_reducible refine rd_iZip ?_
  | with_reducible refine rd_BM ?_
  | with_reducible refine rd_neg ?_
  | ((with_reducible refine' rd_last ?hl ?_); (case hl => assumption))
  | with_reducible refine rd_lc2 ?_
  | with_reducible refine rd_Rg1 ?_
  | with_reducible refine rd_for ?_
  | with_reducible refine rd_iRev ?_
  | with_reducible refine rd_gname ?_
  | with_reducible refine rd_NN ?_
  | with_reducible refine rd_NL ?_
  | with_reducible refine rd_LN ?_
  | ((with_reducible refine' rd_shl1 ?hs ?_); (case hs => omega))
  | ((with_reducible refine' rd_I ?hs ?_); (case hs => first | omega | decide | exact ⟨by decide, by decide, by decide⟩ | exact ⟨by omega, by omega⟩))
  | with_reducible refine rd_tr ?_
  | with_reducible refine rd_trI ?_
  | with_reducible refine rd_star ?_
  | with_reducible refine rd_fmtB ?_
  | with_reducible refine rd_M1 ?_
  | with_reducible refine rd_un ?_
  | with_reducible refine rd_lc ?_
  | with_reducible refine rd_iT ?_
  | with_reducible refine rd_iL ?_
  | with_reducible refine rd_iR1 ?_
  | with_reducible refine rd_iR2 ?_
  | dsimp only [List.set, start]))
section
variable {P : Program} {w : World} {K : PySem.W.Frag} {mg : Str → Option Value} {base : Heap}

def pass1 (g : Nat) (w : List Nat) : List Nat := if g < onesN (lastN w) then w ++ [lastN w &&& (lastN w - 1)] else w
def passes (g : Nat) : Nat → List Nat → List Nat
  | 0, w => w
  | k + 1, w => pass1 g (passes g k w)
def lastI (w : List Int) : Int := w.getLastD 0
def step3 (w : List Int) (p : Nat × Nat) : List Int := if p.1 ≠ p.2 then w ++ [lastI w - ((2 ^ p.1 : Nat) : Int) + ((2 ^ p.2 : Nat) : Int)] else w
def wayI (h o : Nat) : List Int := ((lets (lastN (passes (onesN h) 5 [o]))).zip (lets h)).foldl step3 (intsL (passes (onesN h) 5 [o]))
def wayOk2 : Bool := (List.range 32).all fun h => (List.range 32).all fun o => !(barN h o).isNone || (decide ((lets (lastN (passes (onesN h) 5 [o]))).length = (lets h).length) && decide (wayI h o = intsL (wayN h o)))
theorem wayOk2_true : wayOk2 = true := by decide +kernel
theorem way_fact2 {h o : Nat} (hh : h < 32) (ho : o < 32) (hb : (barN h o).isNone = true) : (lets (lastN (passes (onesN h) 5 [o]))).length = (lets h).length ∧ wayI h o = intsL (wayN h o) := by
  have z := List.all_eq_true.mp (List.all_eq_true.mp wayOk2_true h (List.mem_range.mpr hh)) o (List.mem_range.mpr ho)
  rw [hb] at z
  simp only [Bool.not_true, Bool.false_or, Bool.and_eq_true, decide_eq_true_eq] at z
  exact z
theorem lastI_app (w : List Int) (a : Int) : lastI (w ++ [a]) = a := by simp [lastI]
theorem lastI_ints (w : List Nat) : lastI (intsL w) = ((lastN w : Nat) : Int) := by
  unfold lastI lastN intsL
  rw [List.getLastD_eq_getLast?, List.getLastD_eq_getLast?, List.getLast?_map]
  cases w.getLast? <;> rfl
theorem ints_V (w : List Nat) : (intsL w).map V.int = intsV w := by unfold intsL intsV; rw [List.map_map]; rfl
def spLWay : Sp := fun vs H Q _ => ∃ n m : Nat, vs = [.int (n : Int), .int (m : Int)] ∧ n < 32 ∧ m < 32 ∧ (barN n m).isNone = true ∧ RetT H Q (intsL (wayN n m))
theorem h__law_way (E : Ctx K mg) : Has P w K mg base 3 "_law_way" ["_law_heap", "_law_other"] (spLWay) := by
  obtain ⟨fd, F⟩ := f__law_way E
  refine ⟨⟨fd, ?_, F.bindsN fun _ _ _ _ _ _ us hl => match us, hl with | [_, _], _ => rfl⟩, g__law_way E, F.kp⟩
  refine F.ok sc__law_way (fun vs H Q E' h => ?len) (fun cdv A outer s H vs Q E' hr h => ⟨_, (pss_cons (ps_set (i := 2) sc__law_way.nd rfl (.inl rfl) (pv 1))
 (pss_cons (ps_set (i := 3) sc__law_way.nd rfl (.inl rfl) (pe_lst (pa_cons (pv 2) pa_nil)))
 (pss_cons (ps_for (passes_of rfl) rfl (pi_range1 rfl (b_range E) (pa_cons pe_int pa_nil)) (pg_name (i := 4) sc__law_way.nd rfl (.inl rfl))
 (pss_one (ps_if (pt_cmpR op_gt (pe_H (h__law_ones E) (hr.mono (by decide)) (takes_of rfl rfl rfl rfl) (pa_cons (pv 2) pa_nil)) (pe_H (h__law_ones E) (hr.mono (by decide)) (takes_of rfl rfl rfl rfl) (pa_cons (pv 0) pa_nil)) (nomark _))
 (pss_cons (ps_set (i := 2) sc__law_way.nd rfl (.inl rfl) (pe_op on_and (pv 2) (pe_op op_sub (pv 2) pe_int)))
 (pss_one (ps_expr (pe_bm PySem.F.plainAttrs_list PySem.F.slot_list_append PySem.F.type_list_append mt_append (pv 3) (pa_cons (pv 2) pa_nil)))))
 pss_nil)))
 (pss_cons (ps_set (i := 5) sc__law_way.nd rfl (.inl rfl) (pe_H (h__law_letter_row E) (hr.mono (by decide)) (takes_of rfl rfl rfl rfl) (pa_cons (pv 2) pa_nil)))
 (pss_cons (ps_set (i := 6) sc__law_way.nd rfl (.inl rfl) (pe_H (h__law_letter_row E) (hr.mono (by decide)) (takes_of rfl rfl rfl rfl) (pa_cons (pv 0) pa_nil)))
 (pss_cons (ps_for (passes_of rfl) rfl (pi_range1 rfl (b_range E) (pa_cons (pe_callB (kc_len (K := K) rfl) rfl (b_len E) (by decide +kernel) (pa_cons (pv 6) pa_nil)) pa_nil)) (pg_name (i := 4) sc__law_way.nd rfl (.inl rfl))
 (pss_one (ps_if (pt_cmpR op_ne (pe_ix (kx_list (K := K) rfl) (pv 5) (pv 4) (fun _ _ => rfl)) (pe_ix (kx_list (K := K) rfl) (pv 6) (pv 4) (fun _ _ => rfl)) (nomark _))
 (pss_cons (ps_set (i := 2) sc__law_way.nd rfl (.inl rfl) (pe_op op_add (pe_op op_sub (pv 2) (pe_op on_shl pe_int (pe_ix (kx_list (K := K) rfl) (pv 5) (pv 4) (fun _ _ => rfl)))) (pe_op on_shl pe_int (pe_ix (kx_list (K := K) rfl) (pv 6) (pv 4) (fun _ _ => rfl)))))
 (pss_one (ps_expr (pe_bm PySem.F.plainAttrs_list PySem.F.slot_list_append PySem.F.type_list_append mt_append (pv 3) (pa_cons (pv 2) pa_nil)))))
 pss_nil)))
 (pss_one (ps_ret (pe_callTy (kc_tup (K := K) rfl) rfl (b_tuple E) (by decide +kernel) (pa_cons (pv 3) pa_nil)))))))))), ?rd⟩)
  case len =>
    obtain ⟨n, m, rfl, _⟩ := h
    rfl
  case rd =>
    obtain ⟨n, m, rfl, hn, hm, hb, q⟩ := h
    obtain ⟨f1, f2⟩ := way_fact2 hn hm hb
    walk_at "rd"
    refine ⟨by show 1 ≤ sizeLine; decide, fun l hl => ?_⟩
    walk_at "rd"
    refine ⟨5, rfl, by decide, by decide, for_range (lo := 0) (n := 5) (fun i σ H' => ∃ (w : List Nat) (v1 v2 v3 : Option V), σ = [some (.int n), some (.int m), some (.int (lastN w : Nat)), some (.ref l), v1, v2, v3] ∧ Fill H l (intsV w) H' ∧ w = passes (onesN n) i [m] ∧ w ≠ [] ∧ lastN w < 32 ∧ w.length ≤ i + 1)
      ⟨[m], none, none, none, rfl, Fill.new hl, rfl, by simp, hm, by simp⟩ ?_ ?_⟩
    · rintro i σ H1 hi ⟨w, v1, v2, v3, rfl, F, hw, hw0, h32, hlen⟩
      walk_at "rd"
      refine ones_ok (by omega) ?_
      walk_at "rd"
      refine ones_ok (by omega) ?_
      walk_at "rd"
      refine ⟨fun z => ?_, fun z => ?_⟩
      · have z : onesN n < onesN (lastN w) := by have := of_decide_eq_true z; omega
        have hpos : 0 < lastN w := by
          rcases Nat.eq_zero_or_pos (lastN w) with e | e
          · rw [e, ones_zero] at z; omega
          · exact e
        have hlt := and_pred hpos
        walk_at "rd"
        have e1 : ((lastN w : Nat) : Int) - 1 = ((lastN w - 1 : Nat) : Int) := by omega
        rw [e1]
        walk_at "rd"
        refine ⟨ty_lst F.2.2, ?_⟩
        walk_at "rd"
        refine rd_app F.2.2 (by simp [intsV]; omega) ?_
        walk_at "rd"
        have ev : intsV w ++ [V.int ((lastN w &&& (lastN w - 1) : Nat) : Int)] = intsV (w ++ [lastN w &&& (lastN w - 1)]) := by simp [intsV]
        rw [ev]
        refine ⟨w ++ [lastN w &&& (lastN w - 1)], _, _, _, by rw [lastN_app]; rfl, F.set _, ?_, by simp, by rw [lastN_app]; omega, by rw [List.length_append]; simp; omega⟩
        show _ = pass1 (onesN n) (passes (onesN n) i [m])
        rw [← hw]
        unfold pass1
        rw [if_pos z]
      · have z : ¬ onesN n < onesN (lastN w) := by have := of_decide_eq_false z; omega
        walk_at "rd"
        refine ⟨w, _, _, _, rfl, F, ?_, hw0, h32, by omega⟩
        show _ = pass1 (onesN n) (passes (onesN n) i [m])
        rw [← hw]
        unfold pass1
        rw [if_neg z]
    · rintro σ H1 ⟨w, v1, v2, v3, rfl, F, hw, hw0, h32, hlen⟩
      rw [← hw] at f1
      walk_at "rd"
      refine ⟨_, rfl, h32, fun p1 H2 hp1 e1 h1 => ?_⟩
      walk_at "rd"
      refine ⟨_, rfl, hn, fun p2 H3 hp2 e2 h2 => ?_⟩
      walk_at "rd"
      refine ⟨p2, _, rfl, .inl (sq_of h2), ?_⟩
      have el : ((intsL (lets n)).map V.int).length = (lets n).length := by simp [intsL]
      rw [el]
      have ll := lets_len n
      refine ⟨_, rfl, by omega, by omega, ?_⟩
      rw [Int.toNat_natCast]
      rw [ints_V] at h1 h2
      have F3 : Fill H l (intsV w) H3 := (F.ex e1).ex e2
      refine for_range (lo := 0) (n := (lets n).length)
          (fun i σ' H4 => ∃ (u : List Int) (v1 : Option V), σ' = [some (.int n), some (.int m), some (.int (lastI u)), some (.ref l), v1, some (.ref p1), some (.ref p2)] ∧ u = (((lets (lastN w)).zip (lets n)).take i).foldl step3 (intsL w) ∧ Fill H l (u.map V.int) H4 ∧ H4 p1 = some (.lst (intsV (lets (lastN w)))) ∧ H4 p2 = some (.lst (intsV (lets n))) ∧ u.length ≤ 6 + i)
          ⟨intsL w, v1, by rw [lastI_ints]; rfl, rfl, by rw [ints_V]; exact F3, e2 p1 _ h1, h2, by unfold intsL; rw [List.length_map]; omega⟩ ?_ ?_
      · rintro i σ' H4 hi ⟨u, v1, rfl, hu, F4, a1, a2, hul⟩
        have hi2 : i < (lets (lastN w)).length := by omega
        have x1 : (intsV (lets (lastN w)))[i]? = some (.int ((lets (lastN w))[i] : Nat)) := by unfold intsV; rw [List.getElem?_map, List.getElem?_eq_getElem hi2]; rfl
        have x2 : (intsV (lets n))[i]? = some (.int ((lets n)[i] : Nat)) := by unfold intsV; rw [List.getElem?_map, List.getElem?_eq_getElem hi]; rfl
        have et : ((lets (lastN w)).zip (lets n)).take (i + 1) = ((lets (lastN w)).zip (lets n)).take i ++ [((lets (lastN w))[i], (lets n)[i])] := by
          refine take_succ_of ?_
          rw [List.getElem?_zip_eq_some]
          exact ⟨List.getElem?_eq_getElem hi2, List.getElem?_eq_getElem hi⟩
        have a5 := lets_lt (List.getElem_mem hi2)
        have b5 := lets_lt (List.getElem_mem hi)
        rw [et, List.foldl_append, ← hu]
        generalize (lets (lastN w))[i] = a at x1 a5 ⊢
        generalize (lets n)[i] = b at x2 b5 ⊢
        rw [Int.zero_add]
        walk_at "rd"
        refine rd_ix (sq_of a1) x1 ?_
        walk_at "rd"
        refine rd_ix (sq_of a2) x2 ?_
        walk_at "rd"
        have ea : decide (V.int (a : Int) = V.int (b : Int)) = decide (a = b) := by
          by_cases h : a = b
          · simp [h]
          · rw [decide_eq_false h, decide_eq_false]
            intro z
            injection z with z
            omega
        rw [ea]
        refine ⟨fun z => ?_, fun z => ?_⟩
        · have hab : a ≠ b := by simpa using z
          walk_at "rd"
          refine rd_ix (sq_of a1) x1 ?_
          walk_at "rd"
          refine rd_ix (sq_of a2) x2 ?_
          walk_at "rd"
          refine ⟨ty_lst F4.2.2, ?_⟩
          walk_at "rd"
          refine rd_app F4.2.2 (by rw [List.length_map]; omega) ?_
          walk_at "rd"
          have es : List.foldl step3 u [(a, b)] = u ++ [lastI u - ((2 ^ a : Nat) : Int) + ((2 ^ b : Nat) : Int)] := by
            show step3 u (a, b) = _
            unfold step3
            rw [if_pos hab]
          have ne1 : p1 ≠ l := fun e => by
            subst e
            have c1 := F.2.2
            rw [hp1] at c1
            cases c1
          have ne2 : p2 ≠ l := fun e => by
            subst e
            have c1 := e1 _ _ F.2.2
            rw [hp2] at c1
            cases c1
          rw [es]
          have ev : u.map V.int ++ [V.int (lastI u - ((2 ^ a : Nat) : Int) + ((2 ^ b : Nat) : Int))] = (u ++ [lastI u - ((2 ^ a : Nat) : Int) + ((2 ^ b : Nat) : Int)]).map V.int := by simp
          rw [ev]
          exact ⟨_, _, by rw [lastI_app]; rfl, rfl, F4.set _, by rw [upd_ne ne1]; exact a1, by rw [upd_ne ne2]; exact a2, by rw [List.length_append]; simp; omega⟩
        · have hab : a = b := by simpa using z
          walk_at "rd"
          have es : List.foldl step3 u [(a, b)] = u := by
            show step3 u (a, b) = _
            unfold step3
            rw [if_neg (by simp [hab])]
          rw [es]
          exact ⟨u, _, rfl, rfl, F4, a1, a2, by omega⟩
      · rintro σ' H4 ⟨u, v1, rfl, hu, F4, a1, a2, hul⟩
        have el2 : (lets n).length = ((lets (lastN w)).zip (lets n)).length := by
          rw [List.length_zip, f1, Nat.min_self]
        rw [el2, List.take_length] at hu
        walk_at "rd"
        refine ⟨l, _, rfl, .inl ⟨sq_of F4.2.2, fun p hp => ?_⟩⟩
        have ew : u = intsL (wayN n m) := by
          rw [← f2]
          unfold wayI
          rw [← hw]
          exact hu
        refine q p _ (fresh_back F4.2.1 hp) (F4.2.1.trans (Ex.new hp)) ?_
        rw [← ew, upd_same]

end
end Lw

set_option Elab.async false
set_option linter.all false
set_option maxRecDepth 100000
set_option maxHeartbeats 4000000
namespace Lw
open PySem PySem.Spec PyProof.Rows L2 He Evl StX
local macro_rules | `(tactic| walk_at "rd") => `(tactic| (repeat first
  | with_reducible refine rd_seq ?_
  | with_reducible refine rd_asg ?_
  | with_reducible refine rd_ret ?_
  | with_reducible refine rd_next ?_
  | with_reducible refine rd_drop ?_
  | with_reducible refine rd_if ?_
  | with_reducible refine rd_ifE ?_
  | ((with_reducible refine' rd_var ?hv ?_); (case hv => rfl))
  | with_reducible refine rd_c ?_
  | with_reducible refine rd_op ?_
  | with_reducible refine rd_chain ?_
  | with_reducible refine rd_I0 ?_
  | with_reducible refine rd_test ?_
  | with_reducible refine rd_B ?_
  | with_reducible refine rd_bl ?_
  | with_reducible refine rd_not ?_
  | with_reducible refine rd_and ?_
  | with_reducible refine rd_or ?_
  | with_reducible refine rd_andV ?_
  | with_reducible refine rd_orV ?_
  | with_reducible refine rd_notV ?_
  | with_reducible refine rd_cons ?_
  | with_reducible refine rd_nil ?_
  | with_reducible refine rd_CB ?_
  | with_reducible refine rd_callS ?_
  | with_reducible refine rd_raise0 ?_
  | with_reducible refine rd_raise1 ?_
  | with_reducible refine rd_raise2 ?_
  | ((with_reducible refine' rd_eq ?hs ?_); (case hs => rfl))
  | ((with_reducible refine' rd_ne ?hs ?_); (case hs => rfl))
  | ((with_reducible refine' rd_isT ?th ?hT ?_); (case th => assumption); (case hT => decide))
  | with_reducible refine rd_tup ?_
  | with_reducible refine rd_lst ?_
  | with_reducible refine rd_iEnum ?_
  | ((with_reducible refine' rd_ixl ?hl ?hk ?_); (case hl => assumption); (case hk => rfl))
  | with_reducible refine rd_int1 ?_
  | with_reducible refine rd_sub ?_
  | with_reducible refine rd_gcons ?_
  | with_reducible refine rd_gnil ?_
  | with_reducible refine rd_iZip ?_
  | with_reducible refine rd_BM ?_
  | with_reducible refine rd_neg ?_
  | ((with_reducible refine' rd_last ?hl ?_); (case hl => assumption))
  | with_reducible refine rd_lc2 ?_
  | with_reducible refine rd_Rg1 ?_
  | with_reducible refine rd_for ?_
  | with_reducible refine rd_iRev ?_
  | with_reducible refine rd_gname ?_
  | with_reducible refine rd_NN ?_
  | with_reducible refine rd_NL ?_
  | with_reducible refine rd_LN ?_
  | ((with_reducible refine' rd_shl1 ?hs ?_); (case hs => omega))
  | ((with_reducible refine' rd_I ?hs ?_); (case hs => first | omega | decide | exact ⟨by decide, by decide, by decide⟩ | exact ⟨by omega, by omega⟩))
  | with_reducible refine rd_tr ?_
  | with_reducible refine rd_trI ?_
  | with_reducible refine rd_star ?_
  | with_reducible refine rd_fmtB ?_
  | with_reducible refine rd_M1 ?_
  | with_reducible refine rd_un ?_
  | with_reducible refine rd_lc ?_
  | with_reducible refine rd_iT ?_
  | with_reducible refine rd_iL ?_
  | with_reducible refine rd_iR1 ?_
  | with_reducible refine rd_iR2 ?_
  | dsimp only [List.set, start]))
section
variable {P : Program} {w : World} {K : PySem.W.Frag} {mg : Str → Option Value} {base : Heap}

-- refused
/-- an odd thing: what stands for no heap of five letters, also later on -/
def Odd (K : PySem.W.Frag) (H : Hp) (x : V) : Prop := ∀ H', Ex H H' → Thg K H' x
theorem Odd.ex {K : PySem.W.Frag} {H H' : Hp} {x : V} (h : Odd K H x) (e : Ex H H') : Odd K H' x := fun H2 e2 => h H2 (e.trans e2)
theorem rd_xf {σ : L2.St} {H : Hp} {Q : VK} {a C : Addr} {cls : Value} {d : Option Addr} {f : Str} {te : TE} (h : te σ H fun x H1 => x = .ref a ∧ cls = .ref C ∧ ∃ (dd : Addr) (fs : List (Str × V)) (v : V), d = some dd ∧ H1 dd = some (.xd fs) ∧ fs.lookup f = some v ∧ Q v H1) : tXf a cls d C f te σ H Q := h
def spRefused (K : PySem.W.Frag) : Sp := fun vs H Q _ => ∃ (k : Nat) (x y : V), vs = [.int (k : Int), x, y] ∧ k < 5 ∧ Thg K H x ∧ Thg K H y ∧ (wholeV 0 31 x = false ∨ (wholeV 0 31 y = false ∧ k < 3)) ∧ ∀ H', Ex H H' → Q (.bl true) H'
theorem h__law_refused (E : Ctx K mg) : Has P w K mg base 10 "_law_refused" ["_law_way_here", "_law_one", "_law_other"] (spRefused K) := by
  obtain ⟨fd, F⟩ := f__law_refused E
  refine ⟨⟨fd, ?_, F.bindsN fun _ _ _ _ _ _ us hl => match us, hl with | [_, _, _], _ => rfl⟩, g__law_refused E, F.kp⟩
  refine F.ok sc__law_refused (fun vs H Q E' h => ?len) (fun cdv A outer s H vs Q E' hr h => ⟨_, (pss_cons (kts_try_as (K := K) rfl (i := 4) rfl rfl sc__law_refused.nd rfl rfl ⟨rfl, by decide, .inl (g_BadHeap E)⟩ (takes_of rfl rfl rfl rfl) (fun W pn xe tk _ => (pss_one (ps_if (pt_cmpR op_eq (pv 0) pe_int (nomark _))
 (pss_one (ps_set (i := 3) sc__law_refused.nd rfl (.inl rfl) (pe_H (h_is_below E) (hr.mono (by decide)) tk (pa_cons (pv 1) (pa_cons (pv 2) pa_nil)))))
 (pss_one (ps_if (pt_cmpR op_eq (pv 0) pe_int (nomark _))
 (pss_one (ps_set (i := 3) sc__law_refused.nd rfl (.inl rfl) (pe_H (h_way_down E) (hr.mono (by decide)) tk (pa_cons (pv 1) (pa_cons (pv 2) pa_nil)))))
 (pss_one (ps_if (pt_cmpR op_eq (pv 0) pe_int (nomark _))
 (pss_one (ps_set (i := 3) sc__law_refused.nd rfl (.inl rfl) (pe_H (h_bar_letter E) (hr.mono (by decide)) tk (pa_cons (pv 1) (pa_cons (pv 2) pa_nil)))))
 (pss_one (ps_if (pt_cmpR op_eq (pv 0) pe_int (nomark _))
 (pss_one (ps_set (i := 3) sc__law_refused.nd rfl (.inl rfl) (pe_H (h_descents_of E) (hr.mono (by decide)) tk (pa_cons (pv 1) pa_nil))))
 (pss_one (ps_set (i := 3) sc__law_refused.nd rfl (.inl rfl) (pe_H (h_all_below E) (hr.mono (by decide)) tk (pa_cons (pv 1) pa_nil))))))))))))) (fun a oe cls d pn hz hf => (pss_one (ps_ret (pe_HH (hH__law_exact E) hz hf hr (by decide) (pa_cons (pe_xf (x_BadHeap E).f ((x_BadHeap E).n _ (by decide)) hz.zc hf (pv 4)) (pa_cons pe_int pa_nil)))))))
 (pss_one (ps_ret pe_bl))), ?rd⟩)
  case len =>
    obtain ⟨k, x, y, rfl, _⟩ := h
    rfl
  case rd =>
    obtain ⟨k, x, y, rfl, hk, tx, ty, hbad, q⟩ := h
    have su : ∀ (nx bk ct : L2.St → Hp → Prop) (d : Addr), H d = none → ∀ a, upd H d (.xd [("index", .int 0)]) a = none →
        tRet (tCallS spExa0 (WE fun _ _ _ _ => False) (tCons (tXf a (.ref (ga K "BadHeap")) (some d) (ga K "BadHeap") "index" (tVar 4)) (tCons (tC (V.int 0)) tNil))) { nx := nx, rt := Q, bk := bk, ct := ct }
          ((L2.start N__law_refused [.int (k : Int), x, y]).set 4 (some (.ref a))) (upd H d (.xd [("index", .int 0)])) := fun nx bk ct d hd a ha => by
      walk_at "rd"
      refine rd_xf ?_
      walk_at "rd"
      refine ⟨rfl, rfl, d, _, _, rfl, upd_same, rfl, ?_⟩
      walk_at "rd"
      exact ⟨_, rfl, .inr ⟨0, rfl⟩, q _ (Ex.new hd)⟩
    have contra : ∀ {n m : Nat}, x = .int n → y = .int m → n < 32 → m < 32 → False := fun {n m} ex ey hn hm => by
      subst ex ey
      have w1 : wholeV 0 31 (.int (n : Int)) = true := whole_of (by omega) (by omega)
      have w2 : wholeV 0 31 (.int (m : Int)) = true := whole_of (by omega) (by omega)
      rw [w1, w2] at hbad
      rcases hbad with z | ⟨z, _⟩ <;> exact nomatch z
    have contra1 : 3 ≤ k → ∀ {n : Nat}, x = .int n → n < 32 → False := fun h3 {n} ex hn => by
      subst ex
      have w1 : wholeV 0 31 (.int (n : Int)) = true := whole_of (by omega) (by omega)
      rw [w1] at hbad
      rcases hbad with z | ⟨_, z⟩
      · exact nomatch z
      · omega
    walk_at "rd"
    refine rd_tryAs ?_
    walk_at "rd"
    have no : ∀ {i : Int}, (k : Int) ≠ i → decide (V.int (k : Int) = V.int i) = true → False := fun {i} h z => h (V.int.inj (of_decide_eq_true z))
    have yes : ∀ {i : Int}, (k : Int) = i → decide (V.int (k : Int) = V.int i) = false → False := fun {i} h z => absurd (congrArg V.int h) (of_decide_eq_false z)
    refine ⟨fun z => ?_, fun z0 => ?_⟩
    · walk_at "rd"
      exact ⟨x, y, rfl, tx, ty, fun _ d hd => ⟨true, m_BadHeap_BadHeap E, fun _ a ha => su _ _ _ d hd a ha, (fun z => nomatch z)⟩, fun _ _ d hd => ⟨true, m_BadHeap_BadHeap E, fun _ a ha => su _ _ _ d hd a ha, (fun z => nomatch z)⟩, fun n m ex ey hn hm => (contra ex ey hn hm).elim⟩
    walk_at "rd"
    refine ⟨fun z => ?_, fun z1 => ?_⟩
    · walk_at "rd"
      exact ⟨x, y, rfl, tx, ty, fun _ d hd => ⟨true, m_BadHeap_BadHeap E, fun _ a ha => su _ _ _ d hd a ha, (fun z => nomatch z)⟩, fun _ _ d hd => ⟨true, m_BadHeap_BadHeap E, fun _ a ha => su _ _ _ d hd a ha, (fun z => nomatch z)⟩, fun n m ex ey hn hm => (contra ex ey hn hm).elim⟩
    walk_at "rd"
    refine ⟨fun z => ?_, fun z2 => ?_⟩
    · walk_at "rd"
      exact ⟨x, y, rfl, tx, ty, fun _ d hd => ⟨true, m_BadHeap_BadHeap E, fun _ a ha => su _ _ _ d hd a ha, (fun z => nomatch z)⟩, fun _ _ d hd => ⟨true, m_BadHeap_BadHeap E, fun _ a ha => su _ _ _ d hd a ha, (fun z => nomatch z)⟩, fun n m ex ey hn hm => (contra ex ey hn hm).elim⟩
    have k3 : 3 ≤ k := by
      rcases (show k = 0 ∨ k = 1 ∨ k = 2 ∨ 3 ≤ k by omega) with e | e | e | e
      · exact (yes (by omega) z0).elim
      · exact (yes (by omega) z1).elim
      · exact (yes (by omega) z2).elim
      · exact e
    walk_at "rd"
    refine ⟨fun z => ?_, fun z3 => ?_⟩
    · walk_at "rd"
      exact ⟨x, rfl, tx, fun _ d hd => ⟨true, m_BadHeap_BadHeap E, fun _ a ha => su _ _ _ d hd a ha, (fun z => nomatch z)⟩, fun n ex hn => (contra1 k3 ex hn).elim⟩
    · walk_at "rd"
      exact ⟨x, rfl, tx, fun _ d hd => ⟨true, m_BadHeap_BadHeap E, fun _ a ha => su _ _ _ d hd a ha, (fun z => nomatch z)⟩, fun n ex hn => (contra1 k3 ex hn).elim⟩

end
end Lw

set_option Elab.async false
set_option linter.all false
set_option maxRecDepth 100000
set_option maxHeartbeats 4000000
namespace Lw
open PySem PySem.Spec PyProof.Rows L2 He Evl StX
local macro_rules | `(tactic| walk_at "rd") => `(tactic| (repeat first
  | with_reducible refine rd_seq ?_
  | with_reducible refine rd_asg ?_
  | with_reducible refine rd_ret ?_
  | with_reducible refine rd_next ?_
  | with_reducible refine rd_drop ?_
  | with_reducible refine rd_if ?_
  | with_reducible refine rd_ifE ?_
  | ((with_reducible refine' rd_var ?hv ?_); (case hv => rfl))
  | with_reducible refine rd_c ?_
  | with_reducible refine rd_op ?_
  | with_reducible refine rd_chain ?_
  | with_reducible refine rd_I0 ?_
  | with_reducible refine rd_test ?_
  | with_reducible refine rd_B ?_
  | with_reducible refine rd_bl ?_
  | with_reducible refine rd_not ?_
  | with_reducible refine rd_and ?_
  | with_reducible refine rd_or ?_
  | with_reducible refine rd_andV ?_
  | with_reducible refine rd_orV ?_
  | with_reducible refine rd_notV ?_
  | with_reducible refine rd_cons ?_
  | with_reducible refine rd_nil ?_
  | with_reducible refine rd_CB ?_
  | with_reducible refine rd_callS ?_
  | with_reducible refine rd_raise0 ?_
  | with_reducible refine rd_raise1 ?_
  | with_reducible refine rd_raise2 ?_
  | ((with_reducible refine' rd_eq ?hs ?_); (case hs => rfl))
  | ((with_reducible refine' rd_ne ?hs ?_); (case hs => rfl))
  | ((with_reducible refine' rd_isT ?th ?hT ?_); (case th => assumption); (case hT => decide))
  | with_reducible refine rd_tup ?_
  | with_reducible refine rd_lst ?_
  | with_reducible refine rd_iEnum ?_
  | ((with_reducible refine' rd_ixl ?hl ?hk ?_); (case hl => assumption); (case hk => rfl))
  | with_reducible refine rd_int1 ?_
  | with_reducible refine rd_sub ?_
  | with_reducible refine rd_gcons ?_
  | with_reducible refine rd_gnil ?_
  | with_reducible refine rd_iZip ?_
  | with_reducible refine rd_BM ?_
  | with_reducible refine rd_neg ?_
  | ((with_reducible refine' rd_last ?hl ?_); (case hl => assumption))
  | with_reducible refine rd_lc2 ?_
  | with_reducible refine rd_Rg1 ?_
  | with_reducible refine rd_for ?_
  | with_reducible refine rd_iRev ?_
  | with_reducible refine rd_gname ?_
  | with_reducible refine rd_NN ?_
  | with_reducible refine rd_NL ?_
  | with_reducible refine rd_LN ?_
  | ((with_reducible refine' rd_shl1 ?hs ?_); (case hs => omega))
  | ((with_reducible refine' rd_I ?hs ?_); (case hs => first | omega | decide | exact ⟨by decide, by decide, by decide⟩ | exact ⟨by omega, by omega⟩))
  | with_reducible refine rd_tr ?_
  | with_reducible refine rd_trI ?_
  | with_reducible refine rd_star ?_
  | with_reducible refine rd_fmtB ?_
  | with_reducible refine rd_M1 ?_
  | with_reducible refine rd_un ?_
  | with_reducible refine rd_lc ?_
  | with_reducible refine rd_iT ?_
  | with_reducible refine rd_iL ?_
  | with_reducible refine rd_iR1 ?_
  | with_reducible refine rd_iR2 ?_
  | dsimp only [List.set, start]))
section
variable {P : Program} {w : World} {K : PySem.W.Frag} {mg : Str → Option Value} {base : Heap}

theorem in_ints (l : List Int) (a : Int) : inV (.int a) (l.map V.int) = l.any (fun y => y == a) := by
  unfold inV
  rw [List.any_map]
  rfl
theorem flat_ints (l : List Int) : (l.map V.int).all flatV = true := by
  rw [List.all_map]
  exact List.all_eq_true.mpr fun _ _ => rfl
theorem isort_any (l : List Int) (p : Int → Bool) : (isort l).any p = l.any p := (isort_perm l).any_eq
def inDesc (n : Nat) (x : Int) : Bool := ((lets n).map fun l => ((n ^^^ 2 ^ l : Nat) : Int)).any (fun y => y == x) || (lowW n 5).any (fun y => y == x)
theorem desc_any (n : Nat) (x : Int) : (descW n).any (fun y => y == x) = inDesc n x := by
  unfold descW leftN inDesc
  rw [isort_any, List.any_append, isort_any, isort_any]
def fineO (o : Nat) : Bool := decide (descW o = descN o) && decide ((List.range 32).filter (fun h => belB h o) = belowL o)
def fineHO (o h : Nat) : Bool := decide ((intsL (belowL o)).any (fun y => y == (h : Int)) = (barN h o).isNone) && (!(barN h o).isNone || (decide ((wayN h o).length ≤ 100) && ((wayN h o).all (fun x => decide (x < 32)) &&
  (List.range ((wayN h o).length - 1)).all fun k => inDesc ((wayN h o).getD k 0) ((wayN h o).getD (k + 1) 0 : Nat))))
def fineAll : Bool := (List.range 32).all fun o => fineO o && (List.range 32).all fun h => fineHO o h
theorem fine_true : fineAll = true := by decide +kernel
theorem fine_o {o : Nat} (ho : o < 32) : descW o = descN o ∧ (List.range 32).filter (fun h => belB h o) = belowL o := by
  have z := (Bool.and_eq_true_iff.mp (List.all_eq_true.mp fine_true o (List.mem_range.mpr ho))).1
  obtain ⟨a, b⟩ := Bool.and_eq_true_iff.mp z
  exact ⟨of_decide_eq_true a, of_decide_eq_true b⟩
theorem fine_ho {o h : Nat} (ho : o < 32) (hh : h < 32) : (intsL (belowL o)).any (fun y => y == (h : Int)) = (barN h o).isNone ∧ ((barN h o).isNone = true → (wayN h o).length ≤ 100 ∧ (∀ x ∈ wayN h o, x < 32) ∧ ∀ k, k < (wayN h o).length - 1 → inDesc ((wayN h o).getD k 0) ((wayN h o).getD (k + 1) 0 : Nat) = true) := by
  have z := List.all_eq_true.mp (Bool.and_eq_true_iff.mp (List.all_eq_true.mp fine_true o (List.mem_range.mpr ho))).2 h (List.mem_range.mpr hh)
  obtain ⟨a, b⟩ := Bool.and_eq_true_iff.mp z
  refine ⟨of_decide_eq_true a, fun e => ?_⟩
  rw [e] at b
  simp only [Bool.not_true, Bool.false_or] at b
  obtain ⟨b1, b2⟩ := Bool.and_eq_true_iff.mp b
  obtain ⟨b2, b3⟩ := Bool.and_eq_true_iff.mp b2
  exact ⟨of_decide_eq_true b1, fun x hx => of_decide_eq_true (List.all_eq_true.mp b2 x hx), fun k hk => List.all_eq_true.mp b3 k (List.mem_range.mpr hk)⟩
theorem given_ints (n : Nat) (f : Nat → Bool) : given n f (fun i => V.int (i : Int)) = (intsL ((List.range n).filter f)).map V.int := by
  unfold given intsL
  rw [List.map_map]
  rfl
theorem optV_or : ∀ x : Option Nat, optV x = .non ∨ ∃ i, optV x = .int i
  | none => .inl rfl
  | some n => .inr ⟨_, rfl⟩
theorem way_at {l : List Nat} {k : Nat} (h : k < l.length) : ((intsL l).map V.int)[k]? = some (.int ((l.getD k 0 : Nat) : Int)) := by
  unfold intsL
  rw [List.map_map, List.getElem?_map, List.getElem?_eq_getElem h, List.getD_eq_getElem?_getD, List.getElem?_eq_getElem h]
  rfl
theorem getD_mem {l : List Nat} {k : Nat} (h : k < l.length) : l.getD k 0 ∈ l := by
  rw [List.getD_eq_getElem?_getD, List.getElem?_eq_getElem h]
  exact List.getElem_mem h
def spLaw (K : PySem.W.Frag) : Sp := fun vs H Q _ => ∃ (a : Addr) (ns : List Int), vs = [.ref a] ∧ SqL K H a (ns.map V.int) ∧ ns.length ≤ 63 ∧ (∀ z ∈ ns, bits z ≤ 1048576) ∧ ∀ H', Q (.bl true) H'
theorem h_law (E : Ctx K mg) {fd : FuncData} (F : FunD K "law" "law" (defArgs s_law) (defBody s_law) (defScope s_law) [] [] (ga K "law") fd) : FnOk P w K mg base (L2N.CX P w) 11 (ga K "law") fd ["_law_script"] (spLaw K) := by
  refine F.ok sc_law (fun vs H Q E' h => ?len) (fun cdv A outer s H vs Q E' hr h => ⟨_, (pss_cons (ps_set (i := 1) sc_law.nd rfl (.inl rfl) (pe_H (h__law_hand E) (hr.mono (by decide)) (takes_of rfl rfl rfl rfl) (pa_cons (pv 0) pa_nil)))
 (pss_cons (ps_set (i := 2) sc_law.nd rfl (.inr rfl) (pe_H (h__law_draw E) (hr.mono (by decide)) (takes_of rfl rfl rfl rfl) (pa_cons (pv 1) (pa_cons pe_int pa_nil))))
 (pss_cons (ps_setLc (i := 3) (own := [("_law_heap", 4)]) (g := gName 4) rfl sc_law.nd rfl rfl (sw_true rfl rfl rfl (by decide +kernel)) (pi_range1 rfl (b_range E) (pa_cons pe_int pa_nil)) (blkOk_by (own := [("_law_heap", 4)]) (N := N_law) (sc := defScope s_law) (by decide +kernel)) (fun _ _ _ _ _ => (pg_name (i := 4) sc_law.nd rfl (.inl rfl))) (fun _ _ _ _ _ => (pts_one (pt_val (pe_H (h__law_is_below E) (hr.mono (by decide)) takes0 (pa_cons (pv 4) (pa_cons (pv 2) pa_nil)))))) (fun _ _ _ _ _ => (pv 4)))
 (pss_cons (ps_if (pt_not (pt_val (pe_H (h__law_exact E) (hr.mono (by decide)) (takes_of rfl rfl rfl rfl) (pa_cons (pe_H (h_descents_of E) (hr.mono (by decide)) (takes_of rfl rfl rfl rfl) (pa_cons (pv 2) pa_nil)) (pa_cons (pe_callTy (kc_tup (K := K) rfl) rfl (b_tuple E) (by decide +kernel) (pa_cons (pe_H (h__law_descents E) (hr.mono (by decide)) (takes_of rfl rfl rfl rfl) (pa_cons (pv 2) pa_nil)) pa_nil)) pa_nil)))))
 (pss_one (ps_ret pe_bl))
 pss_nil)
 (pss_cons (ps_if (pt_not (pt_val (pe_H (h__law_exact E) (hr.mono (by decide)) (takes_of rfl rfl rfl rfl) (pa_cons (pe_H (h_all_below E) (hr.mono (by decide)) (takes_of rfl rfl rfl rfl) (pa_cons (pv 2) pa_nil)) (pa_cons (pe_callTy (kc_tup (K := K) rfl) rfl (b_tuple E) (by decide +kernel) (pa_cons (pv 3) pa_nil)) pa_nil)))))
 (pss_one (ps_ret pe_bl))
 pss_nil)
 (pss_cons (ps_for (passes_of rfl) rfl (pi_range1 rfl (b_range E) (pa_cons pe_int pa_nil)) (pg_name (i := 4) sc_law.nd rfl (.inl rfl))
 (pss_cons (ps_if (pt_not (pt_val (pe_H (h__law_truth E) (hr.mono (by decide)) (takes_of rfl rfl rfl rfl) (pa_cons (pe_H (h_is_below E) (hr.mono (by decide)) (takes_of rfl rfl rfl rfl) (pa_cons (pv 4) (pa_cons (pv 2) pa_nil))) (pa_cons (pe_cmpR (ko_in (K := K) rfl) (pv 4) (pv 3) (by with_unfolding_all rfl)) pa_nil)))))
 (pss_one (ps_ret pe_bl))
 pss_nil)
 (pss_cons (ps_set (i := 5) sc_law.nd rfl (.inl rfl) (pe_H (h_way_down E) (hr.mono (by decide)) (takes_of rfl rfl rfl rfl) (pa_cons (pv 4) (pa_cons (pv 2) pa_nil))))
 (pss_cons (ps_if (pt_not (pt_val (pe_H (h__law_exact E) (hr.mono (by decide)) (takes_of rfl rfl rfl rfl) (pa_cons (pe_H (h_bar_letter E) (hr.mono (by decide)) (takes_of rfl rfl rfl rfl) (pa_cons (pv 4) (pa_cons (pv 2) pa_nil))) (pa_cons (pe_H (h__law_bar E) (hr.mono (by decide)) (takes_of rfl rfl rfl rfl) (pa_cons (pv 4) (pa_cons (pv 2) pa_nil))) pa_nil)))))
 (pss_one (ps_ret pe_bl))
 pss_nil)
 (pss_cons (ps_if (pt_not (pt_val (pe_H (h__law_exact E) (hr.mono (by decide)) (takes_of rfl rfl rfl rfl) (pa_cons (pv 5) (pa_cons (pe_ifExp (pt_cmpR (ko_in (K := K) rfl) (pv 4) (pv 3) (by with_unfolding_all rfl)) (pe_H (h__law_way E) (hr.mono (by decide)) (takes_of rfl rfl rfl rfl) (pa_cons (pv 4) (pa_cons (pv 2) pa_nil))) pe_non) pa_nil)))))
 (pss_one (ps_ret pe_bl))
 pss_nil)
 (pss_one (ps_if (pt_cmpR (ko_in (K := K) rfl) (pv 4) (pv 3) (by with_unfolding_all rfl))
 (pss_one (ps_for (passes_of rfl) rfl (pi_range2 rfl (b_range E) (pa_cons pe_int (pa_cons (pe_callB (kc_len (K := K) rfl) rfl (b_len E) (by decide +kernel) (pa_cons (pv 5) pa_nil)) pa_nil))) (pg_name (i := 6) sc_law.nd rfl (.inl rfl))
 (pss_one (ps_if (pt_cmpR (ko_notIn (K := K) rfl) (pe_ix (kx_tup (K := K) rfl) (pv 5) (pv 6) (fun _ _ => rfl)) (pe_H (h__law_descents E) (hr.mono (by decide)) (takes_of rfl rfl rfl rfl) (pa_cons (pe_ix (kx_tup (K := K) rfl) (pv 5) (pe_op op_sub (pv 6) pe_int) (fun _ _ => rfl)) pa_nil)) (by with_unfolding_all rfl))
 (pss_one (ps_ret pe_bl))
 pss_nil))))
 pss_nil)))))))
 (pss_cons (ps_set (i := 7) sc_law.nd rfl (.inl rfl) (pe_H (h__law_draw E) (hr.mono (by decide)) (takes_of rfl rfl rfl rfl) (pa_cons (pv 1) (pa_cons pe_int pa_nil))))
 (pss_cons (ps_set (i := 8) sc_law.nd rfl (.inl rfl) (pe_ix (kx_tup (K := K) rfl) (pe_tup (pa_cons (pe_un un_neg pe_int) (pa_cons pe_int (pa_cons (pe_op op_add pe_int (pe_H (h__law_wide E) (hr.mono (by decide)) (takes_of rfl rfl rfl rfl) (pa_cons (pv 1) (pa_cons pe_int pa_nil)))) (pa_cons pe_bl (pa_cons pe_non (pa_cons pe_str (pa_cons (pe_lst (pa_cons pe_int pa_nil)) (pa_cons (pe_op op_sub (pe_un un_neg pe_int) (pe_H (h__law_wide E) (hr.mono (by decide)) (takes_of rfl rfl rfl rfl) (pa_cons (pv 1) (pa_cons pe_int pa_nil)))) pa_nil))))))))) (pe_H (h__law_draw E) (hr.mono (by decide)) (takes_of rfl rfl rfl rfl) (pa_cons (pv 1) (pa_cons pe_int pa_nil))) (fun _ _ => rfl)))
 (pss_cons (ps_for (passes_of rfl) rfl (pi_range1 rfl (b_range E) (pa_cons pe_int pa_nil)) (pg_name (i := 5) sc_law.nd rfl (.inl rfl))
 (pss_cons (ps_if (PW.pt (pw_or (pt_not (pt_val (pe_H (h__law_refused E) (hr.mono (by decide)) (takes_of rfl rfl rfl rfl) (pa_cons (pv 5) (pa_cons (pv 8) (pa_cons (pv 7) pa_nil)))))) (pw_or1 (pt_not (pt_val (pe_H (h__law_refused E) (hr.mono (by decide)) (takes_of rfl rfl rfl rfl) (pa_cons (pv 5) (pa_cons (pv 8) (pa_cons (pv 8) pa_nil)))))))))
 (pss_one (ps_ret pe_bl))
 pss_nil)
 (pss_one (ps_if (PW.pt (pw_and (pt_cmpR op_lt (pv 5) pe_int (nomark _)) (pw_and1 (pt_not (pt_val (pe_H (h__law_refused E) (hr.mono (by decide)) (takes_of rfl rfl rfl rfl) (pa_cons (pv 5) (pa_cons (pv 7) (pa_cons (pv 8) pa_nil)))))))))
 (pss_one (ps_ret pe_bl))
 pss_nil))))
 (pss_one (ps_ret pe_bl))))))))))), ?rd⟩)
  case len =>
    obtain ⟨a, ns, rfl, _⟩ := h
    rfl
  case rd =>
    obtain ⟨a, ns, rfl, hs, hlen, hbits, q⟩ := h
    walk_at "rd"
    refine ⟨a, ns, rfl, hs, hlen, hbits, fun hh H1 hf e1 hand1 => ?_⟩
    walk_at "rd"
    refine ⟨hh, 32, rfl, hand1, ⟨by decide, by decide⟩, fun o H2 ho d2 hand2 => ?_⟩
    have ho : o < 32 := by omega
    obtain ⟨fo1, fo2⟩ := fine_o ho
    walk_at "rd"
    refine ⟨32, rfl, by decide, by decide, lc_rng0 (n := 32) (fun h => belB h o) (fun i => .int (i : Int)) (by decide) (fun _ => rfl) (fun i H3 e3 hi H4 e4 R q => ?_) (fun i H3 e3 hi hf H4 e4 R q => ?_) fun b H3 hb e3 hl => ?_⟩
    · walk_at "rd"
      exact ⟨i, o, rfl, hi, ho, ⟨_, rfl, q _ (Ex.refl _)⟩⟩
    · walk_at "rd"
      exact q _ (Ex.refl _)
    · rw [given_ints, fo2] at hl
      walk_at "rd"
      have i1 : ∀ {n : Nat} {Ex1 : Prop}, n < 32 → wholeV 0 31 (.int (n : Int)) = false → Ex1 := fun {n Ex1} hn z => absurd z (by rw [whole_of (by omega) (by omega)]; decide)
      have nat_of : ∀ {n m : Nat}, V.int (n : Int) = V.int (m : Int) → n = m := fun {n m} z => by injection z with z; omega
      refine ⟨.int (o : Int), rfl, ⟨_, th_int _⟩, fun z => i1 ho z, fun n en hn p1 H4 hp1 e4 h4 => ?_⟩
      obtain rfl := nat_of en
      walk_at "rd"
      refine ⟨o, rfl, ho, fun p2 H5 hp2 e5 h5 => ?_⟩
      walk_at "rd"
      refine ⟨p2, _, rfl, .inl ⟨sq_of h5, fun p3 hp3 => ?_⟩⟩
      walk_at "rd"
      rw [fo1]
      refine .inr ⟨p1, p3, descN o, rfl, ((Ex.new hp3) _ _ (e5 _ _ h4)), upd_same, ?_, fun H6 e6 => ⟨true, rfl, (fun z => nomatch z), fun _ => ?_⟩⟩
      · have le := congrArg List.length fo1
        unfold descW at le
        rw [(isort_perm _).length_eq, List.length_append, (isort_perm _).length_eq] at le
        have l2 := lowW_len o 5
        have l1 : (leftN o).length ≤ 5 := by
          unfold leftN
          rw [(isort_perm _).length_eq, List.length_map]
          exact lets_len o
        omega
      have eA : Ex H3 H6 := ((e4.trans e5).trans (Ex.new hp3)).trans e6
      walk_at "rd"
      refine ⟨.int (o : Int), rfl, ⟨_, th_int _⟩, fun z => i1 ho z, fun n en hn p4 H7 hp4 e7 h7 => ?_⟩
      obtain rfl := nat_of en
      walk_at "rd"
      have hl7 := e7 _ _ (eA _ _ hl)
      refine ⟨b, _, rfl, .inl ⟨sq_of hl7, fun p5 hp5 => ?_⟩⟩
      walk_at "rd"
      refine .inr ⟨p4, p5, intsL (belowL o), rfl, (Ex.new hp5) _ _ h7, upd_same, ?_, fun H8 e8 => ⟨true, rfl, (fun z => nomatch z), fun _ => ?_⟩⟩
      · unfold intsL belowL
        rw [List.length_map]
        exact Nat.le_trans (List.length_filter_le _ _) (by simp; omega)
      have eB : Ex H3 H8 := ((eA.trans e7).trans (Ex.new hp5)).trans e8
      walk_at "rd"
      refine ⟨32, rfl, by decide, by decide, for_range (lo := 0) (n := 32) (fun i σ H' => ∃ (v4 v5 v6 : Option V), σ = [some (.ref a), some (.ref hh), some (.int (o : Int)), some (.ref b), v4, v5, v6, none, none] ∧ Ex H8 H') ⟨none, none, none, rfl, Ex.refl _⟩ ?_ ?_⟩
      · rintro i σ H9 hi ⟨v4, v5, v6, rfl, e9⟩
        rw [Int.zero_add]
        obtain ⟨g1, g2⟩ := fine_ho ho hi
        have lb : ∀ {H' : Hp}, Ex H9 H' → SqL K H' b ((intsL (belowL o)).map V.int) := fun {H'} e => sq_of (e _ _ (e9 _ _ (eB _ _ hl)))
        have two : ∀ {E : XK} {H' : Hp} {A : Nat → Nat → Prop}, A i o → Two K (.int (i : Int)) (.int (o : Int)) E H' A := fun {E H' A} ha => ⟨⟨_, th_int _⟩, ⟨_, th_int _⟩, fun z => i1 hi z, fun _ z => i1 ho z, fun n m en em _ _ => by
          obtain rfl := nat_of en
          obtain rfl := nat_of em
          exact ha⟩
        walk_at "rd"
        refine ⟨_, _, rfl, two ?_⟩
        walk_at "rd"
        refine ⟨b, _, rfl, .inl (lb (Ex.refl _)), rfl, flat_ints _, ?_⟩
        rw [if_neg Bool.false_ne_true, in_ints, g1]
        walk_at "rd"
        refine ⟨_, _, rfl, ?_⟩
        rw [decide_eq_true rfl]
        refine ⟨true, rfl, (fun z => nomatch z), fun _ => ?_⟩
        walk_at "rd"
        refine ⟨_, _, rfl, two ⟨fun hbn H10 e10 => ?_, fun hbt p6 H10 hp6 e10 h10 => ?_⟩⟩
        · walk_at "rd"
          refine ⟨_, _, rfl, two ?_⟩
          walk_at "rd"
          refine ⟨i, o, rfl, hi, ho, ?_⟩
          walk_at "rd"
          refine .inl ⟨_, rfl, optV_or _, true, rfl, (fun z => nomatch z), fun _ => ?_⟩
          walk_at "rd"
          refine ⟨b, _, rfl, .inl (lb e10), rfl, flat_ints _, ?_⟩
          rw [if_neg Bool.false_ne_true, in_ints, g1, hbn]
          refine ⟨false, rfl, (fun z => nomatch z), fun _ => ?_⟩
          walk_at "rd"
          refine .inl ⟨.non, rfl, .inl rfl, true, rfl, (fun z => nomatch z), fun _ => ?_⟩
          walk_at "rd"
          refine ⟨b, _, rfl, .inl (lb e10), rfl, flat_ints _, ?_⟩
          rw [if_neg Bool.false_ne_true, in_ints, g1, hbn]
          refine ⟨false, rfl, (fun z => nomatch z), fun _ => ?_⟩
          walk_at "rd"
          exact ⟨_, _, _, rfl, e9.trans e10⟩
        · obtain ⟨w1, w2, w3⟩ := g2 hbt
          walk_at "rd"
          refine ⟨_, _, rfl, two ?_⟩
          walk_at "rd"
          refine ⟨i, o, rfl, hi, ho, ?_⟩
          walk_at "rd"
          refine .inl ⟨_, rfl, optV_or _, true, rfl, (fun z => nomatch z), fun _ => ?_⟩
          walk_at "rd"
          refine ⟨b, _, rfl, .inl (lb e10), rfl, flat_ints _, ?_⟩
          rw [if_neg Bool.false_ne_true, in_ints, g1, hbt]
          refine ⟨true, rfl, fun _ => ?_, (fun z => nomatch z)⟩
          walk_at "rd"
          refine ⟨i, o, rfl, hi, ho, hbt, fun p7 H11 hp7 e11 h11 => ?_⟩
          walk_at "rd"
          refine .inr ⟨p6, p7, _, rfl, e11 _ _ h10, h11, by unfold intsL; rw [List.length_map]; omega, fun H12 e12 => ⟨true, rfl, (fun z => nomatch z), fun _ => ?_⟩⟩
          have eC : Ex H9 H12 := (e10.trans e11).trans e12
          walk_at "rd"
          refine ⟨b, _, rfl, .inl (lb eC), rfl, flat_ints _, ?_⟩
          rw [if_neg Bool.false_ne_true, in_ints, g1, hbt]
          refine ⟨true, rfl, fun _ => ?_, (fun z => nomatch z)⟩
          have h12 : H12 p6 = some (.tup ((intsL (wayN i o)).map V.int)) := e12 _ _ (e11 _ _ h10)
          have len : ((intsL (wayN i o)).map V.int).length = (wayN i o).length := by simp [intsL]
          walk_at "rd"
          refine ⟨p6, _, rfl, .inr (st_of h12), ?_⟩
          rw [len]
          refine ⟨1, _, rfl, ⟨by decide, by decide, by omega, by omega⟩, ?_⟩
          have el : (((wayN i o).length : Nat) - (1 : Int)).toNat = (wayN i o).length - 1 := by omega
          rw [el]
          refine for_range (lo := 1) (n := (wayN i o).length - 1) (fun k σ H' => ∃ v6 : Option V, σ = [some (.ref a), some (.ref hh), some (.int (o : Int)), some (.ref b), some (.int (i : Int)), some (.ref p6), v6, none, none] ∧ Ex H12 H') ⟨v6, rfl, Ex.refl _⟩ ?_ ?_
          · rintro k σ H13 hk ⟨v7, rfl, e13⟩
            have ek : (1 : Int) + (k : Int) = ((k + 1 : Nat) : Int) := by omega
            have ek2 : ((k + 1 : Nat) : Int) - 1 = (k : Int) := by omega
            rw [ek]
            walk_at "rd"
            refine ⟨p6, _, _, _, rfl, rfl, st_of (e13 _ _ h12), atI_nat (way_at (show k + 1 < (wayN i o).length by omega)), ?_⟩
            walk_at "rd"
            rw [ek2]
            refine ⟨p6, _, _, _, rfl, rfl, st_of (e13 _ _ h12), atI_nat (way_at (show k < (wayN i o).length by omega)), ?_⟩
            walk_at "rd"
            refine ⟨_, rfl, w2 _ (getD_mem (show k < (wayN i o).length by omega)), fun p8 H14 hp8 e14 h14 => ?_⟩
            walk_at "rd"
            refine ⟨p8, _, rfl, .inl (sq_of h14), rfl, flat_ints _, ?_⟩
            rw [if_pos rfl, in_ints, desc_any, w3 k hk]
            refine ⟨false, rfl, (fun z => nomatch z), fun _ => ?_⟩
            walk_at "rd"
            exact ⟨_, rfl, e13.trans e14⟩
          · rintro σ H13 ⟨v7, rfl, e13⟩
            walk_at "rd"
            exact ⟨_, _, _, rfl, (e9.trans eC).trans e13⟩
      · rintro σ H9 ⟨v4, v5, v6, rfl, e9⟩
        have hand9 : Hand H9 hh := hand2.ex ((e3.trans eB).trans e9)
        walk_at "rd"
        refine ⟨hh, 32, rfl, hand9, ⟨by decide, by decide⟩, fun g H10 hg d10 hand10 => ?_⟩
        have hg : g < 32 := by omega
        walk_at "rd"
        refine ⟨hh, 64, rfl, hand10, by decide, fun r1 H11 d11 hand11 => ?_⟩
        walk_at "rd"
        refine ⟨by show 1 ≤ sizeLine; decide, fun l hll => ?_⟩
        walk_at "rd"
        refine ⟨hh, 40, rfl, hand11.ex (Ex.new hll), by decide, fun r2 H12 d12 hand12 => ?_⟩
        walk_at "rd"
        refine ⟨by show 8 ≤ sizeLine; decide, fun pt hpt => ?_⟩
        walk_at "rd"
        refine ⟨hh, 8, rfl, hand12.ex (Ex.new hpt), ⟨by decide, by decide⟩, fun r H13 hr d13 hand13 => ?_⟩
        have hr : r < 8 := by omega
        have ne1 : l ≠ hh := fun e => by
          subst e
          obtain ⟨u, hu⟩ := hand11.there
          rw [hll] at hu
          cases hu
        have ne2 : pt ≠ hh := fun e => by
          subst e
          obtain ⟨u, hu⟩ := hand12.there
          rw [hpt] at hu
          cases hu
        have hl13 : H13 l = some (.lst [.int 1]) := d13 _ _ ne1 ((Ex.new hpt) _ _ (d12 _ _ ne1 upd_same))
        have ht13 := d13 _ _ ne2 upd_same
        have odd : ∀ {r : Nat}, r < 8 → ∃ v, [V.int (-1), V.int 32, V.int (32 + (r1 : Int)), V.bl true, V.non, V.str "3", V.ref l, V.int (-1 - (r2 : Int))][r]? = some v ∧ wholeV 0 31 v = false ∧ Odd K H13 v := fun {r} hr => by
          rcases (show r = 0 ∨ r = 1 ∨ r = 2 ∨ r = 3 ∨ r = 4 ∨ r = 5 ∨ r = 6 ∨ r = 7 by omega) with rfl | rfl | rfl | rfl | rfl | rfl | rfl | rfl
          · exact ⟨_, rfl, rfl, fun _ _ => ⟨_, th_int _⟩⟩
          · exact ⟨_, rfl, rfl, fun _ _ => ⟨_, th_int _⟩⟩
          · refine ⟨_, rfl, ?_, fun _ _ => ⟨_, th_int _⟩⟩
            show (decide ((0 : Int) ≤ 32 + (r1 : Int)) && decide (32 + (r1 : Int) ≤ 31)) = false
            rw [decide_eq_false (by omega : ¬ (32 + (r1 : Int) ≤ 31)), Bool.and_false]
          · exact ⟨_, rfl, rfl, fun _ _ => ⟨_, th_bl _⟩⟩
          · exact ⟨_, rfl, rfl, fun _ _ => ⟨_, th_non⟩⟩
          · exact ⟨_, rfl, rfl, fun _ _ => ⟨_, th_str _⟩⟩
          · exact ⟨_, rfl, rfl, fun _ e => ⟨_, th_lst (e _ _ hl13)⟩⟩
          · refine ⟨_, rfl, ?_, fun _ _ => ⟨_, th_int _⟩⟩
            show (decide ((0 : Int) ≤ -1 - (r2 : Int)) && decide (-1 - (r2 : Int) ≤ 31)) = false
            rw [decide_eq_false (by omega : ¬ ((0 : Int) ≤ -1 - (r2 : Int))), Bool.false_and]
        obtain ⟨v, hv, wv, ov⟩ := odd hr
        refine ⟨pt, _, _, _, rfl, rfl, st_of ht13, atI_nat hv, ?_⟩
        walk_at "rd"
        refine ⟨5, rfl, by decide, by decide, for_range (lo := 0) (n := 5) (fun i σ H' => ∃ (v4 v5 v6 : Option V), σ = [some (.ref a), some (.ref hh), some (.int (o : Int)), some (.ref b), v4, v5, v6, some (.int (g : Int)), some v] ∧ Ex H13 H') ⟨_, _, _, rfl, Ex.refl _⟩ ?_ ?_⟩
        · rintro i σ H14 hi ⟨v4, v5, v6, rfl, e14⟩
          rw [Int.zero_add]
          walk_at "rd"
          refine ⟨i, v, .int (g : Int), rfl, hi, ov _ e14, ⟨_, th_int _⟩, .inl wv, fun H15 e15 => ⟨true, rfl, (fun z => nomatch z), fun _ => ?_⟩⟩
          walk_at "rd"
          refine ⟨i, v, v, rfl, hi, ov _ (e14.trans e15), ov _ (e14.trans e15), .inl wv, fun H16 e16 => ⟨true, rfl, (fun z => nomatch z), fun _ => ?_⟩⟩
          walk_at "rd"
          refine ⟨fun z => ?_, fun z => ?_⟩
          · walk_at "rd"
            have i3 : i < 3 := by have := of_decide_eq_true z; omega
            refine ⟨i, .int (g : Int), v, rfl, hi, ⟨_, th_int _⟩, ov _ ((e14.trans e15).trans e16), .inr ⟨wv, i3⟩, fun H17 e17 => ⟨true, rfl, (fun z => nomatch z), fun _ => ?_⟩⟩
            walk_at "rd"
            exact ⟨_, _, _, rfl, ((e14.trans e15).trans e16).trans e17⟩
          · refine ⟨(fun z => nomatch z), fun _ => ?_⟩
            walk_at "rd"
            exact ⟨_, _, _, rfl, (e14.trans e15).trans e16⟩
        · rintro σ H14 ⟨v4, v5, v6, rfl, e14⟩
          walk_at "rd"
          exact q _

end
end Lw

set_option Elab.async false
set_option linter.all false
set_option maxRecDepth 100000
set_option maxHeartbeats 0
namespace Lw
open PySem PySem.Spec PyProof.Rows L2 He
section
variable {P : Program} {w : World} {K : PySem.W.Frag} {mg : Str → Option Value}
theorem end_of {h : Heap} {f : Addr} (X : K.In h) (G : h.Ns mainGlobals mg) (hf : mg ("law" : Str) = some (.ref f)) (c : SaysE fa fn ex K) :
    ∃ fd : FuncData, (∀ (s : Shared) (v : Value), BindsTo s fd ⟨[v], []⟩ [("_law_script", v)]) ∧ ∀ base : Heap, K.In base → base.Ns mainGlobals mg → FnOk P w K mg base (L2N.CX P w) 11 f fd ["_law_script"] (spLaw K) := by
  have E : Ctx K mg := ⟨⟨h, X, G⟩, c⟩
  obtain ⟨fd, F⟩ := f_law E
  have e := hf.symm.trans (g_law E)
  cases e
  have b := FunD.bindsA (ps := ["_law_script"]) F fun _ _ _ _ _ _ us hl => match us, hl with | [_], _ => rfl
  refine ⟨fd, fun s v => b s [v] rfl, fun base _ _ => ?_⟩
  exact h_law E F
end
end Lw
open PySem PySem.W PySem.Calls PyProof.Rows
theorem PySem.Challenge.cw_lowerwords_k04_whole_heaps_below_by_lett_holds : PySem.Challenge.rw_lowerwords_k04_whole_heaps_below_by_lett.Holds := by
  w_on; o_law
  refine HandSHeadRun.head_any (r := Lw.R) (q := view Lw.R.prog [35]) (H := Lw.hk) (ob := Lw.ob) (M := 4000) (loose := Lw.loose) (d := HandSHeadRun.topDef Lw.R.prog 35) (kwd := []) Lw.ob_eq
    (by kernel_rfl) (fun s => by kernel_rfl) Lw.run (by kernel_rfl) (by kernel_rfl) (by kernel_rfl) (by rfl) (by first | assumption | decide +kernel) (by decide +kernel) ⟨rfl, rfl, rfl, rfl, rfl, by decide +kernel⟩ ?hw ?hc
  case hw => w_witness2
  case hc =>
    refine Lw.walk_ofEB (l := PySem.Challenge.rw_lowerwords_k04_whole_heaps_below_by_lett) (n := 63) (k := 11) (x := "_law_script") (CX := fun w => L2N.CX (PySem.Challenge.rw_lowerwords_k04_whole_heaps_below_by_lett).prog w) rfl (by decide) (by kernel_rfl) ⟨rfl, by decide, by decide⟩ ?F ?C
    case C =>
      rintro w H s e s' ⟨_, _, _, _, _, _, _, _, _, _, _, _, no⟩
      exact no
    case F =>
      intro w mg fa h Y G m0
      obtain ⟨K, KX, c⟩ := Y
      have m1 : mg ("law" : PySem.Str) = some (.ref fa) := by
        have e : (HandSHeadRun.topDef Lw.R.prog 35).name = ("law" : PySem.Str) := by kernel_rfl
        rw [← e]
        exact m0
      obtain ⟨fd, hb, hF⟩ := Lw.end_of (P := (PySem.Challenge.rw_lowerwords_k04_whole_heaps_below_by_lett).prog) (w := w) KX G m1 c
      exact ⟨K, fd, Lw.spLaw K, KX, hb, fun H a ns hl hz _ hS => ⟨a, ns, rfl, hS, hl, hz, fun _ => rfl⟩, hF⟩

