import PyProof.Rows.All
import Wide.All
import OpenK.AllK
import Wide.FinOn
import PyProof.EqAt
import PyProof.EqKinds
import PyProof.TupleCall
import PyProof.FString
import PyProof.FString4
import KE.KExcSuper
import HandS.ForMost
import HandS.ForExc
import HandS.ExcIs
import KE.KExcIs
import HandS.IsInst
import HandS.ExcCtx
import HandS.HotCalls
import HandS.Evl
import HandS.Wide
import HandS.Defaults
import HandS.Gcd
import HandS.FStr
import HandS.Codes
import HandS.ClsMeth
import HandS.Replace
import HandS.ReplaceLit
import HandS.CallSlots
import HandS.ReplaceList
import HandS.Set
import HandS.SetFor
import HandS.SetTxt0
import HandS.Strs
import PyProof.Rows.SortStr
import PyProof.Rows.SortShellAny
import HandS.Comp
import HandS.Hot
import HandS.Star
import HandS.Style
import HandS.OwnIter
import HandS.IterNext
import HandS.TupAny
import HandS.StrMore
import HandS.Text
import HandS.Walk
import HandS.Iter
import HandS.RaiseMore
import HandS.Rev
import HandS.Property
import PySem.Challenge.RW_renamedhorn_k10_turnings_made
set_option Elab.async false
set_option linter.all false
set_option maxRecDepth 100000
set_option maxHeartbeats 4000000
/-! Own error classes (over a class over ValueError) whose __init__ hands a text to super().__init__ and keeps one argument, or none. -/
namespace Er
open PySem PySem.W PySem.Calls PyProof.Rows PySem.HandSPX

/-- the text of __init__(self, f): super().__init__(me); self.f = f -/
def args1 (f : Str) (p1 p2 : Pos) : Arguments := { posonlyargs := [], args := [{ arg := "self", annotation := none, pos := p1 }, { arg := f, annotation := none, pos := p2 }], vararg := none, kwonlyargs := [], kw_defaults := [], kwarg := none, defaults := [] }
def args0 (p1 : Pos) : Arguments := { posonlyargs := [], args := [{ arg := "self", annotation := none, pos := p1 }], vararg := none, kwonlyargs := [], kw_defaults := [], kwarg := none, defaults := [] }
def supS (me : Expr) (a b c d e : Pos) : Stmt := .Expr (.Call (.Attribute (.Call (.Name "super" a) [] [] b) "__init__" c) [me] [] d) e
def keepS (f : Str) (a b c d : Pos) : Stmt := .Assign [.Attribute (.Name "self" a) f b] (.Name f c) d
def scope1 (f : Str) : Scope := { kind := .function, names := [(PySem.Str.ofString "self", .local), (f, .local), (PySem.Str.ofString "__class__", .free), (PySem.Str.ofString "super", .globalImplicit)], isGenerator := false, isCoroutine := false, more := [] }
def scope0 : Scope := { kind := .function, names := [(PySem.Str.ofString "self", .local), (PySem.Str.ofString "__class__", .free), (PySem.Str.ofString "super", .globalImplicit)], isGenerator := false, isCoroutine := false, more := [] }

/-- what the written part says of an error class at C with its __init__ at fI, its __class__ cell at cc, its code at cda -/
structure Cls1 (P : Program) (K : Frag) (mg : Str → Option Value) (nm : Str) (C fI : Addr) (pars : Arguments) (body : List Stmt) (sc : Scope) : Prop where
  gC : mg nm = some (.ref C)
  cls : ∃ n q N bs bm sn sub ab col dd k0 k1 k2 k3 k5, K.lookup C = some (excClassObj n q C N bs bm true sn sub ab col dd k0 k1 k2 k3 k5 "ValueError.__new__") ∧ refsVE bm = true
  sa : findIn K (.ref C) "__setattr__" = some (some (.builtin "object.__setattr__"))
  ga : findIn K (.ref C) "__getattribute__" = some (some (.builtin "BaseException.__getattribute__"))
  gg : findIn K (.ref C) "__getattr__" = some none
  iC : findIn K (.ref C) "__init__" = some (some (.ref fI))
  tC : typeIn K (.ref fI) = some (.type "function")
  kC : keepIn K (.ref C) = true
  exC : subIn K (.ref C) (.type "BaseException") = some true
  veC : subIn K (.ref C) (.type "ValueError") = some true
  tyC : typeIn K (.ref C) = some (.type "type")
  hdC : hasDictIn K C = true
  te : exmOne K (.ref C) (.ref C) = some true
  up : ks_superIn K C C "__init__" = some (some (.builtin "ValueError.__init__"))
  self : mroIn K C (.ref C) = some true
  op : nsIn K cStatics "thirdparty.any" = some none
  noS : mg "super" = none
  fn : ∃ (oc : Value) (od : Option Addr) (doc pm : Value) (an : Option Addr) (cda cc : Addr) (ct : Value) (osl : Array (Option Value)) (ccl cl : Value) (cdd cld : Option Addr) (vs : Array Value) (ccs csl : Array (Option Value)) (file : Str) (tf : Tok),
    K.lookup fI = some ⟨oc, od, .func (ksFn "__init__" (nm ++ ".__init__") pars body sc .none .none doc pm an (.ref cda) ct cc), osl⟩ ∧ codeIn K (.ref cda) (nm ++ ".__init__") = true ∧
    K.lookup cda = some ⟨ccl, cdd, .fields vs, ccs⟩ ∧ vs[2]? = some (.str file tf) ∧ ((P.main.file : Str) == file) = true ∧
    K.lookup cc = some ⟨cl, cld, .cell (some (.ref C)), csl⟩
  noM : (P.main.scope.names.lookup ("super" : Str)).isSome = false

/-- an expression that gives a text and makes nothing else, where the name x holds v -/
structure Msg (me : Expr) (x : Str) (v : Value) (sc : Scope) : Prop where
  call : ∀ (env : Env) (a b c d : Pos), (c.endLine == d.line) = true → ∃ pl : Sem Bool, eval (.Call (.Attribute (.Call (.Name "super" a) [] [] b) "__init__" c) [me] [] d) env = (do
      let ov ← attributeBase (.Call (.Name "super" a) [] [] b) "__init__" env (eval (.Call (.Name "super" a) [] [] b) env)
      standAt c.atName
      let (f, first) ← holding [ov] (getMethod ov "__init__" pl)
      callWith d f first (backTo d (starEach [me] env)) [])
  star : ∀ env : Env, starEach [me] env = (false, eval me env) :: starEach [] env
  swap : ∀ (env : Env) (a b c d : Pos) (n : Nat), swapsWith (.Call (.Attribute (.Call (.Name "super" a) [] [] b) "__init__" c) [me] [] d) none n env = pure false
  text : ∀ (prog : Program) (w : World) (A : Around) (E : Value → Shared → Prop) (env : Env) (s : Shared) (m : Str → Option Value) (Q : Value → Shared → Prop),
    env.scope = sc → s.heap.Ns env.locals m → m x = some v → (∀ y tk n, Q (.str y tk) { s with toks := n }) → wpAny (model prog w) A (eval me env) Q E s

theorem size1 (v : Value) : [v].length ≤ sizeLine := by
  rw [sizeLine_eq]
  exact (by decide : 1 ≤ 16777216)
theorem size0 : ([] : List Value).length ≤ sizeLine := Nat.zero_le _
theorem call_eq {o me : Expr} {nm : Str} {c d : Pos} {env : Env} (he : (c.endLine == d.line) = true) (hf : methodCallForm ([me].length + ([] : List Keyword).length) (backTo d (starEach [me] env)) (backToKw d (keywordEach [] env)) = true) :
    eval (.Call (.Attribute o nm c) [me] [] d) env = (do
      let ov ← attributeBase o nm env (eval o env)
      standAt c.atName
      let (f, first) ← holding [ov] (getMethod ov nm (do return (← importBound o env).getD true))
      callWith d f first (backTo d (starEach [me] env)) []) := by
  show (do
    let ov ← attributeBase o nm env (eval o env)
    standAt c.atName
    methodCall o nm c d env ov ([me].length + ([] : List Keyword).length) (backTo d (starEach [me] env)) (backToKw d (keywordEach [] env))) = _
  unfold methodCall
  rw [hf]
  unfold methodCallPos
  simp only [he, Bool.or_true, if_true]
  rfl
/-- an error of the class at S is what «except S» names -/
theorem exm_self {S : Addr} {K : Frag} (h1 : subIn K (.ref S) (.type "BaseException") = some true) (h2 : isClsIn K S = true) (h3 : typeIn K (.ref S) = some (.type "type")) (h4 : subIn K (.ref S) (.ref S) = some true) :
    exmOne K (.ref S) (.ref S) = some true := by
  have e1 : (subIn K (.ref S) (.type "BaseException") == some true) = true := by rw [h1] <;> rfl
  have e2 : ((clsIn K S).isSome && typeIn K (.ref S) == some (.type "type")) = true := by
    have h2' : (clsIn K S).isSome = true := h2
    rw [h2', h3] <;> rfl
  show (if (subIn K (.ref S) (.type "BaseException") == some true) = true then (if ((clsIn K S).isSome && typeIn K (.ref S) == some (.type "type")) = true then subIn K (.ref S) (.ref S) else none) else none) = some true
  rw [if_pos e1, if_pos e2]
  exact h4
structure Made (h h' : Heap) (e C : Addr) (d : Option Addr) (F : Str → Option Value) : Prop where
  keep : ∀ b o, h.get? b = some o → h'.get? b = some o
  new : h.objs.size ≤ e
  obj : ∃ oe vs, h'.get? e = some oe ∧ oe.cls = .ref C ∧ oe.dict = d ∧ oe.data = .fields vs ∧ vs[1]? = some .none
  own : ∀ dx, d = some dx → h.objs.size ≤ dx ∧ dx ≠ e ∧ h'.Ns1 dx F

section
variable {prog : Program} {w : World} {A : Around} {E : Value → Shared → Prop} {R : Result → Shared → Prop} {s : Shared} {K : Frag} {mg mb : Str → Option Value} {C fI : Addr} {nm f : Str}

/-- ValueError.__init__ bound to the exception, called -/
theorem call_mw {h : Heap} {g : Array GenState} {d : Drawn} {t : Nat} {os : OsState} {n q : Str} {N : Addr} {bs bm : List Value} {hdct : Bool} {sn : List Str} {sub : List Value} {ab : Bool} {col : Option Bool} {dd : Option Addr} {k0 k1 k2 k3 k5 : Option Value}
    {u e t0 : Addr} {rest : List Value} {Q : Value → Shared → Prop}
    (hC : h.get? C = some (excClassObj n q C N bs bm hdct sn sub ab col dd k0 k1 k2 k3 k5 "ValueError.__new__")) (he : h.get? e = some (excO C t0)) (hu : h.get? u = some (kxs_mw "ValueError.__init__" e)) (hrest : rest.length ≤ sizeLine)
    (hq : ∀ h' t1, (∀ b o, b ≠ e → h.get? b = some o → h'.get? b = some o) → h'.get? e = some (excO C t1) → Q .none ⟨h', g, d, t, os⟩) :
    wpAny (model prog w) A (call (.ref u) rest) Q E ⟨h, g, d, t, os⟩ := by
  refine wpAny_call
    (codeAny_of_tree ?_)
  show wpAny _ A.in1
    (callAny (.ref u) ⟨rest, []⟩) _ _ _
  simp only
    [callAny]
  refine wpAny_bind
    (wpAny_load hu ?_)
  simp only [kxs_mw, show (Value.type "method-wrapper" == Value.type "method" || Value.type "method-wrapper" == Value.type "builtin_function_or_method" ||
    Value.type "method-wrapper" == Value.type "method-wrapper") = true by decide, if_true]
  refine KFB.if_so (by decide) ?_
  refine wpAny_bind
    (check_bound_init PySem.F.excBase_ValueError.toExcCallFacts hC he rfl ?_)
  refine wpAny_bind (wpAny_pure
    (wpAny_pure ?_))
  refine ⟨plainId_quiet PySem.F.excBase_ValueError.init.plain _, codeAny_builtin PySem.F.excBase_ValueError.initEntry ?_⟩
  exact exc_init_tree (cls := .ref C) (t0 := t0) (dv := none) (c2 := .none) (c3 := .none) (b4 := .bool false) he hrest
    (fun h' k e' _ => hq h' _ k e')

/-- what super().__init__(..) leaves of a fresh exception at x -/
structure Sup (h h' : Heap) (x C : Addr) : Prop where
  keep : ∀ b o, b ≠ x → h.get? b = some o → h'.get? b = some o
  obj : ∃ t1, h'.get? x = some (excO C t1)
theorem sup_body {pars : Arguments} {body0 body : List Stmt} {sc : Scope} {me : Expr} {a b c d e : Pos} {env : Env} {L t0 x : Addr} {m : Str → Option Value} {y : Str} {v : Value} {rest : List Stmt} {Q : Flow → Shared → Prop} {ar : Arg} {h : Heap} {g : Array GenState} {dr : Drawn} {t : Nat} {os : OsState}
    (T : Cls1 prog K mg nm C fI pars body0 sc) (X : K.In h) (hg : h.Ns mainGlobals mg) (hb : h.Ns builtinsNs mb) (hbb : ∀ z : Str, z ≠ "__name__" → mb z = bootBuiltins z)
    (hL : h.Ns L m) (hx : h.get? x = some (excO C t0)) (hself : m "self" = some (.ref x)) (hp : (pars.posonlyargs ++ pars.args).head? = some ar) (hpa : ar.arg = "self") (hM : Msg me y v sc) (hmy : m y = some v)
    (henv : ∃ qual cda cc ccl cl cdd cld vs ccs csl file tf, env = ksEnv qual sc L fI (.ref cda) cc ∧ K.lookup cda = some ⟨ccl, cdd, .fields vs, ccs⟩ ∧ vs[2]? = some (.str file tf) ∧ ((prog.main.file : Str) == file) = true ∧
      K.lookup cc = some ⟨cl, cld, .cell (some (.ref C)), csl⟩)
    (hks : sc.names.lookup ("super" : Str) = some .globalImplicit) (hkc : sc.names.lookup ("__class__" : Str) = some .free) (hka : sc.names.lookup ("self" : Str) = some .local) (hk : sc.kind = .function) (hcd : (c.endLine == d.line) = true)
    (hq : ∀ h' tk, Sup h h' x C → _root_.PySem.wpAt (model prog w) A (.func body env) (execs rest env) Q E ⟨h', g, dr, tk, os⟩) :
    _root_.PySem.wpAt (model prog w) A (.func body env) (execs (supS me a b c d e :: rest) env) Q E ⟨h, g, dr, t, os⟩ := by
  obtain ⟨qual, cda, cc, ccl, cl, cdd, cld, vs, ccs, csl, file, tf, rfl, hcode, hvs, hfile, hcell⟩ := henv
  obtain ⟨oc, od, doc, pm, an, cda', cc', ct, osl, ccl', cl', cdd', cld', vs', ccs', csl', file', tf', hf, _⟩ := T.fn
  obtain ⟨n, q, N, bs, bm, sn, sub, ab, col, dd, k0, k1, k2, k3, k5, hC, hbm⟩ := T.cls
  have hcl : clsIn K C = some { name := n, bases := bs, mro := .ref C :: bm, ns := N, qualname := q, hasDict := true, slotNames := sn, subclasses := sub, abstract := ab, collection := col, hasDel := false } := by unfold clsIn; rw [hC] <;> rfl
  have hup : alongIn K "__init__" (((Value.ref C :: bm).dropWhile (· != .ref C)).drop 1) = some (some (.builtin "ValueError.__init__")) := by
    have z := T.up
    unfold ks_superIn at z
    rw [hcl] at z
    exact z
  obtain ⟨pl, hcall⟩ := hM.call (ksEnv qual sc L fI (.ref cda) cc) a b c d hcd
  refine ks_wpAt_execs_cons (ks_wpAt_Expr_any (ks_wpAt_MethodCall (pl := pl) ?_ hcall) (by show (sc.kind == .module && _) = false; rw [hk]; rfl) (hM.swap _ _ _ _ _ _))
  refine ks_wpAt_super_base (fd := ksFn "__init__" (nm ++ ".__init__") pars body0 sc .none .none doc pm an (.ref cda') ct cc') hks hkc (by decide) rfl (X _ _ hf) rfl hp rfl (X _ _ hcode) rfl hvs hfile T.noM ?_
  refine ks_loadName_global hk hks (loadGlobal_builtin (env := ksEnv qual sc L fI (.ref cda) cc) hg T.noS hb ((hbb _ (by decide)).trans (show bootBuiltins "super" = some (.type "super") by first | rfl | kernel_rfl)) ⟨rfl, ?_⟩)
  refine wpAny_loadName_free hk hkc (c := cc) (v := .ref C) rfl ⟨_, X _ _ hcell, rfl⟩ ?_
  rw [hpa]
  refine wpAny_loadName_local hk hka hL hself ?_
  refine ks_wpAny_isType_cls (X _ _ hC) rfl ⟨rfl, ?_⟩
  have I : InstAt h x (excO C t0) C none := ⟨hx, rfl, rfl, trivial⟩
  refine ks_wpAny_call_super (X _ _ hC) rfl hx rfl (fun c z => by cases z) (looks_mroIn X T.self) (fun h2 hso kk => ?_)
  have X2 : K.In h2 := X.keeps kk
  have hx2 := kk _ _ hx
  have I2 : InstAt h2 x (excO C t0) C none := ⟨hx2, rfl, rfl, trivial⟩
  refine kxs_getMethod kxs_ValueError hso (looks_opaque X2 T.op) (l₀ := .ref C :: bm) (fun A Q E s k q => wpAny_bind ((looks_clsIn X2 hcl) A _ E s k (wpAny_pure q))) rfl X2 hup (I2.type.andThen (looks_subIn X2 T.veC)) (ks_ne X2 I2 hcl) (by decide) ?_
  have kk3 : ∀ b o, h2.get? b = some o → (h2.push (kxs_mw "ValueError.__init__" x)).get? b = some o := fun b o z => Heap.get?_push_of_some _ z
  have hu : (h2.push (kxs_mw "ValueError.__init__" x)).get? h2.objs.size = some (kxs_mw "ValueError.__init__" x) := Heap.get?_push_at rfl rfl
  have hLx : L ≠ x := fun z => by
    obtain ⟨oL, es, ep, hoL, hdL, _⟩ := hL
    rw [z, hx] at hoL
    have z2 := Option.some.inj hoL
    subst z2
    cases hdL
  have he1 := hM.star (ksEnv qual sc L fI (.ref cda) cc)
  refine kxs_callWith (i := "ValueError.__init__") (x := x) (by rw [he1]; rfl) ?_
  rw [he1]
  refine evalArgs_plain ?_
  refine spliced_cons ?_
  refine hM.text _ _ _ _ _ _ m _ rfl (hL.keeps fun b o z => kk3 b o (kk b o z)) hmy (fun y' tk' n' => ?_)
  refine spliced_nil ?_
  refine ⟨hu, ?_⟩
  refine call_mw (X2.keeps kk3 _ _ hC) (kk3 _ _ hx2) hu (size1 _) (fun h' t1 k' e' => ?_)
  exact hq h' _ ⟨fun b o nb z => k' b o nb (kk3 b o (kk b o z)), t1, e'⟩
theorem ldL {env : Env} {m : Str → Option Value} {x : Str} {pos : Pos} {v : Value} {Q : Value → Shared → Prop} (hn : s.heap.Ns env.locals m) (hv : m x = some v) (hk : env.scope.kind = .function) (hl : env.kindOf x = some .local) (hd : (x == ("__debug__" : Str)) = false) (h : Q v s) :
    wpAny (model prog w) A (eval (.Name x pos) env) Q E s := wpAny_Name (wpAny_loadName_local hk hl hn hv h) hd


/-- how a field's name stands in such a text -/
structure Fld (f : Str) : Prop where
  bind : ∀ (q : Str) (p1 p2 : Pos) (body : List Stmt) (dV kV doc pm : Value) (an : Option Addr) (cd ct : Value) (cc : Addr) (x v : Value), bindArgs (ksFn "__init__" q (args1 f p1 p2) body (scope1 f) .none .none doc pm an cd ct cc) ⟨[x, v], []⟩ = pure [(("self" : Str), x), (f, v)]
  ne : (f == ("self" : Str)) = false
  dbg : (f == ("__debug__" : Str)) = false
  kf : (scope1 f).names.lookup f = some .local
  ks : (scope1 f).names.lookup ("super" : Str) = some .globalImplicit
  kc : (scope1 f).names.lookup ("__class__" : Str) = some .free
  cell : ∀ x ∈ (scope1 f).names, x.2 ≠ .cell

/-- what __init__ leaves of a fresh exception at x: a dict at dx that holds the field -/
structure End1 (h h' : Heap) (x C dx : Addr) (f : Str) (v : Value) : Prop where
  keep : ∀ b o, b ≠ x → h.get? b = some o → h'.get? b = some o
  obj : ∃ t1, h'.get? x = some { cls := .ref C, dict := some dx, data := .fields #[.ref t1, .none, .none, .none, .bool false, .none] }
  big : h.objs.size ≤ dx
  ne : dx ≠ x
  ns : h'.Ns1 dx (fun y => if y = f then some v else none)
/-- the __init__ of one argument -/
theorem init1 {f : Str} {p1 p2 a b c d e a' b' c' d' : Pos} {me : Expr} {x t0 : Addr} {v : Value}
    (T : Cls1 prog K mg nm C fI (args1 f p1 p2) [supS me a b c d e, keepS f a' b' c' d'] (scope1 f)) (X : K.In s.heap) (hg : s.heap.Ns mainGlobals mg) (hb : s.heap.Ns builtinsNs mb) (hbb : ∀ z : Str, z ≠ "__name__" → mb z = bootBuiltins z)
    (hlim : s.heap.NoLimit) (hx : s.heap.get? x = some (excO C t0)) (hnx : K.lookup x = none) (hroom : A.depth < recursionLimit) (hM : Msg me f v (scope1 f)) (hcdp : (c.endLine == d.line) = true) (hF : Fld f) (noN : findIn K (.ref C) f = some none)
    (hq : ∀ h' tk dx, End1 s.heap h' x C dx f v → R (.ok (.ret .none)) { s with heap := h', toks := tk }) :
    codeAny (model prog w) A (.call (.ref fI) ⟨[.ref x, v], []⟩) R s := by
  obtain ⟨oc, od, doc, pm, an, cda, cc, ct, osl, ccl, cl, cdd, cld, vs, ccs, csl, file, tf, hf, hcd, hcode, hvs, hfile, hcell⟩ := T.fn
  obtain ⟨n, q, N, bs, bm, sn, sub, ab, col, dd, k0, k1, k2, k3, k5, hC, hbm⟩ := T.cls
  have hcl : clsIn K C = some { name := n, bases := bs, mro := .ref C :: bm, ns := N, qualname := q, hasDict := true, slotNames := sn, subclasses := sub, abstract := ab, collection := col, hasDel := false } := by unfold clsIn; rw [hC] <;> rfl
  have l1 : (scope1 f).names.lookup ("self" : Str) = some .local := rfl
  have fs : ¬ f = ("self" : Str) := by simpa using hF.ne
  refine ks_codeAny_call_defAt (fd := ksFn "__init__" (nm ++ ".__init__") (args1 f p1 p2) [supS me a b c d e, keepS f a' b' c' d'] (scope1 f) .none .none doc pm an (.ref cda) ct cc) (body := [supS me a b c d e, keepS f a' b' c' d'])
    (binds := [(("self" : Str), Value.ref x), (f, v)]) hroom (X _ _ hf) rfl hlim (codeRec_of X hcd) rfl (BindsTo.of_eq (hF.bind _ _ _ _ .none .none _ _ _ _ _ _ _ _)) hF.cell (fun y hy => ?_) (fun h₁ hns kk => ?_)
  · rcases List.mem_cons.mp hy with e | hy
    · rw [e]
      exact l1
    · rw [List.mem_singleton.mp hy]
      exact hF.kf
  · obtain ⟨hp, g, dr, tk, os⟩ := s
    have X1 : K.In h₁ := X.keeps kk
    have ms : (fun y : Str => ([(("self" : Str), Value.ref x), (f, v)]).reverse.lookup y) ("self" : Str) = some (.ref x) := by
      show List.lookup ("self" : Str) [(f, v), (("self" : Str), Value.ref x)] = some (.ref x)
      have z : (("self" : Str) == f) = false := by
        rw [beq_eq_false_iff_ne]
        exact fun z => fs z.symm
      rw [List.lookup_cons, z]
      simp [List.lookup]
    have mf : (fun y : Str => ([(("self" : Str), Value.ref x), (f, v)]).reverse.lookup y) f = some v := by
      show List.lookup f [(f, v), (("self" : Str), Value.ref x)] = some v
      simp [List.lookup]
    have hL : hp.objs.size ≠ x := Nat.ne_of_gt (Heap.lt_size hx)
    refine sup_body (mb := mb) T X1 (hg.keeps kk) (hb.keeps kk) hbb hns (kk _ _ hx) ms rfl rfl hM mf ⟨_, cda, cc, ccl, cl, cdd, cld, vs, ccs, csl, file, tf, rfl, hcode, hvs, hfile, hcell⟩ hF.ks hF.kc l1 rfl hcdp (fun h2 tk2 S => ?_)
    obtain ⟨t1, hx2⟩ := S.obj
    have hns2 : h2.Ns hp.objs.size _ := hns.at fun o z => S.keep _ _ hL z
    have X2 : K.In h2 := fun b o z => S.keep b o (fun y => by
      rw [y, hnx] at z
      cases z) (X1 b o z)
    refine ks_wpAt_execs_cons (wpAt_of_wpAny ?_)
    refine plainObj_wpAny_Assign_Attribute ?_
    refine ldL (v := v) hns2 mf rfl hF.kf hF.dbg (ldL (v := .ref x) hns2 ms rfl l1 (by decide) ?_)
    refine set_plain X2 (ox := excO C t1) (od := none) ⟨hx2, rfl, rfl, trivial⟩ T.sa ?_
    refine exc_osa X2 hx2 hcl (show refsVE (.ref C :: bm) = true from hbm) rfl noN (fun h3 tk3 dx k3 dn dne hx3 hn3 => ?_)
    refine wpAt_of_wpAny (wpAny_execs_nil (hq h3 tk3 dx ⟨fun b o nb z => k3 b o nb (S.keep b o nb (kk b o z)), ⟨t1, hx3⟩, ?_, dne, hn3⟩))
    obtain ⟨oL, _, _, hoL, _⟩ := hns2
    exact Nat.le_trans (Nat.le_of_lt (Heap.lt_size hoL)) dn
theorem cell0 : ∀ y ∈ scope0.names, y.2 ≠ .cell := by decide
/-- the __init__ without argument -/
theorem init0 {p1 a b c d e : Pos} {me : Expr} {x t0 : Addr} (T : Cls1 prog K mg nm C fI (args0 p1) [supS me a b c d e] scope0) (X : K.In s.heap) (hg : s.heap.Ns mainGlobals mg) (hb : s.heap.Ns builtinsNs mb) (hbb : ∀ z : Str, z ≠ "__name__" → mb z = bootBuiltins z)
    (hlim : s.heap.NoLimit) (hx : s.heap.get? x = some (excO C t0)) (hnx : K.lookup x = none) (hroom : A.depth < recursionLimit) (hM : Msg me "self" (.ref x) scope0) (hcdp : (c.endLine == d.line) = true)
    (hq : ∀ h' tk, Sup s.heap h' x C → R (.ok (.ret .none)) { s with heap := h', toks := tk }) :
    codeAny (model prog w) A (.call (.ref fI) ⟨[.ref x], []⟩) R s := by
  obtain ⟨oc, od, doc, pm, an, cda, cc, ct, osl, ccl, cl, cdd, cld, vs, ccs, csl, file, tf, hf, hcd, hcode, hvs, hfile, hcell⟩ := T.fn
  refine ks_codeAny_call_defAt (fd := ksFn "__init__" (nm ++ ".__init__") (args0 p1) [supS me a b c d e] scope0 .none .none doc pm an (.ref cda) ct cc) (body := [supS me a b c d e])
    (binds := [(("self" : Str), Value.ref x)]) hroom (X _ _ hf) rfl hlim (codeRec_of X hcd) rfl (BindsTo.of_eq rfl) (by intro y hy; exact cell0 y hy) (fun y hy => ?_) (fun h₁ hns kk => ?_)
  · rw [List.mem_singleton.mp hy]
    rfl
  · obtain ⟨hp, g, dr, tk, os⟩ := s
    have X1 : K.In h₁ := X.keeps kk
    refine sup_body (mb := mb) T X1 (hg.keeps kk) (hb.keeps kk) hbb hns (kk _ _ hx) rfl rfl rfl hM rfl ⟨_, cda, cc, ccl, cl, cdd, cld, vs, ccs, csl, file, tf, rfl, hcode, hvs, hfile, hcell⟩ rfl rfl rfl rfl hcdp (fun h2 tk2 S => ?_)
    exact wpAt_of_wpAny (wpAny_execs_nil (hq h2 tk2 ⟨fun b o nb z => S.keep b o nb (kk b o z), S.obj⟩))

/-- a made error of one argument -/
structure Own1 (h h' : Heap) (e C d : Addr) (f : Str) (v : Value) : Prop where
  keep : ∀ b o, h.get? b = some o → h'.get? b = some o
  new : h.objs.size ≤ e
  obj : ∃ oe vs, h'.get? e = some oe ∧ oe.cls = .ref C ∧ oe.dict = some d ∧ oe.data = .fields vs ∧ vs[1]? = some .none ∧ vs[2]? = some .none
  big : h.objs.size ≤ d
  ne : d ≠ e
  ns : h'.Ns1 d (fun y => if y = f then some v else none)
structure Own0 (h h' : Heap) (e C : Addr) : Prop where
  keep : ∀ b o, h.get? b = some o → h'.get? b = some o
  new : h.objs.size ≤ e
  obj : ∃ oe vs, h'.get? e = some oe ∧ oe.cls = .ref C ∧ oe.dict = none ∧ oe.data = .fields vs ∧ vs[1]? = some .none ∧ vs[2]? = some .none
theorem fresh_of {hp : Heap} (X : K.In hp) {n : Nat} (h : hp.objs.size ≤ n) : K.lookup n = none := by
  cases e : K.lookup n with
  | none => rfl
  | some o => exact absurd (Nat.lt_of_lt_of_le (Heap.lt_size (X _ _ e)) h) (Nat.lt_irrefl _)
theorem made1 {f : Str} {p1 p2 a b c d e a' b' c' d' : Pos} {me : Expr} {v : Value}
    (T : Cls1 prog K mg nm C fI (args1 f p1 p2) [supS me a b c d e, keepS f a' b' c' d'] (scope1 f)) (X : K.In s.heap) (hg : s.heap.Ns mainGlobals mg) (hb : s.heap.Ns builtinsNs mb) (hbb : ∀ z : Str, z ≠ "__name__" → mb z = bootBuiltins z)
    (hlim : s.heap.NoLimit) (hroom : A.depth + 1 < recursionLimit) (hM : Msg me f v (scope1 f)) (hcdp : (c.endLine == d.line) = true) (hF : Fld f) (noN : findIn K (.ref C) f = some none)
    (hq : ∀ h' tk x dx, Own1 s.heap h' x C dx f v → R (.ok (.ret (.ref x))) { s with heap := h', toks := tk }) : codeAny (model prog w) A (.call (.ref C) ⟨[v], []⟩) R s := by
  obtain ⟨n, q, N, bs, bm, sn, sub, ab, col, dd, k0, k1, k2, k3, k5, hC, hbm⟩ := T.cls
  obtain ⟨hp, g, dr, tk, os⟩ := s
  have k : ∀ b o, hp.get? b = some o → ((hp.push (kdv_tup [v])).push (excO C hp.objs.size)).get? b = some o := fun b o z => Heap.get?_push_of_some _ (Heap.get?_push_of_some _ z)
  have hget : ((hp.push (kdv_tup [v])).push (excO C hp.objs.size)).get? (hp.objs.size + 1) = some (excO C hp.objs.size) := by heap_get
  refine call_own PySem.F.excBase_ValueError (fun Y => refsVE_contains Y bm hbm) (X _ _ hC) (looks_findIn X T.iC) (fun self => bind_fn X self T.tC) (size1 v) ?_
  refine init1 (mb := mb) (s := ⟨(hp.push (kdv_tup [v])).push (excO C hp.objs.size), g, dr, tk, os⟩) T (X.keeps k) (hg.keeps k) (hb.keeps k) hbb (hlim.keeps k) hget (fresh_of X (Nat.le_succ _)) hroom hM hcdp hF noN fun h' tk' dx Z => ?_
  have old : ∀ b o, hp.get? b = some o → h'.get? b = some o := fun b o z => Z.keep b o (Nat.ne_of_lt (Nat.lt_succ_of_lt (Heap.lt_size z))) (k b o z)
  have z : hp.objs.size + 1 + 1 ≤ dx := by
    have q := Z.big
    rw [Heap.size_push, Heap.size_push] at q
    exact q
  obtain ⟨t1, ho⟩ := Z.obj
  exact ⟨rfl, hq h' tk' (hp.objs.size + 1) dx ⟨old, Nat.le_succ _, ⟨_, _, ho, rfl, rfl, rfl, rfl, rfl⟩, Nat.le_trans (Nat.le_trans (Nat.le_succ _) (Nat.le_succ _)) z, Z.ne, Z.ns⟩⟩
theorem made0 {p1 a b c d e : Pos} {me : Expr}
    (T : Cls1 prog K mg nm C fI (args0 p1) [supS me a b c d e] scope0) (X : K.In s.heap) (hg : s.heap.Ns mainGlobals mg) (hb : s.heap.Ns builtinsNs mb) (hbb : ∀ z : Str, z ≠ "__name__" → mb z = bootBuiltins z)
    (hlim : s.heap.NoLimit) (hroom : A.depth + 1 < recursionLimit) (hM : ∀ x : Addr, Msg me "self" (.ref x) scope0) (hcdp : (c.endLine == d.line) = true)
    (hq : ∀ h' tk x, Own0 s.heap h' x C → R (.ok (.ret (.ref x))) { s with heap := h', toks := tk }) : codeAny (model prog w) A (.call (.ref C) ⟨[], []⟩) R s := by
  obtain ⟨n, q, N, bs, bm, sn, sub, ab, col, dd, k0, k1, k2, k3, k5, hC, hbm⟩ := T.cls
  obtain ⟨hp, g, dr, tk, os⟩ := s
  have k : ∀ b o, hp.get? b = some o → ((hp.push (kdv_tup [])).push (excO C hp.objs.size)).get? b = some o := fun b o z => Heap.get?_push_of_some _ (Heap.get?_push_of_some _ z)
  have hget : ((hp.push (kdv_tup [])).push (excO C hp.objs.size)).get? (hp.objs.size + 1) = some (excO C hp.objs.size) := by heap_get
  refine call_own PySem.F.excBase_ValueError (fun Y => refsVE_contains Y bm hbm) (X _ _ hC) (looks_findIn X T.iC) (fun self => bind_fn X self T.tC) size0 ?_
  refine init0 (mb := mb) (s := ⟨(hp.push (kdv_tup [])).push (excO C hp.objs.size), g, dr, tk, os⟩) T (X.keeps k) (hg.keeps k) (hb.keeps k) hbb (hlim.keeps k) hget (fresh_of X (Nat.le_succ _)) hroom (hM _) hcdp fun h' tk' Z => ?_
  have old : ∀ b o, hp.get? b = some o → h'.get? b = some o := fun b o z => Z.keep b o (Nat.ne_of_lt (Nat.lt_succ_of_lt (Heap.lt_size z))) (k b o z)
  obtain ⟨t1, ho⟩ := Z.obj
  exact ⟨rfl, hq h' tk' (hp.objs.size + 1) ⟨old, Nat.le_succ _, ⟨_, _, ho, rfl, rfl, rfl, rfl, rfl⟩⟩⟩
end

/-! ### the texts of the messages -/
section
variable {f : Str} {sc : Scope}
theorem text_const {prog : Program} {w : World} {A : Around} {E : Value → Shared → Prop} {env : Env} {s : Shared} {Q : Value → Shared → Prop} {c : Str} {k : Nat} {p : Pos} (h : Q (.str c s.toks) { s with toks := s.toks + 1 }) : wpAny (model prog w) A (eval (.Constant (.str c) k p) env) Q E s := wpAny_Constant_str h
theorem msg_c {x : Str} {v : Value} {c : Str} {k : Nat} {p : Pos} : Msg (.Constant (.str c) k p) x v sc where
  call := fun env a b c' d e => ⟨_, call_eq e rfl⟩
  star := fun env => rfl
  swap := fun _ _ _ _ _ _ => rfl
  text := fun prog w A E env s m Q he hn hv h => wpAny_Constant_str (h c s.toks _)
/-- one part behind another, the field in {..!r} or {..}: a text | an int -/
theorem part_s {prog : Program} {w : World} {A : Around} {E : Value → Shared → Prop} {env : Env} {s : Shared} {m : Str → Option Value} {y : Str} {t : Tok} {p q : Pos} {Q : Value → Shared → Prop} (hF : sc.names.lookup f = some .local) (hk : sc.kind = .function) (hd : (f == ("__debug__" : Str)) = false) (he : env.scope = sc)
    (hn : s.heap.Ns env.locals m) (hv : m f = some (.str y t)) (hz : y.length ≤ sizeLine) (h : ∀ tk n, Q (.str y tk) { s with toks := n }) : wpAny (model prog w) A (eval (.FormattedValue (.Name f p) (-1) none q) env) Q E s := by
  refine wpAny_FormattedValue_plain (ldL hn hv (by rw [he]; exact hk) (by show env.scope.names.lookup f = _; rw [he]; exact hF) hd ?_)
  exact wpAny_formatField_str (h _ s.toks) (h _ _) hz
theorem part_r {prog : Program} {w : World} {A : Around} {E : Value → Shared → Prop} {env : Env} {s : Shared} {m : Str → Option Value} {y : Str} {t : Tok} {p q : Pos} {Q : Value → Shared → Prop} (hF : sc.names.lookup f = some .local) (hk : sc.kind = .function) (hd : (f == ("__debug__" : Str)) = false) (he : env.scope = sc)
    (hn : s.heap.Ns env.locals m) (hv : m f = some (.str y t)) (hz : (reprText y).length ≤ sizeLine) (h : ∀ tk n, Q (.str (reprText y) tk) { s with toks := n }) : wpAny (model prog w) A (eval (.FormattedValue (.Name f p) 114 none q) env) Q E s := by
  refine wpAny_FormattedValue_repr (ldL hn hv (by rw [he]; exact hk) (by show env.scope.names.lookup f = _; rw [he]; exact hF) hd ?_)
  exact pyReprObj_str (wpAny_formatField_str (h _ _) (h _ _) hz) hz
theorem part_i {prog : Program} {w : World} {A : Around} {E : Value → Shared → Prop} {env : Env} {s : Shared} {m : Str → Option Value} {i : Int} {t : Tok} {p q : Pos} {Q : Value → Shared → Prop} (hF : sc.names.lookup f = some .local) (hk : sc.kind = .function) (hd : (f == ("__debug__" : Str)) = false) (he : env.scope = sc)
    (hn : s.heap.Ns env.locals m) (hv : m f = some (.int i t)) (hz : i.natAbs.log2 < 1920) (h : ∀ tk n, Q (.str (toString i) tk) { s with toks := n }) : wpAny (model prog w) A (eval (.FormattedValue (.Name f p) (-1) none q) env) Q E s := by
  refine wpAny_FormattedValue_plain (ldL hn hv (by rw [he]; exact hk) (by show env.scope.names.lookup f = _; rw [he]; exact hF) hd ?_)
  exact wpAny_formatField_int hz (h _ _)
theorem app_le {a b : Str} {n m : Nat} (h1 : a.length ≤ n) (h2 : b.length ≤ m) : (a ++ b).length ≤ n + m := by
  have e : (a ++ b).length = a.length + b.length := Array.size_append ..
  omega
/-- f'c{f!r}' of a text -/
theorem msg_cr {y : Str} {t : Tok} {c : Str} {p q p1 p2 : Pos} {k : Nat} (hF : Fld f) (hc : c.length ≤ 1000) (hz : (reprText y).length ≤ 1000) : Msg (.JoinedStr [.Constant (.str c) k p1, .FormattedValue (.Name f p) 114 none q] p2) f (.str y t) (scope1 f) where
  call := fun env a b c' d e => ⟨_, call_eq e rfl⟩
  star := fun env => rfl
  swap := fun _ _ _ _ _ _ => rfl
  text := fun prog w A E env s m Q he hn hv h => by
    have z0 : (Str.empty ++ c).length ≤ 0 + 1000 := app_le (Nat.le_refl _) hc
    have z1 : (Str.empty ++ c ++ reprText y).length ≤ 0 + 1000 + 1000 := app_le z0 hz
    have b0 : (2000 : Nat) ≤ sizeLine := by rw [sizeLine_eq]; decide
    refine wpAny_JoinedStr ?_
    refine wpAny_Constant_str ⟨c, _, rfl, Nat.le_trans z0 (Nat.le_trans (by decide) b0), ?_⟩
    refine part_r (sc := scope1 f) hF.kf rfl hF.dbg he (s := { s with toks := s.toks + 1 }) hn hv (Nat.le_trans hz (Nat.le_trans (by decide) b0)) fun tk n => ⟨_, _, rfl, Nat.le_trans z1 b0, ?_⟩
    exact ⟨Nat.le_trans z1 b0, h _ _ _⟩
/-- f'c{f}' of an int -/
theorem msg_ci {i : Int} {t : Tok} {c : Str} {p q p1 p2 : Pos} {k : Nat} (hF : Fld f) (hc : c.length ≤ 1000) (hz : i.natAbs.log2 < 1920) (hs : (toString i : Str).length ≤ 1000) : Msg (.JoinedStr [.Constant (.str c) k p1, .FormattedValue (.Name f p) (-1) none q] p2) f (.int i t) (scope1 f) where
  call := fun env a b c' d e => ⟨_, call_eq e rfl⟩
  star := fun env => rfl
  swap := fun _ _ _ _ _ _ => rfl
  text := fun prog w A E env s m Q he hn hv h => by
    have z0 : (Str.empty ++ c).length ≤ 0 + 1000 := app_le (Nat.le_refl _) hc
    have z1 : (Str.empty ++ c ++ (toString i : Str)).length ≤ 0 + 1000 + 1000 := app_le z0 hs
    have b0 : (2000 : Nat) ≤ sizeLine := by rw [sizeLine_eq]; decide
    refine wpAny_JoinedStr ?_
    refine wpAny_Constant_str ⟨c, _, rfl, Nat.le_trans z0 (Nat.le_trans (by decide) b0), ?_⟩
    refine part_i (sc := scope1 f) hF.kf rfl hF.dbg he (s := { s with toks := s.toks + 1 }) hn hv hz fun tk n => ⟨_, _, rfl, Nat.le_trans z1 b0, ?_⟩
    exact ⟨Nat.le_trans z1 b0, h _ _ _⟩
/-- f'{f}c' of a text -/
theorem msg_sc {y : Str} {t : Tok} {c : Str} {p q p1 p2 : Pos} {k : Nat} (hF : Fld f) (hc : c.length ≤ 1000) (hz : y.length ≤ 1000) : Msg (.JoinedStr [.FormattedValue (.Name f p) (-1) none q, .Constant (.str c) k p1] p2) f (.str y t) (scope1 f) where
  call := fun env a b c' d e => ⟨_, call_eq e rfl⟩
  star := fun env => rfl
  swap := fun _ _ _ _ _ _ => rfl
  text := fun prog w A E env s m Q he hn hv h => by
    have z0 : (Str.empty ++ y).length ≤ 0 + 1000 := app_le (Nat.le_refl _) hz
    have z1 : (Str.empty ++ y ++ c).length ≤ 0 + 1000 + 1000 := app_le z0 hc
    have b0 : (2000 : Nat) ≤ sizeLine := by rw [sizeLine_eq]; decide
    refine wpAny_JoinedStr ?_
    refine part_s (sc := scope1 f) hF.kf rfl hF.dbg he hn hv (Nat.le_trans hz (Nat.le_trans (by decide) b0)) fun tk n => ⟨_, _, rfl, Nat.le_trans z0 (Nat.le_trans (by decide) b0), ?_⟩
    refine wpAny_Constant_str ⟨c, _, rfl, Nat.le_trans z1 b0, ?_⟩
    exact ⟨Nat.le_trans z1 b0, h _ _ _⟩
end
end Er

namespace L2
open PySem PySem.Spec PyProof.Rows Er
/-- isinstance(e, c), e the error that the suite holds, with a dict of its own -/
def rIsF (K : PySem.W.Frag) (D a : Addr) (cls : Value) (dd : Option Addr) : List V → Hp → VK → Prop := fun xs H Q => cls = .ref D ∧ ∃ (c : V) (cv : Value) (b : Bool), xs = [.ref a, c] ∧ (∀ u, RelV c u → u = cv) ∧ (∀ dx, dd = some dx → ∃ fs, H dx = some (.xd fs)) ∧ PySem.W.kitOne K (.ref D) cv = some b ∧ Q (.bl b) H
theorem call_isF {X : Cx} {a D : Addr} {cls : Value} {dd : Option Addr} {oe : Obj} {pn : List (Addr × Obj)} (C : ExcC X.K D) (hz : Zc cls dd oe) (hf : ∃ vs, oe.data = .fields vs) : CallR (X.suite a ((a, oe) :: pn)) (.builtin "isinstance") (rIsF X.K D a cls dd) := by
  intro pins s σ H xs us Q I r h
  obtain ⟨ecls, c, cv, b, rfl, hcv, hdd, e, q⟩ := h
  subst ecls
  cases r with
  | cons rx rr =>
    cases rr with
    | cons rt rr =>
      cases rr
      cases rx
      have ec := hcv _ rt
      subst ec
      obtain ⟨hget, _⟩ := I.pin (a, oe) (List.mem_append.mpr (.inl List.mem_cons_self))
      obtain ⟨vs, hv⟩ := hf
      have hcl : (PySem.W.clsIn X.K D).isSome = true := by
        obtain ⟨cd, hc, _⟩ := PySem.W.any_some C.hd
        rw [hc]
        rfl
      have J : ∃ od, PySem.W.InstAt s.heap a oe D od := by
        obtain ⟨oc, od, oda, osl⟩ := oe
        obtain ⟨h1, h2⟩ := hz
        dsimp only at h1 h2 hv
        subst h1 h2 hv
        cases od with
        | none => exact ⟨none, hget, rfl, rfl, trivial⟩
        | some dx =>
          obtain ⟨fs, hx⟩ := hdd dx rfl
          have ok : ObjOk X.prog X.w H s.heap dx (.xd fs) := I.hok dx _ hx
          obtain ⟨mA, hns, hr⟩ := ok
          obtain ⟨od, ho, hl⟩ := lookIn_ns hns
          exact ⟨some od, hget, rfl, rfl, ho⟩
      obtain ⟨od, J⟩ := J
      exact PySem.W.kia_one (PySem.W.kitx_exc hcl C.hg C.hk C.hs C.ha C.hn C.ht C.hm) I.kIn J e (fun z => nomatch z) fun tk => ⟨.bl b, H, I.kept (t' := tk) fun _ _ z => z, rfl, q⟩
theorem relO_f1 {v : V} {v' : Value} (r : RelV v v') (f g : Str) : RelO (List.lookup g [(f, v)]) (if g = f then some v' else none) := by
  by_cases hw : g = f
  · rw [if_pos hw, hw]
    have q : List.lookup f [(f, v)] = some v := by simp [List.lookup]
    rw [q]
    exact r
  · rw [if_neg hw]
    have qw : (g == f) = false := by simpa using hw
    have q2 : List.lookup g [(f, v)] = none := by simp [List.lookup, qw]
    rw [q2]
    trivial
section
variable {X : Cx} {C fI : Addr} {nm f : Str} {me : Expr} {p1 p2 a b c d e a' b' c' d' : Pos}
def tMk1 (C : Addr) (f : Str) (me : Expr) (ta : TA) : St → Hp → XK → Prop := fun σ H Q => ta σ H fun vs H1 => ∃ v, vs = [v] ∧ (∀ u, RelV v u → Msg me f u (scope1 f)) ∧ ∀ d, H1 d = none → Q (.ref C) (some d) (upd H1 d (.xd [(f, v)]))
theorem pmk1 {x : Expr} {ta : TA} {p pos : Pos} {k : Nat} (T : Cls1 X.prog X.K X.mg nm C fI (args1 f p1 p2) [supS me a b c d e, keepS f a' b' c' d'] (scope1 f)) (hcdp : (c.endLine == d.line) = true) (hF : Fld f) (noN : PySem.W.findIn X.K (.ref C) f = some none) (hr : Room k X.A) (ha : PA X [x] ta) (hg : Gl X nm) (hdb : (nm == ("__debug__" : Str)) = false)
    (he : starEach (x :: []) X.env = (false, eval x X.env) :: starEach [] X.env := by rfl) (hpl : (backTo pos (starEach [] X.env)).any (·.1) = false := by rfl) :
    L2N.PMk X (.Call (.Name nm p) [x] [] pos) (tMk1 C f me ta) := by
  intro pins s σ H Q I h
  refine wpAny_Call_Name_kw (ld_glob I hg T.gC ?_ hdb)
  refine PySem.W.callWith_K (h₀ := X.base) I.ok.mod.kin T.kC (thn (ha.run pos pins s σ H _ I h) fun us s1 hh => ?_) he hpl
  obtain ⟨vs, H1, I1, r1, v, ev, hM, q1⟩ := hh
  subst ev
  refine ⟨I1.kIn, ?_⟩
  cases r1 with
  | cons rv rn =>
    rename_i v' us'
    cases rn
    show wpAny _ _ (call (.ref C) [v']) _ _ _
    have hlim := I1.nolimit
    obtain ⟨mb, hb1, hb2⟩ := I1.mod.blt
    have hgl := I1.mod.glob.keeps I1.bk
    have hbl := hb1.keeps I1.bk
    obtain ⟨hp, g, dr, tk, os⟩ := s1
    refine wpAny_call (made1 (mb := mb) T I1.kIn hgl hbl hb2 hlim (by have := hr.dp; omega) (hM v' rv) hcdp hF noN fun h' tk' e d M => ?_)
    show L2N.MkP X pins σ Q (.ref e) ⟨h', g, dr, tk', os⟩
    obtain ⟨oe, fv, hoe, hc, hd, hdat, h1, h2⟩ := M.obj
    have hz : L2N.Zn (.ref C) _ oe := ⟨hc, hd, fun vs' e' => by
      rw [hdat] at e'
      cases e'
      exact h2⟩
    have hns := M.ns
    obtain ⟨G', g1, g2⟩ := restrict h' fun b => decide (b ≠ e)
    have gk : ∀ b, b ≠ e → G'.get? b = h'.get? b := fun b hb => g1 b (decide_eq_true hb)
    have ge : G'.get? e = none := g2 e (by simp)
    have old : ∀ b o, hp.get? b = some o → G'.get? b = some o := fun b o q => (gk b (Nat.ne_of_lt (Nat.lt_of_lt_of_le (Heap.lt_size q) M.new))).trans (M.keep b o q)
    have ob : ObjOk X.prog X.w (upd H1 d (.xd [(f, v)])) G' d (.xd [(f, v)]) :=
      ⟨_, hns.at (fun o q => (gk d M.ne).trans q), fun g => relO_f1 rv f g⟩
    have J : Inv X pins σ (upd H1 d (.xd [(f, v)])) ⟨G', g, dr, tk', os⟩ := I1.laid (t' := tk') old M.big ob
    refine ⟨e, oe, fv, ⟨G', g, dr, tk', os⟩, _, .ref C, some d, rfl, J, fun b o q => ?_, ge, hoe, hz, hdat, h1, ?_, rfl, I1.bare, raises_own T.exC T.tyC, q1 d (I1.hok.fresh M.big)⟩
    · by_cases hb : b = e
      · have q' : G'.get? b = some o := q
        rw [hb, ge] at q'
        cases q'
      · exact (gk b hb).symm.trans q
    · rw [upd_ne (Ne.symm M.ne)]
      exact I1.hok.fresh M.new
def tMk0 (C : Addr) : St → Hp → XK → Prop := fun σ H Q => Q (.ref C) none H
theorem pmk0 {p pos : Pos} {k : Nat} (T : Cls1 X.prog X.K X.mg nm C fI (args0 p1) [supS me a b c d e] scope0) (hM : ∀ x : Addr, Msg me "self" (.ref x) scope0) (hcdp : (c.endLine == d.line) = true) (hr : Room k X.A) (hg : Gl X nm) (hdb : (nm == ("__debug__" : Str)) = false) :
    L2N.PMk X (.Call (.Name nm p) [] [] pos) (tMk0 C) := by
  intro pins s σ H Q I h
  refine wpAny_Call_Name_kw (ld_glob I hg T.gC ?_ hdb)
  refine PySem.W.callWith_K0 I.kIn T.kC ?_
  show wpAny _ _ (call (.ref C) []) _ _ _
  have hlim := I.nolimit
  obtain ⟨mb, hb1, hb2⟩ := I.mod.blt
  have hgl := I.mod.glob.keeps I.bk
  have hbl := hb1.keeps I.bk
  obtain ⟨hp, g, dr, tk, os⟩ := s
  refine wpAny_call (made0 (mb := mb) T I.kIn hgl hbl hb2 hlim (by have := hr.dp; omega) hM hcdp fun h' tk' e M => ?_)
  show L2N.MkP X pins σ Q (.ref e) ⟨h', g, dr, tk', os⟩
  obtain ⟨oe, fv, hoe, hc, hd, hdat, h1, h2⟩ := M.obj
  have hz : L2N.Zn (.ref C) _ oe := ⟨hc, hd, fun vs' e' => by
    rw [hdat] at e'
    cases e'
    exact h2⟩
  exact ⟨e, oe, fv, ⟨hp, g, dr, tk, os⟩, H, .ref C, none, rfl, I, M.keep, (by
    cases z : hp.get? e with
    | none => rfl
    | some o => exact absurd (Nat.lt_of_lt_of_le (Heap.lt_size z) M.new) (Nat.lt_irrefl _)), hoe, hz, hdat, h1, I.hok.fresh M.new, rfl, I.bare, raises_own T.exC T.tyC, h⟩
/-- e.f, e the error that the suite holds (at a0; its class cls, its dict dd) -/
def tByF (C : Addr) (a0 : Addr) (cls : Value) (dd : Option Addr) (f : Str) (te : TE) : TE := fun σ H Q => te σ H fun x H1 => x = .ref a0 ∧ cls = .ref C ∧ ∃ (dx : Addr) (v : V), dd = some dx ∧ H1 dx = some (.xd [(f, v)]) ∧ Q v H1
theorem pe_byF {pars : Arguments} {body : List Stmt} {sc : Scope} {a0 : Addr} {oe : Obj} {cls : Value} {dd : Option Addr} {pn : List (Addr × Obj)} {x : Expr} {te : TE} {pos : Pos} (T : Cls1 X.prog X.K X.mg nm C fI pars body sc) (noN : PySem.W.findIn X.K (.ref C) f = some none) (hz : Zc cls dd oe) (hf : ∃ vs, oe.data = .fields vs) (he : PE (X.suite a0 ((a0, oe) :: pn)) x te)
    (hb : attributeBase x f X.env (eval x X.env) = eval x X.env := by rfl) :
    PE (X.suite a0 ((a0, oe) :: pn)) (.Attribute x f pos) (tByF C a0 cls dd f te) := by
  refine ⟨fun pins s σ H Q I h => ?_⟩
  refine attr_of hb (thn (he.run pins s σ H _ I h) fun u s1 hh => ?_)
  obtain ⟨x, H1, I1, rx, ex, ec, dx, v, ed, ea, q⟩ := hh
  subst ex
  obtain rfl : u = Value.ref a0 := rx
  subst ec
  subst ed
  obtain ⟨ha, _⟩ := I1.pin (a0, oe) (List.mem_append_left _ List.mem_cons_self)
  obtain ⟨vs, hd⟩ := hf
  have hx : ObjOk X.prog X.w H1 s1.heap dx (.xd [(f, v)]) := I1.hok dx _ ea
  obtain ⟨mA, hns, hr⟩ := hx
  obtain ⟨od, ho, hl⟩ := lookIn_ns hns
  have l : List.lookup f [(f, v)] = some v := by simp [List.lookup]
  obtain ⟨u, hu, ru⟩ := RelO.some_of (v := v) (o := mA f) (by rw [← l]; exact hr f)
  have J : PySem.W.InstAt s1.heap a0 oe C (some od) := ⟨ha, hz.1, by unfold PySem.W.notCls; rw [hd] <;> rfl, by rw [hz.2]; exact ho⟩
  exact HandSPX.exc_get I1.kIn J T.ga T.gg T.exC (PySem.W.findObj_own T.hdC noN rfl (by rw [hl, hu])) (handed_of ru) ⟨v, H1, I1.tok _, ru, q⟩
end

/-! ### defs that let out errors whose context is None; defs called within an except suite -/
section
variable {P : Program} {w : World} {K : PySem.W.Frag} {mg : Str → Option Value} {base : Heap}
theorem Fun.okN {x qual : Str} {st : Stmt} {f : Addr} {fd : FuncData} {N ps : List Str} {k : Nat} {sp : Sp} (F : Fun K x qual st f fd) (S : FnScope N ps (defScope st)) (len : ∀ vs H Q E, sp vs H Q E → vs.length = ps.length)
    (hbody : ∀ (cdv : Value) (A : Around) (outer : List Env) (s : Shared) (H : Hp) (vs : List V) (Q : VK) (E : XK), Room k (A.deeper (envOfC qual (defScope st) s.heap.objs.size f cdv)) → sp vs H Q E →
      ∃ t, PSs (cxOf (L2N.CX P w) P w K mg base N qual (defScope st) f cdv A outer s H E) (defBody st) t ∧ t { nx := fun _ H' => Q .non H', rt := Q } (start N vs) H) : FnOk P w K mg base (L2N.CX P w) (k + 1) f fd ps sp := by
  obtain ⟨oc, od, kV, doc, pm, an, cdv, ct, osl, rfl, lk, hcd⟩ := F.ex
  exact fn_of lk hcd S len fun A outer s H vs Q E hr hsp => hbody cdv A outer s H vs Q E hr hsp
theorem Fun.okH {CX : CXT} {x qual : Str} {st : Stmt} {f : Addr} {fd : FuncData} {N ps : List Str} {k : Nat} {sp : Sp} (F : Fun K x qual st f fd) (S : FnScope N ps (defScope st)) (len : ∀ vs H Q E, sp vs H Q E → vs.length = ps.length)
    (hbody : ∀ (cdv : Value) (A : Around) (outer : List Env) (s : Shared) (H : Hp) (vs : List V) (Q : VK) (E : XK) (p : Addr × Obj), L2H.Hot1 A p → L2H.RoomH k (A.deeper (envOfC qual (defScope st) s.heap.objs.size f cdv)) → sp vs H Q E →
      ∃ t, PSs (L2H.cxH CX P w K mg base N qual (defScope st) f cdv A outer s H E p) (defBody st) t ∧ t { nx := fun _ H' => Q .non H', rt := Q } (start N vs) H) : L2H.FnH P w K mg base CX (k + 1) f fd ps sp := by
  obtain ⟨oc, od, kV, doc, pm, an, cdv, ct, osl, rfl, lk, hcd⟩ := F.ex
  exact L2H.fn_ofH lk hcd S len fun A outer s H vs Q E p hot hr hsp => hbody cdv A outer s H vs Q E p hot hr hsp
end
section
variable {X : Cx}
/-- of a callee that raises nothing here -/
theorem passN : Passes (L2N.CX X.prog X.w) X E0 := fun _ _ _ _ _ _ _ h => by
  obtain ⟨_, _, _, _, _, _, _, _, _, _, _, _, z⟩ := h
  exact z.elim
theorem takes0N : L2N.Takes X (fun _ _ _ _ => False) := fun _ _ x => by
  obtain ⟨_, _, _, _, _, _, _, _, _, _, _, _, _, _, _, _, z⟩ := x
  exact z.elim
theorem pass0H {E : St → XK} : ∀ σ, PassesAt CX0 X σ (E σ) := fun _ _ _ _ _ _ _ h => h.elim
theorem hot_suite {a : Addr} {oe : Obj} {cls : Value} {d : Option Addr} {pn : List (Addr × Obj)} (hz : L2N.Zn cls d oe) (hf : ∃ vs, oe.data = .fields vs) : L2H.HotC (X.suite a ((a, oe) :: pn)) := by
  obtain ⟨vs, hv⟩ := hf
  exact ⟨(a, oe), ⟨rfl, vs, hv, hz.2.2 vs hv⟩, List.mem_cons_self⟩
theorem room_suite {k : Nat} {a : Addr} {pn : List (Addr × Obj)} (r : Room k X.A) : L2H.RoomH k (X.suite a pn).A := ⟨r.dp, r.un⟩
end
end L2

/-! Own objects: str(o) by the class's own __str__; // by any divisor other than zero; errors of a call in a try body whatever the slots hold. -/
namespace L2
open PySem PySem.Spec PyProof.Rows Er
section
variable {X : Cx}
/-- the same place, n units further in -/
theorem Inv.in1 {pins : List (Addr × Obj)} {σ : St} {H : Hp} {s : Shared} (I : Inv X pins σ H s) (n : Nat) : Inv { X with A := { X.A with units := n } } pins σ H s :=
  ⟨⟨I.ok.mod, I.ok.kind, I.ok.glob, I.ok.blt, I.ok.above, I.ok.inj, I.ok.has, I.ok.cab, I.ok.hd, I.ok.frames, I.ok.stk, I.ok.exf, I.ok.bs, I.ok.bsz, I.ok.noex, I.ok.exfs, I.ok.funs, I.ok.frf⟩,
    I.os, I.bare, I.base, I.loc, I.cell, I.free, I.freeC, I.pin, I.hok, I.len⟩
theorem Inv.out1 {pins : List (Addr × Obj)} {σ : St} {H : Hp} {s : Shared} {n : Nat} (I : Inv { X with A := { X.A with units := n } } pins σ H s) : Inv X pins σ H s :=
  ⟨⟨I.ok.mod, I.ok.kind, I.ok.glob, I.ok.blt, I.ok.above, I.ok.inj, I.ok.has, I.ok.cab, I.ok.hd, I.ok.frames, I.ok.stk, I.ok.exf, I.ok.bs, I.ok.bsz, I.ok.noex, I.ok.exfs, I.ok.funs, I.ok.frf⟩,
    I.os, I.bare, I.base, I.loc, I.cell, I.free, I.freeC, I.pin, I.hok, I.len⟩
theorem inst_of {pins : List (Addr × Obj)} {σ : St} {H : Hp} {s : Shared} (I : Inv X pins σ H s) {a C dx : Addr} {fs : List (Str × V)} (h : H a = some (.ins C dx fs)) : ∃ ox od, PySem.W.InstAt s.heap a ox C od := by
  obtain ⟨mA, O, _, _, _, _⟩ := ins_get I.hok h
  obtain ⟨od, ho, _⟩ := lookIn_ns O.ns
  exact ⟨_, some od, O.obj, rfl, rfl, ho⟩
/-- str(o), o of the class C with its own __str__ -/
def rStrO (C : Addr) (sp : Sp) (E : XK) : List V → Hp → VK → Prop := fun xs H Q => ∃ a dx fs, xs = [.ref a] ∧ H a = some (.ins C dx fs) ∧ sp [.ref a] H (fun v H' => ∃ z, v = .str z ∧ Q v H') E
theorem call_strO {CX : CXT} {k : Nat} {C g : Addr} {fd : FuncData} {sp : Sp} {E : XK} (hf : PySem.W.findIn X.K (.ref C) "__str__" = some (some (.ref g))) (hi : PySem.W.isFn X.K (.ref g) = true)
    (F : FnOk X.prog X.w X.K X.mg X.base CX k g fd ["self"] sp) (hr : Room (k + 1) X.A) (b : Binds X.K fd ["self"] []) (hx : Passes CX X E) : CallR X (.type "str") (rStrO C sp E) := by
  intro pins s σ H xs us Q I r h
  obtain ⟨a, dx, fs, rfl, ha, h⟩ := h
  cases r with
  | cons rx rr =>
    cases rr
    cases rx
    obtain ⟨ox, od, J⟩ := inst_of I ha
    have hu := hr.un
    refine PySem.W.kso_call (by show X.A.units + 1 + 1 < cLine; omega) I.kIn J hf hi ?_
    have hr' : Room k ({ X.A with units := X.A.units + 1 + 1 } : Around) := ⟨hr.hd, by have := hr.dp; show X.A.depth + 3 * k + 5 < _; omega, by show X.A.units + 1 + 1 + 16 * k + 200 < cLine; omega⟩
    have z := run_fn (X := { X with A := { X.A with units := X.A.units + 1 + 1 } }) (CX := CX) (Q := fun v H' => ∃ z, v = .str z ∧ Q v H') (vs := [.ref a]) (us := [.ref a]) F hr' b .nil (fun pins σ H s e s' I' h' => hx pins σ H s e s' I'.out1 h') (I.in1 _) (.cons rfl .nil) h
    refine thn z fun u s1 hh => ?_
    obtain ⟨v, H1, I1, rv, y, ev, q⟩ := hh
    subst ev
    obtain ⟨tk, rfl⟩ := rv
    exact ⟨.str y, H1, I1.out1, ⟨tk, rfl⟩, q⟩
/-- i // j, j any int other than zero -/
def CDivX : Int → Int → Prop := fun _ j => j ≠ 0 ∧ j.natAbs.log2 < 9000
theorem op_fdivX : OpR X (binaryOp .FloorDiv) (rI CDivX fun i j => .int (i.fdiv j)) := by
  intro pins s σ H x y v u Q I rv ru h
  obtain ⟨i, j, rfl, rfl, ⟨h0, h9⟩, q⟩ := h
  obtain ⟨_, rfl⟩ := rv
  obtain ⟨_, rfl⟩ := ru
  exact floordiv_int (Q := EP X pins σ Q) h0 ⟨V.int (i.fdiv j), H, I.tok _, ⟨_, rfl⟩, q⟩ (.inl (PyProof.noPylong_of_log2 h9))
theorem FunD.bindsF {K : PySem.W.Frag} {x qual : Str} {params : Arguments} {body : List Stmt} {scope : Scope} {dvs : List V} {kws : List (Str × V)} {f : Addr} {fd : FuncData} {ps : List Str} (F : FunD K x qual params body scope dvs kws f fd) (h : dvs ≠ [])
    (hb : ∀ (T : Addr) (kV doc pm : Value) (an : Option Addr) (cdv ct : Value) (us its : List Value), us.length = ps.length → its.length = dvs.length → ∃ k, bindArgs (PySem.W.fnOf x qual params body scope (Value.ref T) kV doc pm an cdv ct) { pos := us } = seqItems? (Value.ref T) >>= k ∧ k (some its.toArray) = pure (ps.zip us)) : Binds K fd ps [] := by
  obtain ⟨ds, hv, hd⟩ := F.binds1 (ps := ps) ps.length dvs.length h (by omega) fun T kV doc pm an cdv ct us its hu hi => by
    have z := hb T kV doc pm an cdv ct us its hu hi
    rw [show List.drop dvs.length its = [] from List.drop_eq_nil_of_le (by omega), List.append_nil]
    exact z
  rw [List.drop_eq_nil_of_le (Nat.le_refl _)] at hv
  cases hv
  exact hd
/-- an error of a call in a try body, whatever the slots hold then -/
theorem passLen {W : WX} (tk : L2N.Takes X W) : Passes (L2N.CX X.prog X.w) X (fun cls d H => ∀ σ : St, σ.length = X.N.length → W cls d σ H) := fun pins σ H s e s' I c => by
  refine L2N.passAt tk σ pins H s e s' I ?_
  obtain ⟨a, B, H', cls, d, h1, h2, h3, h4, h5, h6, h7, h8⟩ := c
  exact ⟨a, B, H', cls, d, h1, h2, h3, h4, h5, h6, h7, h8 σ I.len⟩
end
end L2

/-! A static method called by its class's name; a display whose first item is a written text and more (so that a token is out behind it). -/
namespace L2
open PySem PySem.Spec PyProof.Rows Er
/-- C.m is a static method: its record at p, its def at g -/
structure SMet (K : PySem.W.Frag) (C : Addr) (mc : Value) (m : Str) (p g : Addr) : Prop where
  rd : PySem.W.readsIn K C mc = true
  ga : PySem.W.specialIn K (.ref C) "__getattribute__" = some (some (.builtin "type.__getattribute__"))
  at_ : PySem.W.findCls K (.ref C) mc m = some (.get (.builtin "staticmethod.__get__") (.ref p) .none (.ref C))
  rc : ∃ rest, PySem.W.recIn K p "staticmethod" = some (.ref g :: rest)
  kp : PySem.W.keepIn K (.ref g) = true
/-- C.m(..), C the class at C0, m a static method -/
def tSMeth (C : Addr) (sp : Sp) (E : XK) (ta : TE) (t : TA) : TE := fun σ H Q => ta σ H fun x H1 => x = .ref C ∧ t σ H1 fun vs H2 => sp vs H2 Q E
section
variable {X : Cx} {CX : CXT} {k : Nat} {C p g : Addr} {mc : Value} {sp : Sp} {E : XK} {o e : Expr} {es : List Expr} {m : Str} {pos apos : Pos} {ta : TE} {t : TA} {fd : FuncData} {ps : List Str} {pl : Sem Bool}
theorem pe_smeth (he : PE X o ta) (c : SMet X.K C mc m p g) (F : FnOk X.prog X.w X.K X.mg X.base CX k g fd ps sp) (hr : Room k X.A) (hb : Binds X.K fd ps []) (hx : Passes CX X E) (ha : PA X (e :: es) t)
    (hst : starEach (e :: es) X.env = (false, eval e X.env) :: starEach es X.env := by rfl) (hpl : (backTo pos (starEach es X.env)).any (·.1) = false := by rfl)
    (ht : eval (.Call (.Attribute o m apos) (e :: es) [] pos) X.env = (do
      let ov ← eval o X.env
      standAt apos.atName
      let (f, first) ← holding [ov] (getMethod ov m pl)
      callWith pos f first (backTo pos (starEach (e :: es) X.env)) (backToKw pos (keywordEach [] X.env))) := by rfl) :
    PE X (.Call (.Attribute o m apos) (e :: es) [] pos) (tSMeth C sp E ta t) := by
  refine ⟨?_⟩
  intro pins s σ H Q I h
  refine PySem.W.methodCall_KW (pl := pl) (thn (he.run pins s σ H _ I h) ?_) ht
  intro u s1 hh
  obtain ⟨x, H1, I1, rx, ex, q⟩ := hh
  subst ex
  obtain rfl : u = Value.ref C := rx
  obtain ⟨rest, hp⟩ := c.rc
  refine PySem.W.method_cls I1.kIn c.ga ?_
  refine PySem.W.cls_bind I1.kIn c.rd c.at_ ?_
  refine wpAny_call (PySem.W.sm_get (s := { s1 with toks := s1.toks + 1 }) I1.kIn hp (PySem.W.handed_on rfl ?_))
  have I2 := I1.tok (s1.toks + 1)
  refine PySem.W.callWith_K (first := []) (h₀ := X.base) I.ok.mod.kin c.kp (thn (ha.run pos pins _ σ H1 _ I2 q) ?_) hst hpl
  intro us s2 h2
  obtain ⟨vs, H2, I3, r, q2⟩ := h2
  exact ⟨I3.kIn, run_fn (dvs := []) F hr hb .nil hx I3 r (by rw [List.append_nil]; exact q2)⟩
/-- the same, what is raised wished for at the caller's slots -/
def tSMethS (C : Addr) (sp : Sp) (E : St → XK) (ta : TE) (t : TA) : TE := fun σ H Q => ta σ H fun x H1 => x = .ref C ∧ t σ H1 fun vs H2 => sp vs H2 Q (E σ)
theorem pe_smethS {ES : St → XK} (he : PE X o ta) (c : SMet X.K C mc m p g) (F : FnOk X.prog X.w X.K X.mg X.base CX k g fd ps sp) (hr : Room k X.A) (hb : Binds X.K fd ps []) (hx : ∀ σ, PassesAt CX X σ (ES σ)) (ha : PA X (e :: es) t)
    (hst : starEach (e :: es) X.env = (false, eval e X.env) :: starEach es X.env := by rfl) (hpl : (backTo pos (starEach es X.env)).any (·.1) = false := by rfl)
    (ht : eval (.Call (.Attribute o m apos) (e :: es) [] pos) X.env = (do
      let ov ← eval o X.env
      standAt apos.atName
      let (f, first) ← holding [ov] (getMethod ov m pl)
      callWith pos f first (backTo pos (starEach (e :: es) X.env)) (backToKw pos (keywordEach [] X.env))) := by rfl) :
    PE X (.Call (.Attribute o m apos) (e :: es) [] pos) (tSMethS C sp ES ta t) := by
  refine ⟨?_⟩
  intro pins s σ H Q I h
  refine PySem.W.methodCall_KW (pl := pl) (thn (he.run pins s σ H _ I h) ?_) ht
  intro u s1 hh
  obtain ⟨x, H1, I1, rx, ex, q⟩ := hh
  subst ex
  obtain rfl : u = Value.ref C := rx
  obtain ⟨rest, hp⟩ := c.rc
  refine PySem.W.method_cls I1.kIn c.ga ?_
  refine PySem.W.cls_bind I1.kIn c.rd c.at_ ?_
  refine wpAny_call (PySem.W.sm_get (s := { s1 with toks := s1.toks + 1 }) I1.kIn hp (PySem.W.handed_on rfl ?_))
  have I2 := I1.tok (s1.toks + 1)
  refine PySem.W.callWith_K (first := []) (h₀ := X.base) I.ok.mod.kin c.kp (thn (ha.run pos pins _ σ H1 _ I2 q) ?_) hst hpl
  intro us s2 h2
  obtain ⟨vs, H2, I3, r, q2⟩ := h2
  exact ⟨I3.kIn, run_fnSD (dvs := []) (E := ES) F hr hb .nil (hx σ) I3 r (by rw [List.append_nil]; exact q2)⟩
end
section
variable {X : Cx} {c : Str} {j : Nat} {e2 : Expr} {es : List Expr} {t2 : TE} {ta : TA} {p1 p2 : Pos} {r : R2} {op : Operator}
/-- a written text and more, then what wants a token -/
theorem pa_catT (ho : OpR X (binaryOp op) r) (h2 : PE X e2 t2) (hr : PAT X es ta)
    (hs : starEach (.BinOp (.Constant (.str c) j p1) op e2 p2 :: es) X.env = (false, eval (.BinOp (.Constant (.str c) j p1) op e2 p2) X.env) :: starEach es X.env := by rfl) : PA X (.BinOp (.Constant (.str c) j p1) op e2 p2 :: es) (tCons (tOp r (tC (.str c)) t2) ta) := by
  refine ⟨?_⟩
  intro pos pins s σ H Q I h
  rw [hs]
  show wpAny _ _ (spliced ((false, eval (.BinOp (.Constant (.str c) j p1) op e2 p2) X.env) :: backTo pos (starEach es X.env))) _ _ s
  refine Calls.spliced_cons ?_
  refine wpAny_BinOp (Calls.Constant_str ?_)
  have I1 := I.tok (s.toks + 1)
  refine wpAny_mono (PySem.wpAny_toks (h2.run pins { s with toks := s.toks + 1 } σ H _ I1 h)) ?_ (fun _ _ z => z.2)
  intro u s2 hh
  obtain ⟨hk, y, H2, I2, ry, q⟩ := hh
  refine wpAny_mono (PySem.wpAny_toks (ho pins s2 σ H2 (.str c) y (.str c s.toks) u _ I2 ⟨s.toks, rfl⟩ ry q)) ?_ (fun _ _ z => z.2)
  intro v s3 h3
  obtain ⟨hk3, x, H3, I3, rx, q3⟩ := h3
  have h1 : 1 ≤ s3.toks := by
    have z : s.toks + 1 ≤ s2.toks := hk
    omega
  refine thn (hr pos pins s3 σ H3 _ h1 I3 q3) ?_
  intro us s4 h4
  obtain ⟨xs, H4, I4, r4, q4⟩ := h4
  exact ⟨x :: xs, H4, I4, .cons rx r4, q4⟩
end
end L2
namespace Er
open PySem PySem.W PySem.Calls PyProof.Rows PySem.HandSPX
/-- f'c{f!r}' of a longer text -/
theorem msg_crL {f : Str} {y : Str} {t : Tok} {c : Str} {p q p1 p2 : Pos} {k : Nat} (hF : Fld f) (hc : c.length ≤ 1000) (hz : (reprText y).length ≤ 5000) : Msg (.JoinedStr [.Constant (.str c) k p1, .FormattedValue (.Name f p) 114 none q] p2) f (.str y t) (scope1 f) where
  call := fun env a b c' d e => ⟨_, call_eq e rfl⟩
  star := fun env => rfl
  swap := fun _ _ _ _ _ _ => rfl
  text := fun prog w A E env s m Q he hn hv h => by
    have z0 : (Str.empty ++ c).length ≤ 0 + 1000 := app_le (Nat.le_refl _) hc
    have z1 : (Str.empty ++ c ++ reprText y).length ≤ 0 + 1000 + 5000 := app_le z0 hz
    have b0 : (6000 : Nat) ≤ sizeLine := by rw [sizeLine_eq]; decide
    refine wpAny_JoinedStr ?_
    refine wpAny_Constant_str ⟨c, _, rfl, Nat.le_trans z0 (Nat.le_trans (by decide) b0), ?_⟩
    refine part_r (sc := scope1 f) hF.kf rfl hF.dbg he (s := { s with toks := s.toks + 1 }) hn hv (Nat.le_trans hz (Nat.le_trans (by decide) b0)) fun tk n => ⟨_, _, rfl, Nat.le_trans z1 b0, ?_⟩
    exact ⟨Nat.le_trans z1 b0, h _ _ _⟩
end Er

/-! Own operators: o + o, o + 3, 3 + o, o += .., -o, o < o, .. by the class's own methods. -/
namespace L2
open PySem PySem.Spec PyProof.Rows Er
/-- an int's own slot declines an own object -/
theorem declines {x C dx : Addr} {i : Int} {t : Tok} {name : String} {f : Int → Int → Sem PySem.Fin} : Meets (Builtin.Int.intBinary name f false { pos := [.int i t, .ref x] }) (fun A R s => s.heap.get? x = some (PySem.W.instObj C dx) ∧ R (.ok (.ret .notImplemented)) s) := by
  intro prog w A R s ⟨h, r⟩
  show wpAny _ _ (slotArgs name 1 { pos := [.int i t, .ref x] } >>= _) _ _ _
  refine wpAny_bind (wpAny_pure (a := (Value.int i t, [Value.ref x])) ?_)
  refine wpAny_bind ?_
  refine wpAny_bind (wpAny_pure (a := some i) ?_)
  refine wpAny_pure ?_
  refine wpAny_bind ?_
  refine wpAny_bind (wpAny_load h ?_)
  refine wpAny_pure ?_
  refine wpAny_bind (wpAny_rule ?_)
  exact wpAny_pure r
section
variable {prog : Program} {w : World} {A : Around} {E : Value → Shared → Prop} {s : Shared} {K : PySem.W.Frag} {x C dx f g : Addr} {ox : Obj} {od : Option Obj} {Q : Value → Shared → Prop} {i : Int} {t : Tok}
/-- the class at C stands right above object -/
def mro2 (K : PySem.W.Frag) (C : Addr) : Bool := (PySem.W.clsIn K C).any fun cd => cd.mro == [Value.ref C, Value.type "object"]
theorem mro2_cls {K : PySem.W.Frag} {C : Addr} (h : mro2 K C = true) : ∃ cd, PySem.W.clsIn K C = some cd ∧ cd.mro = [Value.ref C, Value.type "object"] := by
  unfold mro2 at h
  cases e : PySem.W.clsIn K C with
  | none =>
    rw [e] at h
    cases h
  | some cd =>
    rw [e] at h
    exact ⟨cd, rfl, eq_of_beq h⟩
/-- what the written part says of an operator nm with the class's own two methods, f on the left and g on the right -/
structure ROp (K : PySem.W.Frag) (C f g : Addr) (nm : String) : Prop where
  cls : mro2 K C = true
  l : PySem.W.findIn K (.ref C) (dunder nm) = some (some (.ref f))
  lf : PySem.W.isFn K (.ref f) = true
  r : PySem.W.findIn K (.ref C) (dunderR nm) = some (some (.ref g))
  fn : PySem.W.isFn K (.ref g) = true
  kit : PySem.W.kitCls K (.ref C) (.type "int") = some false
  kit2 : PySem.W.kitCls K (.type "int") (.ref C) = some false
  no : PySem.W.findIn K (.ref C) (dunderI nm) = some none
theorem bin1R {nm id : String} {B : Builtin} (R : ROp K C f g nm) (hs : Slot "int" (dunder nm) id) (he : entryFor table id = some B) (ha : argsOk id { pos := [.int i t, .ref x] })
    (hm : Meets (B { pos := [.int i t, .ref x] }) (fun A R s => s.heap.get? x = some (PySem.W.instObj C dx) ∧ R (.ok (.ret .notImplemented)) s))
    (hf : fillsNumberSlot (.type "int") nm = pure true) (X : K.In s.heap) (J : PySem.W.InstAt s.heap x (PySem.W.instObj C dx) C od)
    (h : wpAny (model prog w) A (call (.ref g) [.ref x, .int i t]) (PySem.W.CmpBack Q) E s) : wpAny (model prog w) A (binaryOp1 nm (.int i t) (.ref x)) (fun r s' => ∃ v, r = some v ∧ Q v s') E s := by
  obtain ⟨cd, hc, hmro⟩ := mro2_cls R.cls
  have hfl := R.l
  unfold binaryOp1
  refine wpAny_bind (wpAny_pure (a := Value.type "int") ?_)
  refine wpAny_bind (J.type _ _ _ _ (fun _ _ z => z) ?_)
  refine wpAny_bind ?_
  rw [hf]
  refine wpAny_pure ?_
  refine wpAny_bind (PySem.W.fills_K X hc hmro hfl _ _ _ _ (fun _ _ z => z) ?_)
  refine wpAny_bind ((PySem.W.kit_cls X R.kit).2.2 _ _ _ _ (fun _ _ z => z) ?_)
  refine wpAny_bind (wpAny_pure (a := false) ?_)
  refine wpAny_bind (wpAny_tryMethod_declines (T := "int") rfl hs (call_meets hs rfl he ha hm ⟨J.at_, ?_⟩))
  refine ⟨rfl, ?_⟩
  refine wpAny_bind (wpAny_mono (PySem.W.ksp_try X J R.r R.fn h) ?_ (fun _ _ z => z))
  rintro r s' ⟨v, rfl, q⟩
  refine wpAny_bind (wpAny_rule ?_)
  exact wpAny_pure ⟨v, rfl, q⟩
theorem bin1L {nm : String} {y : Addr} {oy : Obj} {ody : Option Obj} (R : ROp K C f g nm) (X : K.In s.heap) (J : PySem.W.InstAt s.heap x ox C od) (J2 : PySem.W.InstAt s.heap y oy C ody)
    (h : wpAny (model prog w) A (call (.ref f) [.ref x, .ref y]) (PySem.W.CmpBack Q) E s) : wpAny (model prog w) A (binaryOp1 nm (.ref x) (.ref y)) (fun r s' => ∃ v, r = some v ∧ Q v s') E s := by
  obtain ⟨cd, hc, hmro⟩ := mro2_cls R.cls
  unfold binaryOp1
  refine wpAny_bind (J.type _ _ _ _ (fun _ _ z => z) ?_)
  refine wpAny_bind (J2.type _ _ _ _ (fun _ _ z => z) ?_)
  refine wpAny_bind (PySem.W.fills_K X hc hmro R.l _ _ _ _ (fun _ _ z => z) ?_)
  simp only [beq_self_eq_true, if_true]
  refine wpAny_bind (wpAny_pure (a := false) ?_)
  simp only [Bool.and_false, Bool.false_and, Bool.false_eq_true, if_false]
  refine wpAny_bind (wpAny_pure (a := false) ?_)
  simp only [Bool.false_eq_true, if_false, if_true]
  refine wpAny_bind (wpAny_mono (PySem.W.ksp_try X J R.l R.lf h) ?_ (fun _ _ z => z))
  rintro r s' ⟨v, rfl, q⟩
  exact wpAny_pure ⟨v, rfl, q⟩
theorem bin1I {nm idr : String} (R : ROp K C f g nm) (hf : fillsNumberSlot (.type "int") nm = pure true) (hl : typeLookup (.type "int") (dunderR nm) = pure (some (.builtin idr))) (X : K.In s.heap) (J : PySem.W.InstAt s.heap x ox C od)
    (h : wpAny (model prog w) A (call (.ref f) [.ref x, .int i t]) (PySem.W.CmpBack Q) E s) : wpAny (model prog w) A (binaryOp1 nm (.ref x) (.int i t)) (fun r s' => ∃ v, r = some v ∧ Q v s') E s := by
  obtain ⟨cd, hc, hmro⟩ := mro2_cls R.cls
  unfold binaryOp1
  refine wpAny_bind (J.type _ _ _ _ (fun _ _ z => z) ?_)
  refine wpAny_bind (wpAny_pure (a := Value.type "int") ?_)
  refine wpAny_bind (PySem.W.fills_K X hc hmro R.l _ _ _ _ (fun _ _ z => z) ?_)
  refine wpAny_bind ?_
  rw [hf]
  refine wpAny_pure ?_
  refine wpAny_bind ((PySem.W.kit_cls X R.kit2).2.2 _ _ _ _ (fun _ _ z => z) ?_)
  refine wpAny_bind (PySem.W.ksp_inPy X R.l R.r (.inr ⟨g, rfl⟩) _ _ _ _ (fun _ _ z => z) ?_)
  refine wpAny_bind (wpAny_pure (a := false) ?_)
  refine wpAny_bind ?_
  rw [hl]
  refine wpAny_pure ?_
  refine wpAny_bind (wpAny_mono (PySem.W.ksp_try X J R.l R.lf h) ?_ (fun _ _ z => z))
  rintro r s' ⟨v, rfl, q⟩
  exact wpAny_pure ⟨v, rfl, q⟩
/-- from what binaryOp1 gives -/
theorem bin_of {op : Operator} {a b : Value} (h : wpAny (model prog w) A (binaryOp1 op.info.2 a b) (fun r s' => ∃ v, r = some v ∧ Q v s') E s) : wpAny (model prog w) A (binaryOp op a b) Q E s := by
  unfold binaryOp
  refine wpAny_holding ?_
  refine wpAny_bind (wpAny_mono h ?_ (fun _ _ z => z))
  rintro r s' ⟨v, rfl, q⟩
  exact wpAny_pure q
theorem ip_of {op : Operator} {b : Value} (hm : mro2 K C = true) (no : PySem.W.findIn K (.ref C) (dunderI op.info.2) = some none) (no2 : PySem.W.findIn K (.type "object") (dunderI op.info.2) = some none) (X : K.In s.heap) (J : PySem.W.InstAt s.heap x ox C od)
    (h : wpAny (model prog w) A (binaryOp1 op.info.2 (.ref x) b) (fun r s' => ∃ v, r = some v ∧ Q v s') E s) : wpAny (model prog w) A (inplaceOp op (.ref x) b) Q E s := by
  obtain ⟨cd, hc, hmro⟩ := mro2_cls hm
  unfold inplaceOp
  refine wpAny_holding ?_
  refine wpAny_bind (J.type _ _ _ _ (fun _ _ z => z) ?_)
  refine wpAny_bind ?_
  have fi : wpAny (model prog w) A (fillsInplaceSlot (.ref C) op.info.2 (op == .Add)) (fun r s' => r = false ∧ s' = s) E s := by
    unfold fillsInplaceSlot
    refine wpAny_bind ?_
    refine wpAny_bind (PySem.W.looks_clsIn X hc _ _ _ _ (fun _ _ z => z) ?_)
    refine wpAny_pure ?_
    rw [hmro]
    refine wpAny_bind ?_
    refine wpAny_bind (PySem.W.looks_findIn X no _ _ _ _ (fun _ _ z => z) ?_)
    refine wpAny_pure ?_
    refine wpAny_bind ?_
    refine wpAny_bind (PySem.W.looks_findIn X no2 _ _ _ _ (fun _ _ z => z) ?_)
    refine wpAny_pure ?_
    exact wpAny_pure ⟨rfl, rfl⟩
  refine wpAny_mono fi ?_ (fun _ _ z => z)
  rintro r s' ⟨rfl, rfl⟩
  refine wpAny_bind (wpAny_mono h ?_ (fun _ _ z => z))
  rintro r s' ⟨v, rfl, q⟩
  exact wpAny_pure q
end
section
variable {X : Cx}
/-- the left hand an own object (the right one another, or an int), or the left hand an int and the right one an own object, or two ints; spF: the class's own method, spR: its reflected one -/
def rBin (C : Addr) (spF spR : Sp) (E E2 : XK) (gi : Int → Int → V) : R2 := fun x y H Q =>
  (∃ a dx fs b dy gs, x = .ref a ∧ y = .ref b ∧ H a = some (.ins C dx fs) ∧ H b = some (.ins C dy gs) ∧ spF [x, y] H Q E) ∨
  (∃ a dx fs j, x = .ref a ∧ y = .int j ∧ H a = some (.ins C dx fs) ∧ spF [x, y] H Q E) ∨
  (∃ i b dy gs, x = .int i ∧ y = .ref b ∧ H b = some (.ins C dy gs) ∧ spR [y, x] H Q E2)
theorem back_of {pins : List (Addr × Obj)} {σ : St} {Q : VK} {u : Value} {s1 : Shared} (h : EP X pins σ Q u s1) : PySem.W.CmpBack (EP X pins σ Q) u s1 := by
  have h0 := h
  obtain ⟨v, H, I, r, q⟩ := h
  cases u with
  | notImplemented => cases v <;> first | (cases r; done) | (obtain ⟨_, z⟩ := r; cases z)
  | _ => exact h0
theorem inst_of' {pins : List (Addr × Obj)} {σ : St} {H : Hp} {s : Shared} (I : Inv X pins σ H s) {a C dx : Addr} {fs : List (Str × V)} (h : H a = some (.ins C dx fs)) : ∃ od, PySem.W.InstAt s.heap a (PySem.W.instObj C dx) C od := by
  obtain ⟨mA, O, _, _, _, _⟩ := ins_get I.hok h
  obtain ⟨od, ho, _⟩ := lookIn_ns O.ns
  exact ⟨some od, O.obj, rfl, rfl, ho⟩
/-- the facts of the int's side of an operator -/
structure IntOp (nm : String) : Prop where
  ok : ∃ (id idr : String) (B : Builtin), Slot "int" (dunder nm) id ∧ entryFor table id = some B ∧ (∀ a b : Value, argsOk id { pos := [a, b] }) ∧ (∀ (i : Int) (t : Tok) (x C dx : Addr), Meets (B { pos := [.int i t, .ref x] }) (fun A R s => s.heap.get? x = some (PySem.W.instObj C dx) ∧ R (.ok (.ret .notImplemented)) s)) ∧ fillsNumberSlot (.type "int") nm = pure true ∧ typeLookup (.type "int") (dunderR nm) = pure (some (.builtin idr))
variable {CX1 CX2 : CXT} {C f g : Addr} {fd gd : FuncData} {k k2 : Nat} {spF spR : Sp} {E E2 : XK} {op : Operator} {gi : Int → Int → V}
theorem bin1_own (R : ROp X.K C f g op.info.2) (IO : IntOp op.info.2) (F : FnOk X.prog X.w X.K X.mg X.base CX1 k f fd ["self", "other"] spF) (G : FnOk X.prog X.w X.K X.mg X.base CX2 k2 g gd ["self", "other"] spR) (hr : Room k X.A) (hr2 : Room k2 X.A)
    (bF : Binds X.K fd ["self", "other"] []) (bG : Binds X.K gd ["self", "other"] []) (hx : Passes CX1 X E) (hx2 : Passes CX2 X E2)
    (pins : List (Addr × Obj)) (s : Shared) (σ : St) (H : Hp) (x y : V) (v u : Value) (Q : VK) (I : Inv X pins σ H s) (rx : RelV x v) (ry : RelV y u) (h : rBin C spF spR E E2 gi x y H Q) :
    wpAny (model X.prog X.w) X.A (binaryOp1 op.info.2 v u) (fun r s' => ∃ v, r = some v ∧ EP X pins σ Q v s') X.xe s := by
  obtain ⟨id, idr, B, hs, he, ha, hm, hfl, hl⟩ := IO.ok
  rcases h with ⟨a, dx, fs, b, dy, gs, rfl, rfl, hA, hB, h⟩ | ⟨a, dx, fs, j, rfl, rfl, hA, h⟩ | ⟨i, b, dy, gs, rfl, rfl, hB, h⟩
  · cases rx
    cases ry
    obtain ⟨_, J⟩ := inst_of' I hA
    obtain ⟨_, J2⟩ := inst_of' I hB
    exact bin1L R I.kIn J J2 (wpAny_mono (run_fn (vs := [.ref a, .ref b]) (us := [.ref a, .ref b]) (dvs := []) F hr bF .nil hx I (.cons rfl (.cons rfl .nil)) h) (fun _ _ z => back_of z) (fun _ _ z => z))
  · cases rx
    obtain ⟨t, rfl⟩ := ry
    obtain ⟨_, J⟩ := inst_of' I hA
    exact bin1I R hfl hl I.kIn J (wpAny_mono (run_fn (vs := [.ref a, .int j]) (us := [.ref a, .int j t]) (dvs := []) F hr bF .nil hx I (.cons rfl (.cons ⟨t, rfl⟩ .nil)) h) (fun _ _ z => back_of z) (fun _ _ z => z))
  · obtain ⟨t, rfl⟩ := rx
    cases ry
    obtain ⟨_, J⟩ := inst_of' I hB
    exact bin1R R hs he (ha _ _) (hm _ _ _ C dy) hfl I.kIn J (wpAny_mono (run_fn (vs := [.ref b, .int i]) (us := [.ref b, .int i t]) (dvs := []) G hr2 bG .nil hx2 I (.cons rfl (.cons ⟨t, rfl⟩ .nil)) h) (fun _ _ z => back_of z) (fun _ _ z => z))
/-- the left hand an own object, the right one another or an int -/
def rBinL (C : Addr) (spF : Sp) (E : XK) : R2 := fun x y H Q =>
  (∃ a dx fs b dy gs, x = .ref a ∧ y = .ref b ∧ H a = some (.ins C dx fs) ∧ H b = some (.ins C dy gs) ∧ spF [x, y] H Q E) ∨
  (∃ a dx fs j, x = .ref a ∧ y = .int j ∧ H a = some (.ins C dx fs) ∧ spF [x, y] H Q E)
theorem op_ownL (R : ROp X.K C f g op.info.2) (IO : IntOp op.info.2) (F : FnOk X.prog X.w X.K X.mg X.base CX1 k f fd ["self", "other"] spF) (hr : Room k X.A)
    (bF : Binds X.K fd ["self", "other"] []) (hx : Passes CX1 X E) : OpR X (binaryOp op) (rBinL C spF E) := fun pins s σ H x y v u Q I rx ry h => bin_of (by
  obtain ⟨id, idr, B, hs, he, ha, hm, hfl, hl⟩ := IO.ok
  rcases h with ⟨a, dx, fs, b, dy, gs, rfl, rfl, hA, hB, h⟩ | ⟨a, dx, fs, j, rfl, rfl, hA, h⟩
  · cases rx
    cases ry
    obtain ⟨_, J⟩ := inst_of' I hA
    obtain ⟨_, J2⟩ := inst_of' I hB
    exact bin1L R I.kIn J J2 (wpAny_mono (run_fn (vs := [.ref a, .ref b]) (us := [.ref a, .ref b]) (dvs := []) F hr bF .nil hx I (.cons rfl (.cons rfl .nil)) h) (fun _ _ z => back_of z) (fun _ _ z => z))
  · cases rx
    obtain ⟨t, rfl⟩ := ry
    obtain ⟨_, J⟩ := inst_of' I hA
    exact bin1I R hfl hl I.kIn J (wpAny_mono (run_fn (vs := [.ref a, .int j]) (us := [.ref a, .int j t]) (dvs := []) F hr bF .nil hx I (.cons rfl (.cons ⟨t, rfl⟩ .nil)) h) (fun _ _ z => back_of z) (fun _ _ z => z)))
theorem op_own (R : ROp X.K C f g op.info.2) (IO : IntOp op.info.2) (F : FnOk X.prog X.w X.K X.mg X.base CX1 k f fd ["self", "other"] spF) (G : FnOk X.prog X.w X.K X.mg X.base CX2 k2 g gd ["self", "other"] spR) (hr : Room k X.A) (hr2 : Room k2 X.A)
    (bF : Binds X.K fd ["self", "other"] []) (bG : Binds X.K gd ["self", "other"] []) (hx : Passes CX1 X E) (hx2 : Passes CX2 X E2) : OpR X (binaryOp op) (rBin C spF spR E E2 gi) :=
  fun pins s σ H x y v u Q I rx ry h => bin_of (bin1_own R IO F G hr hr2 bF bG hx hx2 pins s σ H x y v u Q I rx ry h)
/-- x op= y, x an own object, without a method of its own for it -/
def rIp (C : Addr) (spF spR : Sp) (E E2 : XK) (gi : Int → Int → V) : TIp := fun x y H Q => rBin C spF spR E E2 gi x y H Q ∧ ∃ a dx fs, x = .ref a ∧ H a = some (.ins C dx fs)
theorem ip_own (R : ROp X.K C f g op.info.2) (no2 : PySem.W.findIn X.K (.type "object") (dunderI op.info.2) = some none) (IO : IntOp op.info.2) (F : FnOk X.prog X.w X.K X.mg X.base CX1 k f fd ["self", "other"] spF) (G : FnOk X.prog X.w X.K X.mg X.base CX2 k2 g gd ["self", "other"] spR) (hr : Room k X.A) (hr2 : Room k2 X.A)
    (bF : Binds X.K fd ["self", "other"] []) (bG : Binds X.K gd ["self", "other"] []) (hx : Passes CX1 X E) (hx2 : Passes CX2 X E2) : PIp X op (rIp C spF spR E E2 gi) := fun pins s σ H x y v u Q I rx ry h => by
  obtain ⟨h, a, dx, fs, rfl, hA⟩ := h
  have z := bin1_own R IO F G hr hr2 bF bG hx hx2 pins s σ H _ y v u Q I rx ry h
  cases rx
  obtain ⟨_, J⟩ := inst_of' I hA
  exact ip_of R.cls R.no no2 I.kIn J z
theorem io_add : IntOp "add" := ⟨"int.__add__", _, _, PySem.F.slot_int_add, PySem.F.entry_int_add, args_int_add, fun i t x C dx => declines, PySem.F.fills_int_add, rfl⟩
theorem io_sub : IntOp "sub" := ⟨"int.__sub__", _, _, PySem.F.slot_int_sub, PySem.F.entry_int_sub, args_int_sub, fun i t x C dx => declines, PySem.F.fills_int_sub, rfl⟩
theorem io_mul : IntOp "mul" := ⟨"int.__mul__", _, _, PySem.F.slot_int_mul, PySem.F.entry_int_mul, args_int_mul, fun i t x C dx => declines, PySem.F.fills_int_mul, rfl⟩
/-- -x, x an int or an own object -/
def rNeg (C : Addr) (sp : Sp) (E : XK) : V → Hp → VK → Prop := fun x H Q => (∃ i, x = .int i ∧ Q (.int (-i)) H) ∨ (∃ a dx fs, x = .ref a ∧ H a = some (.ins C dx fs) ∧ sp [x] H Q E)
theorem un_own {sp : Sp} {CX : CXT} (hf : PySem.W.findIn X.K (.ref C) "__neg__" = some (some (.ref f))) (hi : PySem.W.isFn X.K (.ref f) = true) (F : FnOk X.prog X.w X.K X.mg X.base CX k f fd ["self"] sp) (hr : Room k X.A) (b : Binds X.K fd ["self"] []) (hx : Passes CX X E) : UnR X (unaryOp .USub) (rNeg C sp E) := by
  intro pins s σ H x v Q I rx h
  rcases h with ⟨i, rfl, q⟩ | ⟨a, dx, fs, rfl, hA, h⟩
  · exact un_neg pins s σ H _ v Q I rx ⟨i, rfl, q⟩
  · cases rx
    obtain ⟨_, J⟩ := inst_of' I hA
    obtain ⟨m, fr⟩ := I.fr
    exact PySem.W.ksp_neg fr I.ok.mod.kin J hf hi (run_fn (vs := [.ref a]) (us := [.ref a]) (dvs := []) F hr b .nil hx I (.cons rfl .nil) h)
end
end L2

/-! Comparisons with own objects on either side; abs(o), bool(o) by the class's own methods. -/
namespace L2
open PySem PySem.Spec PyProof.Rows Er
section
variable {prog : Program} {w : World} {A : Around} {E : Value → Shared → Prop} {s : Shared} {K : PySem.W.Frag} {x C dx f g : Addr} {ox : Obj} {od : Option Obj} {Q : Value → Shared → Prop} {i : Int} {t : Tok}
/-- a comparison whose left hand is of the built-in type T and declines, the right one an own object -/
theorem cmpR {op : CmpOp} {a : Value} {T id : String} {B : Builtin} (hu : A.units < cLine) (ho : oneThing? op a (.ref x) = none) (hty : s.TypeIs a T) (hta : typeOf a = pure (.type T)) (hs : Slot T (cmpInfo op).2.1 id) (he : entryFor table id = some B) (ha : argsOk id { pos := [a, .ref x] })
    (hm : Meets (B { pos := [a, .ref x] }) (fun A R s => s.heap.get? x = some (PySem.W.instObj C dx) ∧ R (.ok (.ret .notImplemented)) s)) (X : K.In s.heap) (J : PySem.W.InstAt s.heap x (PySem.W.instObj C dx) C od)
    (kit : PySem.W.kitCls K (.ref C) (.type T) = some false) (hr : PySem.W.findIn K (.ref C) (cmpInfo op).2.2 = some (some (.ref g))) (fn : PySem.W.isFn K (.ref g) = true)
    (h : wpAny (model prog w) A (call (.ref g) [.ref x, a]) (PySem.W.CmpBack Q) E s) : wpAny (model prog w) A (richCompare op a (.ref x)) Q E s := by
  unfold richCompare
  refine wpAny_holding ?_
  refine wpAny_bind (wpAny_cRoomFor hu ?_)
  rw [ho]
  dsimp only
  refine wpAny_bind ?_
  rw [hta]
  refine wpAny_pure ?_
  refine wpAny_bind (J.type _ _ _ _ (fun _ _ z => z) ?_)
  refine wpAny_bind ((PySem.W.kit_cls X kit).2.2 _ _ _ _ (fun _ _ z => z) ?_)
  refine wpAny_bind (wpAny_tryCompare_declines hty hs (call_meets hs hty he ha hm ⟨J.at_, ?_⟩))
  refine ⟨rfl, ?_⟩
  refine wpAny_bind ?_
  refine wpAny_bind (PySem.W.ifBound_K X J hr fn (wpAny_mono h ?_ (fun _ _ z => z)))
  intro v s' q
  cases v <;> first | exact q.elim | exact wpAny_pure (wpAny_pure q)
theorem declines_lt : Meets (Builtin.«int.__lt__» { pos := [.int i t, .ref x] }) (fun A R s => s.heap.get? x = some (PySem.W.instObj C dx) ∧ R (.ok (.ret .notImplemented)) s) := by
  intro prog w A R s ⟨h, r⟩
  show wpAny _ _ (slotArgs "__lt__" 1 { pos := [.int i t, .ref x] } >>= _) _ _ _
  refine wpAny_bind (wpAny_pure (a := (Value.int i t, [Value.ref x])) ?_)
  refine wpAny_bind ?_
  refine wpAny_bind (wpAny_pure (a := some i) ?_)
  refine wpAny_pure ?_
  refine wpAny_bind ?_
  refine wpAny_bind (wpAny_load h ?_)
  refine wpAny_pure ?_
  refine wpAny_bind (wpAny_rule ?_)
  exact wpAny_pure r
theorem declines_eq : Meets (Builtin.«int.__eq__» { pos := [.int i t, .ref x] }) (fun A R s => s.heap.get? x = some (PySem.W.instObj C dx) ∧ R (.ok (.ret .notImplemented)) s) := by
  intro prog w A R s ⟨h, r⟩
  show wpAny _ _ (slotArgs "__eq__" 1 { pos := [.int i t, .ref x] } >>= _) _ _ _
  refine wpAny_bind (wpAny_pure (a := (Value.int i t, [Value.ref x])) ?_)
  refine wpAny_bind ?_
  refine wpAny_bind (wpAny_pure (a := some i) ?_)
  refine wpAny_pure ?_
  refine wpAny_bind ?_
  refine wpAny_bind (wpAny_load h ?_)
  refine wpAny_pure ?_
  refine wpAny_bind (wpAny_rule ?_)
  exact wpAny_pure r
theorem declines_le : Meets (Builtin.«int.__le__» { pos := [.int i t, .ref x] }) (fun A R s => s.heap.get? x = some (PySem.W.instObj C dx) ∧ R (.ok (.ret .notImplemented)) s) := by
  intro prog w A R s ⟨h, r⟩
  show wpAny _ _ (slotArgs "__le__" 1 { pos := [.int i t, .ref x] } >>= _) _ _ _
  refine wpAny_bind (wpAny_pure (a := (Value.int i t, [Value.ref x])) ?_)
  refine wpAny_bind ?_
  refine wpAny_bind (wpAny_pure (a := some i) ?_)
  refine wpAny_pure ?_
  refine wpAny_bind ?_
  refine wpAny_bind (wpAny_load h ?_)
  refine wpAny_pure ?_
  refine wpAny_bind (wpAny_rule ?_)
  exact wpAny_pure r
theorem declines_gt : Meets (Builtin.«int.__gt__» { pos := [.int i t, .ref x] }) (fun A R s => s.heap.get? x = some (PySem.W.instObj C dx) ∧ R (.ok (.ret .notImplemented)) s) := by
  intro prog w A R s ⟨h, r⟩
  show wpAny _ _ (slotArgs "__gt__" 1 { pos := [.int i t, .ref x] } >>= _) _ _ _
  refine wpAny_bind (wpAny_pure (a := (Value.int i t, [Value.ref x])) ?_)
  refine wpAny_bind ?_
  refine wpAny_bind (wpAny_pure (a := some i) ?_)
  refine wpAny_pure ?_
  refine wpAny_bind ?_
  refine wpAny_bind (wpAny_load h ?_)
  refine wpAny_pure ?_
  refine wpAny_bind (wpAny_rule ?_)
  exact wpAny_pure r
theorem declines_ge : Meets (Builtin.«int.__ge__» { pos := [.int i t, .ref x] }) (fun A R s => s.heap.get? x = some (PySem.W.instObj C dx) ∧ R (.ok (.ret .notImplemented)) s) := by
  intro prog w A R s ⟨h, r⟩
  show wpAny _ _ (slotArgs "__ge__" 1 { pos := [.int i t, .ref x] } >>= _) _ _ _
  refine wpAny_bind (wpAny_pure (a := (Value.int i t, [Value.ref x])) ?_)
  refine wpAny_bind ?_
  refine wpAny_bind (wpAny_pure (a := some i) ?_)
  refine wpAny_pure ?_
  refine wpAny_bind ?_
  refine wpAny_bind (wpAny_load h ?_)
  refine wpAny_pure ?_
  refine wpAny_bind (wpAny_rule ?_)
  exact wpAny_pure r
theorem declines_str {z : Str} : Meets (Builtin.«str.__eq__» { pos := [.str z t, .ref x] }) (fun A R s => s.heap.get? x = some (PySem.W.instObj C dx) ∧ R (.ok (.ret .notImplemented)) s) := by
  intro prog w A R s ⟨h, r⟩
  show wpAny _ _ (Builtin.Str.strSlot "__eq__" 1 { pos := [.str z t, .ref x] } >>= _) _ _ _
  refine wpAny_bind ?_
  refine wpAny_bind (wpAny_pure (a := (Value.str z t, [Value.ref x])) ?_)
  refine wpAny_bind (wpAny_pure (a := z) ?_)
  refine wpAny_pure ?_
  refine wpAny_bind ?_
  refine wpAny_bind (wpAny_load h ?_)
  refine wpAny_pure ?_
  refine wpAny_bind (wpAny_rule ?_)
  exact wpAny_pure r
/-- abs(o) by the class's own __abs__ -/
theorem abs_own (X : K.In s.heap) (J : PySem.W.InstAt s.heap x ox C od) (hf : PySem.W.findIn K (.ref C) "__abs__" = some (some (.ref g))) (fn : PySem.W.typeIn K (.ref g) = some (.type "function"))
    (h : wpAny (model prog w) A.in1 (call (.ref g) [.ref x]) Q E s) : wpAny (model prog w) A (call (.builtin "abs") [.ref x]) Q E s := by
  refine call_function_tree (id := "abs") (b := Builtin.abs) rfl (by decide +kernel) rfl (PyProof.Rows.args_abs _) ?_
  refine wpAny_bind (wpAny_pure (a := Value.ref x) ?_)
  refine wpAny_bind (PySem.W.special_fn X J hf fn (wpAny_mono h ?_ (fun _ _ z => z)))
  intro v s' q
  exact wpAny_pure q
/-- bool(o) by the class's own __bool__ -/
theorem bool_own (X : K.In s.heap) (J : PySem.W.InstAt s.heap x ox C od) (hf : PySem.W.findIn K (.ref C) "__bool__" = some (some (.ref g))) (fn : PySem.W.typeIn K (.ref g) = some (.type "function"))
    (h : wpAny (model prog w) A.in1.in1 (call (.ref g) [.ref x]) (fun v s' => ∃ b, v = .bool b ∧ Q (.bool b) s') E s) : wpAny (model prog w) A (call (.type "bool") [.ref x]) Q E s := by
  refine callType_newIn (T := "bool") (newId := "bool.__new__") (Bn := Builtin.«bool.__new__») (S := fun A' R s' => K.In s'.heap ∧ PySem.W.InstAt s'.heap x ox C od ∧ wpAny (model prog w) A'.in1 (call (.ref g) [.ref x]) (fun v s1 => ∃ b, v = .bool b ∧ R (.ok (.ret (.bool b))) s1) (fun e s1 => R (.error e) s1) s') PySem.F.called_bool rfl rfl (PySem.F.newCall_bool_1 _) (fun _ => PySem.F.args_object_init_2 _ _) PySem.F.entry_bool_new ?_ ⟨X, J, ?_⟩
  · intro A' R s' ⟨X', J', h'⟩
    unfold Builtin.«bool.__new__»
    refine wpAny_bind (wpAny_pure (a := true) ?_)
    refine wpAny_bind ?_
    rw [show PySem.isSubtype (.type "bool") (.type "bool") = pure true from PySem.F.called_bool.sub]
    refine wpAny_pure ?_
    refine wpAny_bind (wpAny_pure (a := [Value.ref x]) ?_)
    refine wpAny_bind ?_
    refine wpAny_bind (PySem.W.special_fn X' J' hf fn (wpAny_mono h' ?_ (fun _ _ z => z)))
    rintro v s1 ⟨b, rfl, q⟩
    refine wpAny_pure ?_
    exact wpAny_pure q
  · refine wpAny_mono h ?_ (fun _ _ z => z)
    rintro v s1 ⟨b, rfl, q⟩
    exact ⟨b, rfl, rfl, q⟩
end
/-- what the written part says of a comparison op with the class's own methods f (op itself) and g (op with the hands changed) -/
structure COp (K : PySem.W.Frag) (C f g : Addr) (op : CmpOp) : Prop where
  l : PySem.W.findIn K (.ref C) (cmpInfo op).2.1 = some (some (.ref f))
  lf : PySem.W.isFn K (.ref f) = true
  r : PySem.W.findIn K (.ref C) (cmpInfo op).2.2 = some (some (.ref g))
  fn : PySem.W.isFn K (.ref g) = true
  kit : PySem.W.kitCls K (.ref C) (.type "int") = some false
  kitS : PySem.W.kitCls K (.ref C) (.type "str") = some false
structure IntCmp (op : CmpOp) : Prop where
  rich : ∀ a b, compareOp op a b = richCompare op a b
  one : ∀ (i : Int) (t : Tok) (x : Addr), oneThing? op (.int i t) (.ref x) = none
  ok : ∃ (id : String) (B : Builtin), Slot "int" (cmpInfo op).2.1 id ∧ entryFor table id = some B ∧ (∀ a b : Value, argsOk id { pos := [a, b] }) ∧ (∀ (i : Int) (t : Tok) (x C dx : Addr), Meets (B { pos := [.int i t, .ref x] }) (fun A R s => s.heap.get? x = some (PySem.W.instObj C dx) ∧ R (.ok (.ret .notImplemented)) s))
theorem ic_eq : IntCmp .Eq := ⟨fun _ _ => rfl, fun _ _ _ => rfl, "int.__eq__", _, PySem.F.slot_int_eq, PySem.F.entry_int_eq, PySem.F.args_int_eq_2, fun _ _ _ _ _ => declines_eq⟩
theorem ic_lt : IntCmp .Lt := ⟨fun _ _ => rfl, fun _ _ _ => rfl, "int.__lt__", _, PySem.F.slot_int_lt, PySem.F.entry_int_lt, PySem.F.args_int_lt_2, fun _ _ _ _ _ => declines_lt⟩
theorem ic_le : IntCmp .LtE := ⟨fun _ _ => rfl, fun _ _ _ => rfl, "int.__le__", _, PySem.F.slot_int_le, PySem.F.entry_int_le, PySem.F.args_int_le_2, fun _ _ _ _ _ => declines_le⟩
theorem ic_gt : IntCmp .Gt := ⟨fun _ _ => rfl, fun _ _ _ => rfl, "int.__gt__", _, PySem.F.slot_int_gt, PySem.F.entry_int_gt, PySem.F.args_int_gt_2, fun _ _ _ _ _ => declines_gt⟩
theorem ic_ge : IntCmp .GtE := ⟨fun _ _ => rfl, fun _ _ _ => rfl, "int.__ge__", _, PySem.F.slot_int_ge, PySem.F.entry_int_ge, PySem.F.args_int_ge_2, fun _ _ _ _ _ => declines_ge⟩
section
variable {X : Cx} {CX CX1 CX2 : CXT} {C f g : Addr} {fd gd : FuncData} {k k2 : Nat} {spF spR : Sp} {E E2 : XK} {op : CmpOp}
/-- the left hand an own object and the right one anything whose class is known; the left hand an int and the right one an own object; for == the left hand a text -/
def rCmp (K : PySem.W.Frag) (C : Addr) (op : CmpOp) (spF spR : Sp) (E E2 : XK) : R2 := fun x y H Q =>
  (∃ a dx fs tb, x = .ref a ∧ H a = some (.ins C dx fs) ∧ TyX K H y tb ∧ PySem.W.notFirst K C tb = true ∧ spF [x, y] H Q E) ∨
  (∃ i b dy gs, x = .int i ∧ y = .ref b ∧ H b = some (.ins C dy gs) ∧ spR [y, x] H Q E2) ∨
  (∃ z b dy gs, op = .Eq ∧ x = .str z ∧ y = .ref b ∧ H b = some (.ins C dy gs) ∧ spR [y, x] H Q E2)
theorem op_cmp (R : COp X.K C f g op) (IC : IntCmp op) (hu : X.A.units < cLine) (F : FnOk X.prog X.w X.K X.mg X.base CX1 k f fd ["self", "other"] spF) (G : FnOk X.prog X.w X.K X.mg X.base CX2 k2 g gd ["self", "other"] spR) (hr : Room k X.A) (hr2 : Room k2 X.A)
    (bF : Binds X.K fd ["self", "other"] []) (bG : Binds X.K gd ["self", "other"] []) (hx : Passes CX1 X E) (hx2 : Passes CX2 X E2) : OpR X (compareOp op) (rCmp X.K C op spF spR E E2) := by
  intro pins s σ H x y v u Q I rx ry h
  rw [IC.rich]
  obtain ⟨id, B, hs, he, ha, hm⟩ := IC.ok
  rcases h with ⟨a, dx, fs, tb, rfl, hA, hT, hN, h⟩ | ⟨i, b, dy, gs, rfl, rfl, hB, h⟩ | ⟨z, b, dy, gs, rfl, rfl, rfl, hB, h⟩
  · cases rx
    obtain ⟨_, J⟩ := inst_of' I hA
    obtain ⟨P, KT, hP, _⟩ := kit_of I ry hT
    obtain ⟨m, fr⟩ := I.fr
    exact PySem.W.cmp_K hu fr I.ok.mod.kin J (KT.ty _ _ I.kIn hP) hN R.l R.lf (wpAny_mono (run_fn (vs := [.ref a, y]) (us := [.ref a, u]) (dvs := []) F hr bF .nil hx I (.cons rfl (.cons ry .nil)) h) (fun _ _ z => back_of z) (fun _ _ z => z))
  · obtain ⟨t, rfl⟩ := rx
    cases ry
    obtain ⟨_, J⟩ := inst_of' I hB
    exact cmpR hu (IC.one _ _ _) rfl rfl hs he (ha _ _) (hm _ _ _ C dy) I.kIn J R.kit R.r R.fn (wpAny_mono (run_fn (vs := [.ref b, .int i]) (us := [.ref b, .int i t]) (dvs := []) G hr2 bG .nil hx2 I (.cons rfl (.cons ⟨t, rfl⟩ .nil)) h) (fun _ _ z => back_of z) (fun _ _ z => z))
  · obtain ⟨t, rfl⟩ := rx
    cases ry
    obtain ⟨_, J⟩ := inst_of' I hB
    exact cmpR (C := C) (dx := dy) hu rfl rfl rfl PySem.F.slot_str_eq PySem.F.entry_str_eq (PySem.F.args_str_eq_2 _ _) declines_str I.kIn J R.kitS R.r R.fn (wpAny_mono (run_fn (vs := [.ref b, .str z]) (us := [.ref b, .str z t]) (dvs := []) G hr2 bG .nil hx2 I (.cons rfl (.cons ⟨t, rfl⟩ .nil)) h) (fun _ _ z => back_of z) (fun _ _ z => z))
/-- bool(o), abs(o) -/
def rBoolO (C : Addr) (sp : Sp) (E : XK) : List V → Hp → VK → Prop := fun xs H Q => ∃ a dx fs, xs = [.ref a] ∧ H a = some (.ins C dx fs) ∧ sp [.ref a] H (fun v H' => ∃ b, v = .bl b ∧ Q v H') E
theorem call_boolO {sp : Sp} (hf : PySem.W.findIn X.K (.ref C) "__bool__" = some (some (.ref g))) (hi : PySem.W.typeIn X.K (.ref g) = some (.type "function"))
    (F : FnOk X.prog X.w X.K X.mg X.base CX k g fd ["self"] sp) (hr : Room (k + 1) X.A) (b : Binds X.K fd ["self"] []) (hx : Passes CX X E) : CallR X (.type "bool") (rBoolO C sp E) := by
  intro pins s σ H xs us Q I r h
  obtain ⟨a, dx, fs, rfl, ha, h⟩ := h
  cases r with
  | cons rx rr =>
    cases rr
    cases rx
    obtain ⟨_, J⟩ := inst_of' I ha
    refine bool_own I.kIn J hf hi ?_
    have hr' : Room k ({ X.A with units := X.A.units + 1 + 1 } : Around) := ⟨hr.hd, by have := hr.dp; show X.A.depth + 3 * k + 5 < _; omega, by have := hr.un; show X.A.units + 1 + 1 + 16 * k + 200 < cLine; omega⟩
    have z := run_fn (X := { X with A := { X.A with units := X.A.units + 1 + 1 } }) (CX := CX) (Q := fun v H' => ∃ b, v = .bl b ∧ Q v H') (vs := [.ref a]) (us := [.ref a]) F hr' b .nil (fun pins σ H s e s' I' h' => hx pins σ H s e s' I'.out1 h') (I.in1 _) (.cons rfl .nil) h
    refine thn z fun u s1 hh => ?_
    obtain ⟨v, H1, I1, rv, y, ev, q⟩ := hh
    subst ev
    obtain rfl : u = Value.bool y := rv
    exact ⟨y, rfl, .bl y, H1, I1.out1, rfl, q⟩
def rAbsO (C : Addr) (sp : Sp) (E : XK) : List V → Hp → VK → Prop := fun xs H Q => ∃ a dx fs, xs = [.ref a] ∧ H a = some (.ins C dx fs) ∧ sp [.ref a] H Q E
theorem call_absO {sp : Sp} (hf : PySem.W.findIn X.K (.ref C) "__abs__" = some (some (.ref g))) (hi : PySem.W.typeIn X.K (.ref g) = some (.type "function"))
    (F : FnOk X.prog X.w X.K X.mg X.base CX k g fd ["self"] sp) (hr : Room (k + 1) X.A) (b : Binds X.K fd ["self"] []) (hx : Passes CX X E) : CallR X (.builtin "abs") (rAbsO C sp E) := by
  intro pins s σ H xs us Q I r h
  obtain ⟨a, dx, fs, rfl, ha, h⟩ := h
  cases r with
  | cons rx rr =>
    cases rr
    cases rx
    obtain ⟨_, J⟩ := inst_of' I ha
    refine abs_own I.kIn J hf hi ?_
    have hr' : Room k ({ X.A with units := X.A.units + 1 } : Around) := ⟨hr.hd, by have := hr.dp; show X.A.depth + 3 * k + 5 < _; omega, by have := hr.un; show X.A.units + 1 + 16 * k + 200 < cLine; omega⟩
    have z := run_fn (X := { X with A := { X.A with units := X.A.units + 1 } }) (CX := CX) (Q := Q) (vs := [.ref a]) (us := [.ref a]) F hr' b .nil (fun pins σ H s e s' I' h' => hx pins σ H s e s' I'.out1 h') (I.in1 _) (.cons rfl .nil) h
    refine thn z fun u s1 hh => ?_
    obtain ⟨v, H1, I1, rv, q⟩ := hh
    exact ⟨v, H1, I1.out1, rv, q⟩
end
end L2

/-! A set of texts: set(list of texts), sorted(set), len(set), in. -/
namespace L2
open PySem PySem.Spec PyProof.Rows Er PySem.Froz
abbrev newS (w : World) : Obj := { cls := .type "set", dict := none, data := .set #[] 0 (.fresh 0 0 (!w.params.followText "set-order")) }
/-- one more text -/
def put1 (l : List Str) (k : Str) : List Str := if k ∈ l then l else k :: l
def putL (xs : List Str) : List Str := xs.foldl put1 []
theorem put1_nd {l : List Str} {k : Str} (h : l.Nodup) : (put1 l k).Nodup := by
  unfold put1; split
  · exact h
  · rename_i c; exact List.nodup_cons.mpr ⟨c, h⟩
theorem put1_mem {l : List Str} {k x : Str} : x ∈ put1 l k ↔ x ∈ l ∨ x = k := by
  unfold put1; split
  · rename_i c; exact ⟨.inl, fun z => z.elim id fun e => e ▸ c⟩
  · rw [List.mem_cons]; exact Or.comm
theorem put1_len {l : List Str} {k : Str} : (put1 l k).length ≤ l.length + 1 := by
  unfold put1; split
  · omega
  · simp
theorem putL_step (xs : List Str) (k : Str) : putL (xs ++ [k]) = put1 (putL xs) k := by unfold putL; rw [List.foldl_append] <;> rfl
theorem foldl_put1 : ∀ (xs l : List Str), l.Nodup → (xs.foldl put1 l).Nodup ∧ (∀ x, x ∈ xs.foldl put1 l ↔ x ∈ l ∨ x ∈ xs) ∧ (xs.foldl put1 l).length ≤ l.length + xs.length
  | [], l, h => ⟨h, fun x => by simp, by simp⟩
  | k :: xs, l, h => by
    obtain ⟨a, b, c⟩ := foldl_put1 xs (put1 l k) (put1_nd h)
    refine ⟨a, fun x => ?_, ?_⟩
    · rw [List.foldl_cons, b x, put1_mem, List.mem_cons, or_assoc]
    · have := put1_len (l := l) (k := k)
      rw [List.foldl_cons, List.length_cons]; omega
theorem putL_nd (xs : List Str) : (putL xs).Nodup := (foldl_put1 xs [] .nil).1
theorem putL_mem {xs : List Str} {x : Str} : x ∈ putL xs ↔ x ∈ xs := by
  have h := (foldl_put1 xs [] .nil).2.1 x
  simpa [putL] using h
theorem putL_len (xs : List Str) : (putL xs).length ≤ xs.length := by
  have h := (foldl_put1 xs [] .nil).2.2
  simpa [putL] using h

structure SetS (P : Program) (w : World) (h : Heap) (a : Addr) (l : List Str) : Prop where
  it : ∃ D : SD, h.get? a = some (sObj "set" D) ∧ TxOk P w D l ∧ Ris D.2.2.place.toList ∧ (w.params.followText "set-order" = true ∨ D.2.2.led = true)
section
variable {P : Program} {w : World} {A : Around} {E : Value → Shared → Prop} {s : Shared}
theorem SetS.keep {h h' : Heap} {a : Addr} {l : List Str} (R : SetS P w h a l) (k : ∀ o, h.get? a = some o → h'.get? a = some o) : SetS P w h' a l := by
  obtain ⟨D, x, y⟩ := R.it
  exact ⟨D, k _ x, y⟩
theorem setS_new {h : Heap} {a : Addr} (ho : h.get? a = some (newS w)) : SetS P w h a [] :=
  ⟨(#[], 0, .fresh 0 0 (!w.params.followText "set-order")), ho, TxOk.nil (by rfl), List.Pairwise.nil, by
    show _ ∨ (!w.params.followText "set-order") = true
    cases w.params.followText "set-order" <;> simp⟩
theorem tail_ris {ep : Nat} {es : Array (Int × Value)} {t : SetTable} {b : Bool} (r : Ris t.place.toList) : Ris (tailTx ep es t b).2.2.place.toList := by
  unfold tailTx; split
  · exact relayAll_ris _ _ _
  · exact r
theorem tail_led {ep : Nat} {es : Array (Int × Value)} {t : SetTable} {b : Bool} : (tailTx ep es t b).2.2.led = t.led := by
  unfold tailTx; split
  · exact relayAll_led _ _ _
  · rfl
theorem add_ris {D : SD} (h : Int) (v : Value) (r : Ris D.2.2.place.toList) : Ris (addTx h v D).2.2.place.toList := by
  unfold addTx
  refine tail_ris ?_
  have z := layNew_ris D.2.2 D.1 h v r
  split <;> exact z
theorem add_led {D : SD} (h : Int) (v : Value) : (addTx h v D).2.2.led = D.2.2.led := by
  unfold addTx
  rw [tail_led]
  have z := layNew_led D.2.2 D.1 h v
  split <;> exact z
/-- a text that the set has already -/
theorem old_x {a : Addr} {D : SD} {l : List Str} {k : Str} {u : Tok} {Q : Bool → Shared → Prop} (ho : s.heap.get? a = some (sObj "set" D)) (F : TxOk P w D l) (hk : k ∈ l) (hb : l.length < scanBound)
    (h : Q false s) : wpAny (model P w) A (setAddHashed a (.str k u) (hashStr w k)) Q E s := by
  obtain ⟨es, ep, t⟩ := D
  have dat : (sObj "set" (es, ep, t)).data = .set es ep t := rfl
  have few : es.size < scanBound := by have z : es.size = l.length := F.sz; omega
  have key : (strKind P w).is k (.str k u) = true := is_str k u
  unfold setAddHashed setAddHashedIn
  apply wpAny_holding; apply wpAny_bind
  refine wpAny_setState_of ho dat F.fit ?_
  simp only [byScan_of (x := Value.str k u) rfl few F.el, ↓reduceIte]
  unfold setAddByScan
  apply wpAny_bind; apply wpAny_bind; apply wpAny_rule; apply wpAny_bind
  refine wpAny_setScan_of (knd := strKind P w) (k := k) key ho dat F.fit F.el ?_
  obtain ⟨e, he, pe⟩ := (F.mem k).mp hk
  cases hr : List.findIdx? (fun e => (strKind P w).is k e.2) es.toList with
  | none => exact absurd (List.findIdx?_eq_none_iff.mp hr e he) (by rw [pe]; decide)
  | some j => exact wpAny_pure (wpAny_pure h)
theorem setS_add {a : Addr} {l : List Str} {k : Str} {u : Tok} {Q : Bool → Shared → Prop} (R : SetS P w s.heap a l) (hb : l.length + 1 < scanBound)
    (h : ∀ h', Heap.SameBut a s.heap h' → SetS P w h' a (put1 l k) → Q (decide (k ∉ l)) { s with heap := h' }) : wpAny (model P w) A (setAddHashed a (.str k u) (hashStr w k)) Q E s := by
  obtain ⟨D, ho, F, r, d⟩ := R.it
  by_cases c : k ∈ l
  · have q := h s.heap (Heap.SameBut.refl a s.heap) (by unfold put1; rw [if_pos c]; exact R)
    rw [show decide (k ∉ l) = false from by simp [c]] at q
    exact old_x ho F c (by omega) q
  · have q := h _ (Heap.SameBut.update s.heap a _) ⟨addTx (hashStr w k) (.str k u) D, get_upd _ ho rfl, by unfold put1; rw [if_neg c]; exact add_ok u F, add_ris _ _ r, by rw [add_led]; exact d⟩
    rw [show decide (k ∉ l) = true from by simp [c]] at q
    exact add_x ho F c hb q
/-- the texts are put in one by one -/
theorem update_texts {I : Addr} {fp wr : List Addr} {G : Array GenState → Array GenState → Prop} {n : Nat} {Pv : Nat → Value → Prop} {St : Nat → Shared → Prop} {R : Result → Shared → Prop} (S : Addr) (xs : List Str)
    (W : WalksS P w A.in1 I fp wr G n Pv St) (off : S ∉ fp) (hn : n = xs.length) (room : xs.length + 1 < scanBound) (val : ∀ i v, Pv i v → ∃ k t, xs[i]? = some k ∧ v = .str k t) :
    ∀ (m i : Nat) (s : Shared), i + m = n → St i s → SetS P w s.heap S (putL (xs.take i)) → (∀ s', Moved (S :: wr) G s s' → SetS P w s'.heap S (putL xs) → R (.ok (.ret .none)) s') →
      codeAny (model P w) A (.builtin "set.update.loop" ⟨[.ref S, .ref I], []⟩) R s := by
  have offw : S ∉ wr := fun z => off (W.sub _ z)
  have wide : ∀ b ∈ wr, b ∈ S :: wr := fun b z => List.mem_cons_of_mem _ z
  intro m
  induction m with
  | zero =>
    intro i s e st hS fin
    have all : xs.take i = xs := List.take_of_length_le (by omega)
    rw [all] at hS
    apply codeAny_builtin PyProof.Rows.F.entry_set_update_loop
    rw [Around.under_plainId PyProof.Rows.F.plain_set_update_loop _]
    have en : i = n := by omega
    subst en
    exact wpAny_bind (W.done s _ _ st fun s' mv => wpAny_pure (fin s' (mv.mono wide) (hS.keep fun o z => mv.heap S o offw z)))
  | succ m ih =>
    intro i s e st hS fin
    apply codeAny_builtin PyProof.Rows.F.entry_set_update_loop
    rw [Around.under_plainId PyProof.Rows.F.plain_set_update_loop _]
    apply wpAny_bind
    refine W.item i s _ _ (by omega) st fun v s' pv st' mv => ?_
    obtain ⟨k, t, hk, rfl⟩ := val i v pv
    have hS' : SetS P w s'.heap S (putL (xs.take i)) := hS.keep fun o z => mv.heap S o offw z
    have hlen : (putL (xs.take i)).length + 1 < scanBound := by
      have z := putL_len (xs.take i)
      rw [List.length_take] at z
      omega
    have next : put1 (putL (xs.take i)) k = putL (xs.take (i + 1)) := by rw [List.take_add_one, hk, ← putL_step] <;> rfl
    show wpAny _ A.in1 (holding [Value.str k t] (setAdd S (.str k t)) >>= fun _ => again _) _ _ s'
    apply wpAny_bind; apply wpAny_holding
    unfold setAdd
    apply wpAny_holding; apply wpAny_bind
    refine (strKind P w).pyHash (k := k) (is_str k t) ?_
    refine setS_add (s := { s' with toks := s'.toks + 1 }) hS' hlen fun h' same new => ?_
    rw [next] at new
    have oth : ∀ b o, b ≠ S → s'.heap.get? b = some o → h'.get? b = some o := fun b o nb z => (same.2 b nb).trans z
    refine wpAny_pure ⟨plainId_quiet PyProof.Rows.F.plain_set_update_loop _, ih (i + 1) { s' with heap := h', toks := s'.toks + 1 } (by omega) (W.frame _ s' _ _ st' (Nat.le_succ _) fun b hb o z => oth b o (fun y => off (y ▸ hb)) z) new fun s'' mv' hS'' => ?_⟩
    exact fin s'' (Moved.trans W.gtrans ((mv.mono wide).then_heap (Nat.le_succ _) fun b o nb z => oth b o (fun y => nb (y ▸ List.mem_cons_self)) z) mv') hS''

theorem text_at : ∀ {us : List Value} {xs : List Str}, StrsAre us xs → ∀ (i : Nat) (v : Value), us[i]? = some v → ∃ k u, xs[i]? = some k ∧ v = .str k u
  | _, _, .nil, i, v, e => by simp at e
  | _, _, .cons x u r, 0, v, e => ⟨x, u, rfl, by simpa using e.symm⟩
  | _, _, .cons x u r, i + 1, v, e => by simpa using text_at r i v (by simpa using e)
theorem size_new (h : Heap) (o : Obj) : (h.push o).objs.size = h.objs.size + 1 := Heap.size_push h o
/-- set(l), l a list of texts -/
theorem set_texts {l : Addr} {its : Array Value} {xs : List Str} {Q : Value → Shared → Prop} (calm : A.handled = none) (hl : s.heap.IsList l its) (tx : StrsAre its.toList xs) (room : xs.length + 1 < scanBound)
    (h : ∀ (h' : Heap) (tk : Nat), SetS P w h' s.heap.objs.size (putL xs) → (∀ b o, s.heap.get? b = some o → h'.get? b = some o) → Q (.ref s.heap.objs.size) { s with heap := h', toks := tk }) :
    wpAny (model P w) A (call (.type "set") [.ref l]) Q E s := by
  have cnt : its.size = xs.length := by rw [← StrsAre.len_eq tx, Array.length_toList]
  obtain ⟨c, tl, order⟩ := PySem.F.called_set.mro
  have built := PySem.F.called_set.made
  have under := PySem.F.called_set.sub
  apply wpAny_call; apply codeAny_of_tree
  show wpAny _ _ (callAny (.type "set") ⟨[.ref l], []⟩) _ _ s
  refine wpAny_pure ⟨Code.quiet_builtin _ (by decide +kernel), ?_⟩
  apply codeAny_builtin PySem.F.entry_type_call
  rw [Around.under_plain (weight_type_call_type "set" [.ref l] []) rfl]
  have no := PySem.F.called_set.notType
  have may := PySem.F.called_set.canCreate
  have one := PySem.F.typeCall_set_1 (.ref l)
  repeat (any_goals (first | assumption | wp_step))
  refine codeAny_mono (code_set_led1 (.ref l) (E := E) (Q₁ := fun r s₁ => r = .ref s.heap.objs.size ∧ s₁ = { s with heap := s.heap.push (newS w) }) ⟨rfl, rfl⟩) fun r s₁ got => ?_
  match r, got with
  | .ok (.ret r), ⟨e1, e2⟩ =>
    subst e1; subst e2
    have at0 : (s.heap.push (newS w)).get? s.heap.objs.size = some (newS w) := Heap.get?_push_size _ rfl
    have kind : Shared.TypeIs { s with heap := s.heap.push (newS w) } (.ref s.heap.objs.size) "set" := ⟨_, at0, rfl⟩
    have look := PySem.F.called_set.init.lookup
    have bind := PySem.F.called_set.init.bind (.ref s.heap.objs.size)
    repeat (any_goals (first | assumption | wp_step))
    refine codeAny_mono (codeAny_call_builtin (R := wants (fun r s₂ => r = .none ∧ ∃ h' tk, s₂ = { s with heap := h', toks := tk } ∧ SetS P w h' s.heap.objs.size (putL xs) ∧ ∀ b o, s.heap.get? b = some o → h'.get? b = some o) E) PySem.F.called_set.init.plain PySem.F.entry_set_init (check_set_init_1 kind ?_)) fun r₂ s₂ got₂ => ?_
    · have far : l < s.heap.objs.size := by obtain ⟨o, z, _⟩ := hl; exact Heap.lt_size z
      have hl0 : (s.heap.push (newS w)).IsList l its := hl.push _
      obtain ⟨⟨cl, di, da, sl⟩, atl, ecl, ct, eda⟩ := hl0
      simp only at ecl eda
      subst ecl; subst eda
      have d1 := PySem.F.sub_list_set
      have d2 := PySem.F.sub_list_frozenset
      have d3 : (Value.type "list" == Value.type "dict") = false := by decide
      have hl1 : (s.heap.push (newS w)).IsList l its := ⟨_, atl, rfl, ct, rfl⟩
      unfold Builtin.«set.__init__» noKeywords Builtin.Frozenset.updateFrom
      generalize walkIt : pyIter = PW
      wp_walk
      subst walkIt
      refine wpAny_pyIter_list hl1 (wpAny_bind (wpAny_runValue ?_))
      have calm3 : A.in1.in1.in1.handled = none := by simp [calm]
      have sz := size_new s.heap (newS w)
      have n1 : l ≠ (s.heap.push (newS w)).objs.size := by rw [sz]; exact Nat.ne_of_lt (Nat.lt_succ_of_lt far)
      have n2 : s.heap.objs.size ∉ [(s.heap.push (newS w)).objs.size, l] := by
        simp only [List.mem_cons, List.not_mem_nil, or_false, not_or, sz]; exact ⟨Nat.ne_of_lt (Nat.lt_succ_self _), Nat.ne_of_gt far⟩
      refine update_texts s.heap.objs.size xs ((Walks.list calm3 _ l n1 its).toS) n2 cnt room (fun i v e => text_at tx i v (by rw [Array.getElem?_toList]; exact e)) its.size 0 _ (by omega) ⟨⟨_, Heap.get?_push_size _ rfl, rfl, rfl⟩, hl1.push _⟩
        (setS_new (Heap.get?_push_of_some _ at0)) ?_
      intro s' mv new
      obtain ⟨h', g', d', tk', o'⟩ := s'
      obtain rfl : g' = s.gens := mv.gens
      obtain rfl : d' = s.drawn := mv.drawn
      obtain rfl : o' = s.os := mv.os
      refine wpAny_pure (wpAny_pure ⟨rfl, h', tk', rfl, new, fun b o z => ?_⟩)
      have lt := Heap.lt_size z
      refine mv.heap b o ?_ (Heap.get?_push_of_some _ (Heap.get?_push_of_some _ z))
      simp only [List.mem_cons, List.not_mem_nil, or_false, not_or, sz]
      exact ⟨Nat.ne_of_lt lt, Nat.ne_of_lt (Nat.lt_succ_of_lt lt)⟩
    · match r₂, got₂ with
      | .ok (.ret r), ⟨e1, h', tk, e2, new, keep⟩ =>
        subst e1; subst e2
        repeat (any_goals (first | assumption | wp_step))
        exact h _ _ new keep
      | .error e, z => exact z
  | .error e, z => exact z
end
end L2

namespace L2
open PySem PySem.Spec PyProof.Rows Er PySem.Froz
section
variable {P : Program} {w : World} {A : Around} {E : Value → Shared → Prop} {s : Shared}
theorem el_text {e : Int × Value} (h : (∃ k, (PySem.strKind P w).is k e.2 = true ∧ e.1 = (PySem.strKind P w).hash k) ∧ e.2.scannable = true) : ∃ x u, e.2 = .str x u := by
  obtain ⟨⟨k, z, _⟩, _⟩ := h
  obtain ⟨u, y⟩ := Value.isStrOf_shape z
  exact ⟨k, u, y⟩
theorem perm_of_sub : ∀ {l m : List Str}, l.Nodup → (∀ x ∈ l, x ∈ m) → m.length ≤ l.length → l.Perm m
  | [], m, _, _, h => by rw [List.eq_nil_of_length_eq_zero (Nat.le_zero.mp h)]
  | x :: l, m, nd, sub, h => by
    obtain ⟨n1, n2⟩ := List.nodup_cons.mp nd
    have hx : x ∈ m := sub x List.mem_cons_self
    have pe := List.perm_cons_erase hx
    refine (List.Perm.cons x (perm_of_sub n2 (fun y hy => ?_) ?_)).trans pe.symm
    · exact (List.mem_erase_of_ne (fun (e : y = x) => n1 (by rw [← e]; exact hy))).mpr (sub y (List.mem_cons_of_mem _ hy))
    · have z := pe.length_eq
      simp only [List.length_cons] at z h
      omega
/-- the texts that the set's entries hold are the list's, in another order -/
theorem tx_texts {D : SD} {l : List Str} (F : TxOk P w D l) (nd : l.Nodup) : (D.1.toList.map fun e => strOf e.2).Perm l := by
  have key : ∀ e ∈ D.1.toList, (PySem.strKind P w).is (strOf e.2) e.2 = true := fun e he => by
    obtain ⟨x, u, z⟩ := el_text (F.el e he)
    rw [z]; exact is_str x u
  refine (perm_of_sub nd (fun k hk => ?_) ?_).symm
  · obtain ⟨e, he, z⟩ := (F.mem k).mp hk
    exact List.mem_map.mpr ⟨e, he, (PySem.strKind P w).inj e.2 _ _ (key e he) z⟩
  · rw [List.length_map, Array.length_toList, F.sz]; exact Nat.le_refl _
/-- sorted(a), a set of texts -/
theorem sorted_textset {a : Addr} {l : List Str} {Q : Value → Shared → Prop} (calm : A.handled = none) (R : SetS P w s.heap a l) (nd : l.Nodup) (room : l.length < scanBound)
    (h : ∀ (s' : Shared) (p : Addr) (out : Array Value) (c : Nat) (ss : List Str), (∀ b o, s.heap.get? b = some o → s'.heap.get? b = some o) → s'.gens = s.gens → s'.os = s.os → s.heap.objs.size ≤ p →
      s'.heap.get? p = some (seqObj "list" out c) → StrsAre out.toList ss → ss.Perm l → sortedS ss = true → Q (.ref p) s') :
    wpAny (model P w) A (call (.builtin "sorted") [.ref a]) Q E s := by
  obtain ⟨⟨es, ep, t⟩, ho, F, ris, led⟩ := R.it
  have sz : es.size = l.length := F.sz
  refine Calls.call_function_entry kind_sorted plain_sorted entry_sorted (args_sorted1 _) ?_
  unfold Builtin.«sorted»
  refine wpAny_bind (m := checkCount "sorted" 1 1 _) (wpAny_pure ?_)
  apply wpAny_bind
  refine collect_set (A := A.in1) calm ⟨_, ho, rfl, rfl⟩ F.fit (by rw [sz]; exact room) ris led fun s1 vs keep le eg eo pm => ?_
  have len : vs.length = l.length := by rw [pm.length_eq, List.length_map, Array.length_toList, sz]
  have tx : StrsAre vs (vs.map strOf) := strsAre_map vs fun v hv => by
    obtain ⟨e, he, rfl⟩ := List.mem_map.mp (pm.mem_iff.mp hv)
    exact el_text (F.el e he)
  have pl : (vs.map strOf).Perm l := by
    have z := pm.map strOf
    rw [List.map_map] at z
    exact z.trans (tx_texts F nd)
  have big : vs.length ≤ sizeLine := by rw [len]; exact fits_of_scanBound room
  refine wpAny_bind (wpAny_newList ?_ big)
  have at1 : (s1.heap.push (seqObj "list" vs.toArray 0)).get? s1.heap.objs.size = some (seqObj "list" vs.toArray 0) := Heap.get?_push_size _ rfl
  apply wpAny_bind; apply wpAny_holding
  refine wpAny_call_entry slot_list_sort ⟨_, at1, rfl⟩ entry_list_sort (list_sort_treeKAny strKind_oneLt at1 tx.keysOf (fun v₁ v₂ r e => keyKind_strs (by rw [← e]; exact tx)) big fun st' q1 q2 => ⟨_, rfl, ?_⟩) (args_list_sort _)
  obtain ⟨ss, t1, t2, t3⟩ := sorted_out_str tx q1 q2
  obtain ⟨c, hc⟩ := sortedHeap_at (vs := vs) (out := (arrOf st').map (·.2)) at1
  refine wpAny_pure ⟨_, rfl, h _ s1.heap.objs.size _ c ss (fun b o z => ?_) eg eo le hc t1 (t2.trans pl) t3⟩
  have y := keep b o z
  have lt := Heap.lt_size y
  show (sortedHeap (s1.heap.push (seqObj "list" vs.toArray 0)) s1.heap.objs.size vs ((arrOf st').map (·.2))).get? b = some o
  rw [sortedHeap_old (Nat.ne_of_lt lt) (by rw [size_new]; exact Nat.lt_succ_of_lt lt)]
  exact Heap.get?_push_of_some _ y
end

def SetSO (P : Program) (w : World) (a : Addr) (l : List Str) : HO := .ext fun h => SetS P w h a l
section
variable {X : Cx}
theorem setSO_new {w : World} {P : Program} {H : Hp} {h : Heap} {a : Addr} {l : List Str} (R : SetS P w h a l) : ObjOk P w H h a (SetSO P w a l) := by
  obtain ⟨D, z, _⟩ := R.it
  exact ⟨R, ⟨_, z⟩, fun h1 h2 p k => p.keep k⟩
/-- set(xs), xs a list of texts -/
def rSetS (X : Cx) : List V → Hp → VK → Prop := fun vs H Q => ∃ (l : Addr) (xs : List Str), vs = [V.ref l] ∧ SqL X.K H l (xs.map V.str) ∧ xs.length + 1 < 4096 ∧ ∀ p, H p = none → Q (.ref p) (upd H p (SetSO X.prog X.w p (putL xs)))
theorem cr_setS (hc : X.calm = true) : CallR X (.type "set") (rSetS X) := by
  intro pins s σ H vs us Q I r h
  obtain ⟨l, xs, rfl, hl, few, q⟩ := h
  rw [Vals.ref1 r]
  obtain ⟨its, rv, pl, _⟩ := I.list hl
  refine set_texts (P := X.prog) (w := X.w) (xs := xs) (I.ok.hd hc) pl.isList (by simpa using strsAre_of rv) (by unfold scanBound; exact few) fun h' tk R keep => ?_
  exact ⟨.ref s.heap.objs.size, _, I.laid (t' := tk) keep (Nat.le_refl _) (setSO_new R), rfl, q _ (I.hok.fresh (Nat.le_refl _))⟩
/-- sorted(a), a a set of texts -/
def rSrtS (X : Cx) : List V → Hp → VK → Prop := fun vs H Q => ∃ (a : Addr) (l : List Str), vs = [V.ref a] ∧ H a = some (SetSO X.prog X.w a l) ∧ l.Nodup ∧ l.length < 4096 ∧
  ∀ (ss : List Str) (p : Addr), ss.Perm l → sortedS ss = true → H p = none → Q (.ref p) (upd H p (.lst (ss.map V.str)))
theorem cr_srtS (hc : X.calm = true) : CallR X (.builtin "sorted") (rSrtS X) := by
  intro pins s σ H vs us Q I r h
  obtain ⟨a, l, rfl, ha, nd, few, q⟩ := h
  rw [Vals.ref1 r]
  have R : SetS X.prog X.w s.heap a l := (I.hok a _ ha).1
  have room : l.length < scanBound := by unfold scanBound; exact few
  refine sorted_textset (I.ok.hd hc) R nd room fun s' p out c ss keep eg eo le hp tx pm so => ?_
  have none : H p = none := I.hok.fresh le
  have big : (ss.map V.str).length ≤ sizeLine := by rw [List.length_map, pm.length_eq]; exact fits_of_scanBound room
  have J : Inv X pins σ (upd H p (.lst (ss.map V.str))) { s with heap := s'.heap, gens := s'.gens, drawn := s'.drawn, toks := s'.toks } :=
    I.call (ch := []) (Un.laid keep le none) (I.hok.laid keep le ⟨big, out.toList, c, vals_of_strs tx, hp⟩) (by rw [eg]; exact I.bare) (fun _ z => nomatch z)
  have same : s' = { s with heap := s'.heap, gens := s'.gens, drawn := s'.drawn, toks := s'.toks } := by obtain ⟨_, _, _, _, _⟩ := s'; obtain ⟨_, _, _, _, _⟩ := s; cases eo; rfl
  rw [same]
  exact ⟨.ref p, _, J, rfl, q ss p pm so none⟩
end
end L2

/-! set(t), t a tuple of texts. -/
namespace L2
open PySem PySem.Spec PyProof.Rows Er PySem.Froz
section
variable {P : Program} {w : World} {A : Around} {E : Value → Shared → Prop} {s : Shared}
/-- set(l), l a tuple of texts -/
theorem set_textsT {l : Addr} {its : Array Value} {xs : List Str} {Q : Value → Shared → Prop} (calm : A.handled = none) (hl : s.heap.IsTuple l its) (tx : StrsAre its.toList xs) (room : xs.length + 1 < scanBound)
    (h : ∀ (h' : Heap) (tk : Nat), SetS P w h' s.heap.objs.size (putL xs) → (∀ b o, s.heap.get? b = some o → h'.get? b = some o) → Q (.ref s.heap.objs.size) { s with heap := h', toks := tk }) :
    wpAny (model P w) A (call (.type "set") [.ref l]) Q E s := by
  have cnt : its.size = xs.length := by rw [← StrsAre.len_eq tx, Array.length_toList]
  obtain ⟨c, tl, order⟩ := PySem.F.called_set.mro
  have built := PySem.F.called_set.made
  have under := PySem.F.called_set.sub
  apply wpAny_call; apply codeAny_of_tree
  show wpAny _ _ (callAny (.type "set") ⟨[.ref l], []⟩) _ _ s
  refine wpAny_pure ⟨Code.quiet_builtin _ (by decide +kernel), ?_⟩
  apply codeAny_builtin PySem.F.entry_type_call
  rw [Around.under_plain (weight_type_call_type "set" [.ref l] []) rfl]
  have no := PySem.F.called_set.notType
  have may := PySem.F.called_set.canCreate
  have one := PySem.F.typeCall_set_1 (.ref l)
  repeat (any_goals (first | assumption | wp_step))
  refine codeAny_mono (code_set_led1 (.ref l) (E := E) (Q₁ := fun r s₁ => r = .ref s.heap.objs.size ∧ s₁ = { s with heap := s.heap.push (newS w) }) ⟨rfl, rfl⟩) fun r s₁ got => ?_
  match r, got with
  | .ok (.ret r), ⟨e1, e2⟩ =>
    subst e1; subst e2
    have at0 : (s.heap.push (newS w)).get? s.heap.objs.size = some (newS w) := Heap.get?_push_size _ rfl
    have kind : Shared.TypeIs { s with heap := s.heap.push (newS w) } (.ref s.heap.objs.size) "set" := ⟨_, at0, rfl⟩
    have look := PySem.F.called_set.init.lookup
    have bind := PySem.F.called_set.init.bind (.ref s.heap.objs.size)
    repeat (any_goals (first | assumption | wp_step))
    refine codeAny_mono (codeAny_call_builtin (R := wants (fun r s₂ => r = .none ∧ ∃ h' tk, s₂ = { s with heap := h', toks := tk } ∧ SetS P w h' s.heap.objs.size (putL xs) ∧ ∀ b o, s.heap.get? b = some o → h'.get? b = some o) E) PySem.F.called_set.init.plain PySem.F.entry_set_init (check_set_init_1 kind ?_)) fun r₂ s₂ got₂ => ?_
    · have far : l < s.heap.objs.size := by obtain ⟨o, z, _⟩ := hl; exact Heap.lt_size z
      have hl0 : (s.heap.push (newS w)).IsTuple l its := hl.push _
      obtain ⟨⟨cl, di, da, sl⟩, atl, ecl, ct, eda⟩ := hl0
      simp only at ecl eda
      subst ecl; subst eda
      have d1 := PySem.F.sub_tuple_set
      have d2 := PySem.F.sub_tuple_frozenset
      have d3 : (Value.type "tuple" == Value.type "dict") = false := by decide
      have hl1 : (s.heap.push (newS w)).IsTuple l its := ⟨_, atl, rfl, ct, rfl⟩
      unfold Builtin.«set.__init__» noKeywords Builtin.Frozenset.updateFrom
      generalize walkIt : pyIter = PW
      wp_walk
      subst walkIt
      refine wpAny_pyIter_tuple hl1 (wpAny_bind (wpAny_runValue ?_))
      have calm3 : A.in1.in1.in1.handled = none := by simp [calm]
      have sz := size_new s.heap (newS w)
      have n1 : l ≠ (s.heap.push (newS w)).objs.size := by rw [sz]; exact Nat.ne_of_lt (Nat.lt_succ_of_lt far)
      have n2 : s.heap.objs.size ∉ [(s.heap.push (newS w)).objs.size, l] := by
        simp only [List.mem_cons, List.not_mem_nil, or_false, not_or, sz]; exact ⟨Nat.ne_of_lt (Nat.lt_succ_self _), Nat.ne_of_gt far⟩
      refine update_texts s.heap.objs.size xs ((Walks.tuple calm3 _ l n1 its).toS) n2 cnt room (fun i v e => text_at tx i v (by rw [Array.getElem?_toList]; exact e)) its.size 0 _ (by omega) ⟨⟨_, Heap.get?_push_size _ rfl, rfl, rfl⟩, hl1.push _⟩
        (setS_new (Heap.get?_push_of_some _ at0)) ?_
      intro s' mv new
      obtain ⟨h', g', d', tk', o'⟩ := s'
      obtain rfl : g' = s.gens := mv.gens
      obtain rfl : d' = s.drawn := mv.drawn
      obtain rfl : o' = s.os := mv.os
      refine wpAny_pure (wpAny_pure ⟨rfl, h', tk', rfl, new, fun b o z => ?_⟩)
      have lt := Heap.lt_size z
      refine mv.heap b o ?_ (Heap.get?_push_of_some _ (Heap.get?_push_of_some _ z))
      simp only [List.mem_cons, List.not_mem_nil, or_false, not_or, sz]
      exact ⟨Nat.ne_of_lt lt, Nat.ne_of_lt (Nat.lt_succ_of_lt lt)⟩
    · match r₂, got₂ with
      | .ok (.ret r), ⟨e1, h', tk, e2, new, keep⟩ =>
        subst e1; subst e2
        repeat (any_goals (first | assumption | wp_step))
        exact h _ _ new keep
      | .error e, z => exact z
  | .error e, z => exact z
end
section
variable {X : Cx}
/-- set(xs), xs a tuple of texts -/
def rSetST (X : Cx) : List V → Hp → VK → Prop := fun vs H Q => ∃ (l : Addr) (xs : List Str), vs = [V.ref l] ∧ SqT X.K H l (xs.map V.str) ∧ xs.length + 1 < 4096 ∧ ∀ p, H p = none → Q (.ref p) (upd H p (SetSO X.prog X.w p (putL xs)))
theorem cr_setST (hc : X.calm = true) : CallR X (.type "set") (rSetST X) := by
  intro pins s σ H vs us Q I r h
  obtain ⟨l, xs, rfl, hl, few, q⟩ := h
  rw [Vals.ref1 r]
  obtain ⟨its, rv, pl, _⟩ := I.tuple hl
  refine set_textsT (P := X.prog) (w := X.w) (xs := xs) (I.ok.hd hc) pl (by simpa using strsAre_of rv) (by unfold scanBound; exact few) fun h' tk R keep => ?_
  exact ⟨.ref s.heap.objs.size, _, I.laid (t' := tk) keep (Nat.le_refl _) (setSO_new R), rfl, q _ (I.hok.fresh (Nat.le_refl _))⟩
end
end L2

/-! A list comprehension whose item lets out an error (raised where nothing is handled). -/
namespace L2
open PySem PySem.Spec PyProof.Rows
/-- what the block's code is to reach; an error goes on with the block's own env -/
def postE (M : Model) (A : Around) (E : Value → Shared → Prop) (use : Option (Value → Sem Unit)) (Q : Value → Shared → Prop) (acc : Value) (ce : Env) : Result → Shared → Prop
  | .ok f, s' => compPost M A E use Q acc ce.locals (.ok f) s'
  | .error x, s' => ∃ m, s'.heap.Ns ce.locals m ∧ ∀ h', Heap.SameBut ce.locals s'.heap h' → wpAny M A (passOn "comprehension.variables-let-go" x ce : Sem Value) (fun _ _ => False) E { s' with heap := h' }
theorem comp_errs {M : Model} {A : Around} {E : Value → Shared → Prop} {s : Shared} {env : Env} {e : Expr} {scope : Scope} {pos : Pos} {newAcc first : Sem Value} {g : Comprehension} {gs : List Comprehension} {cl : List (Str × Addr)} {use : Option (Value → Sem Unit)} {Q : Value → Shared → Prop}
    (cls : clausesOf e = g :: gs) (same : ∀ x, foldedSetIterable g.iter env x = pure x) (clo : closureFor scope env = pure cl) (kind : scope.kind = .function) (uniq : ∀ x ∈ scope.names, x.2 = .local → scope.names.lookup x.1 = some .local)
    (h : wpAny M A first (fun x s₁ => wpAny M A (pyIter x) (fun it s₂ => wpAny M A newAcc (fun acc s₃ => wpAny M A (newFunctionEnv scope env.globals cl [] env.qual none .none (some env)) (fun ce s₄ =>
      codeAny M A (.compStart e 0 it acc { ce with scope := relabel scope env }) (postE M A E use Q acc { ce with scope := relabel scope env }) s₄) E s₃) E s₂) E s₁) E s) :
    wpAny M A (comprehension e scope env pos newAcc false first use) Q E s := by
  unfold comprehension
  rw [clo, cls]
  have up : ∀ {α β : Type} {t : Sem α} {k : α → Sem β} {P : α → Shared → Prop} {R : β → Shared → Prop} {s : Shared}, wpAny M A t P E s → (∀ a s, P a s → wpAny M A (k a) R E s) → wpAny M A (t >>= k) R E s := fun a b => wpAny_bind (wpAny_mono a b fun _ _ z => z)
  refine up h fun x s₁ h₁ => wpAny_bind (wpAny_standAt ?_)
  refine wpAny_bind (wpAny_of_eq (same x) ?_)
  refine wpAny_bind (wpAny_holding (wpAny_mono h₁ (fun it s₂ h₂ => ?_) fun _ _ z => z))
  refine wpAny_standIf (up h₂ fun acc s₃ h₃ => wpAny_bind (wpAny_pure (up h₃ fun ce s₄ h₄ => ?_)))
  dsimp only
  generalize hvars : (scope.names.filter fun x => (x.2 == .local || x.2 == .cell) && x.1 != (".0" : Str)).reverse = vars
  have loc : ∀ x ∈ vars, x.2 = .local → Env.kindOf { ce with scope := relabel scope env } x.1 = some .local := fun x hx hl => by
    rw [← hvars] at hx
    exact lookup_relabel_local (uniq x (List.mem_filter.mp (List.mem_reverse.mp hx)).1 hl)
  have loc2 : ∀ x ∈ vars.drop 1 ++ vars.take 1, x.2 = .local → Env.kindOf { ce with scope := relabel scope env } x.1 = some .local := fun x hx hl =>
    (List.mem_append.mp hx).elim (fun z => loc x (List.mem_of_mem_drop z) hl) fun z => loc x (List.mem_of_mem_take z) hl
  refine wpAny_holding (wpAny_bind (wpAny_attempt (wpAny_holding (wpAny_run (codeAny_mono h₄ fun res s' got => ?_)))))
  match res, use, got with
  | .ok f, none, ⟨m, hn, q⟩ => exact wpAny_bind (wpAny_holding (wpAny_comp_letGo (cenv := { ce with scope := relabel scope env }) kind _ s' m loc hn fun h' m' _ sb => wpAny_pure (q h' sb)))
  | .ok f, some u, q =>
    apply wpAny_bind; apply wpAny_rule; apply wpAny_bind; apply wpAny_holding
    refine wpAny_mono q (fun _ s'' ⟨m, hn, q⟩ => ?_) fun _ _ z => z
    exact wpAny_bind (wpAny_comp_letGo (cenv := { ce with scope := relabel scope env }) kind _ s'' m loc2 hn fun h' m' _ sb => wpAny_pure (q h' sb))
  | .error x, use, ⟨m, hn, q⟩ =>
    exact wpAny_bind (wpAny_holding (wpAny_comp_letGo (cenv := { ce with scope := relabel scope env }) kind _ s' m loc hn fun h' m' _ sb => wpAny_mono (q h' sb) (fun _ _ f => f.elim) fun _ _ z => z))
theorem note_eq {e : Value} {ce env : Env} (hf : ce.frame = env.frame) : noteFrame e ce = noteFrame e env := by
  unfold PySem.noteFrame PySem.frameOf
  rw [hf]
theorem frames_less {h h' B B' : Heap} {C : Addr} : ∀ {l : List Env}, h.FunFrames B l → (∀ b o, h.get? b = some o → b ∈ frs l → ∃ o', h'.get? b = some o' ∧ o'.data = o.data) → (∀ b, B.get? b = none → B'.get? b = none) → h'.FunFrames B' l
  | [], _, _, _ => trivial
  | env :: r, ⟨a, ⟨L, o, hf, hn, ho, hd⟩, t⟩, k, n => by
    obtain ⟨o', e1, e2⟩ := k L o ho (List.mem_filterMap.mpr ⟨env, List.mem_cons_self, hf⟩)
    refine ⟨a, ⟨L, o', hf, n L hn, e1, fun vs => e2 ▸ hd vs⟩, frames_less (C := C) t (fun b o e m => k b o e ?_) n⟩
    obtain ⟨x, hx, q⟩ := List.mem_filterMap.mp m
    exact List.mem_filterMap.mpr ⟨x, List.mem_cons_of_mem _ hx, q⟩
/-- the error of a call within the block, in the air of the def -/
theorem blk_err {X : Cx} {E : XK} {ce : Env} {u : Value} {s0 s' : Shared} {pins : List (Addr × Obj)} {σ : St} {H0 : Hp} {m : Str → Option Value} {use : Option (Value → Sem Unit)} {Qf : Value → Shared → Prop} {acc : Value}
    (hs : X.stack = X.env :: X.outer) (hf : X.env.frame = some X.env.locals) (tk : L2N.Takes X (fun c d _ H => E c d H)) (hcf : ce.frame = X.env.frame)
    (I : Inv X pins σ H0 s0) (fC : FpOk X pins H0 ce.locals) (nC : s0.heap.Ns ce.locals m) (c : L2N.CX X.prog X.w X.stack H0 s0 E u s') :
    notedBy (model X.prog X.w) X.A ce (fun e s'' => postE (model X.prog X.w) X.A X.xe use Qf acc ce (.error e) s'') u s' := by
  obtain ⟨oC, es, ep, hC, dC, rC⟩ := id nC
  have oC' : ∃ es ep, oC.data = .dict es ep := ⟨es, ep, dC⟩
  obtain ⟨f0, f1, f2, f3, f4, f5⟩ := fC
  have out : ce.locals ∉ frs X.stack := by
    intro z
    rw [hs] at z
    rcases List.mem_filterMap.mp z with ⟨x, hx, q⟩
    rcases List.mem_cons.mp hx with e | hx
    · rw [e, hf] at q; exact f1 (Option.some.inj q).symm
    · exact f2 (List.mem_filterMap.mpr ⟨x, hx, q⟩)
  obtain ⟨a, B0, H', cls, d, rfl, fl, hok, ub, na, os, ag, hE⟩ := c
  have cS : s'.heap.get? ce.locals = some oC := fl.1 _ _ (ub.keep _ _ hC f0 out)
  have I0 : Inv X [] σ H0 s0 := I.pins_of fun p hp => nomatch hp
  obtain ⟨a', B, sI, pins', σ', H2, cls2, d2, ea, J', nb, up, sky, na2, os2, ag2, w2, w3⟩ := L2N.XE.of_call (W := fun c d _ H => E c d H ∧ H ce.locals = none) I0 (fun _ _ _ z => z) ⟨a, B0, H', cls, d, rfl, fl, hok, ub, na, os, ag, hE, ub.free _ _ hC f0⟩
  cases ea
  have J : Inv X [] σ' H2 sI := J'.pins_of fun p hp => nomatch hp
  have hfr : X.A.frames = some (X.env :: X.outer) := by rw [J.ok.frames, hs]
  rw [hs] at sky
  show wpAny _ X.A (noteFrame (.ref a) ce) _ _ s'
  rw [note_eq hcf]
  -- noted: it is held
  have go : ∀ h1, HandSPX.HeldZ B (X.env :: X.outer) a (L2N.Zn cls2 d2) X.env.locals h1 → s'.heap.UpToSlots h1 → postE (model X.prog X.w) X.A X.xe use Qf acc ce (.error (.ref a)) { s' with heap := h1 } := by
    intro h1 held up1
    obtain ⟨slC, c1⟩ := up1 _ _ cS (fun vs z => by rw [dC] at z; cases z)
    refine ⟨m, ⟨_, es, ep, c1, dC, rC⟩, fun h2 sb => ?_⟩
    obtain ⟨G, g1, g2⟩ := restrict sI.heap fun b => decide (b ≠ ce.locals)
    obtain ⟨B2, b1, b2⟩ := restrict B fun b => decide (b ≠ ce.locals)
    have gO : ∀ b, b ≠ ce.locals → G.get? b = sI.heap.get? b := fun b z => g1 b (decide_eq_true z)
    have gC : G.get? ce.locals = none := g2 _ (by simp)
    have bO : ∀ b, b ≠ ce.locals → B2.get? b = B.get? b := fun b z => b1 b (decide_eq_true z)
    have bC : B2.get? ce.locals = none := b2 _ (by simp)
    have ne_of : ∀ {h : Heap} {b : Addr} {o : Obj}, h.get? ce.locals = none → h.get? b = some o → b ≠ ce.locals := fun x y z => by rw [z, x] at y; cases y
    have bl : ∀ b, B.get? b = none → B2.get? b = none := fun b z => by
      by_cases e : b = ce.locals
      · rw [e]; exact bC
      · rw [bO b e]; exact z
    obtain ⟨k1, k2, k3, oe, vs, T, oT, ts, he, hz, hd, hv, hnT, hTe, hT, hdT, h3⟩ := held
    have notC : ∀ {b : Addr} {o : Obj} {vs : Array Value}, h1.get? b = some o → o.data = .fields vs → b ≠ ce.locals := fun {b o vs} x y z => by
      rw [z, c1] at x
      cases x
      have y' : oC.data = .fields vs := y
      rw [dC] at y'; cases y'
    have held2 : HandSPX.HeldZ B2 (X.env :: X.outer) a (L2N.Zn cls2 d2) X.env.locals h2 := by
      refine ⟨fun b o z => ?_, bl a k2, frames_less (C := ce.locals) k3 (fun b o z mm => ⟨o, (sb.2 b fun y => ?_).trans z, rfl⟩) bl, oe, vs, T, oT, ts, (sb.2 a (notC he hd)).trans he, hz, hd, hv, bl T hnT, hTe, (sb.2 T (notC hT hdT)).trans hT, hdT, h3⟩
      · have y := ne_of bC z
        rw [bO b y] at z
        exact (sb.2 b y).trans (k1 b o z)
      · rw [y, ← hs] at mm; exact out mm
    unfold PySem.passOn
    refine wpAny_bind (wpAny_field ((sb.2 a (notC he hd)).trans he) hd hv ?_)
    rw [if_neg (by simp)]
    have fin : wpAny (model X.prog X.w) X.A (setFlight (.ref a) ce.frame) (fun _ s4 => wpAny (model X.prog X.w) X.A (throw (.ref a) : Sem Value) (fun _ _ => False) X.xe s4) X.xe { s' with heap := h2 } := by
      rw [hcf, hf]
      refine HandSPX.setFlight_onZ held2 fun h4 held4 up4 => wpAny_throw (tk _ _ ?_)
      refine ⟨a, B2, { sI with heap := G, toks := sI.toks }, [], σ', H2, cls2, d2, rfl, J.turned (fun b o y z => (gO b y).trans z) w3 f1 f3 f4 (fun p hp => f5 p (List.mem_append_left _ (by simpa using hp))), fun b o z y => ?_, fun b o z y => ?_, .inr (.inr (by rw [hs]; exact held4)), na2, os2, ag2, w2⟩
      · have x := ne_of gC z
        rw [bO b x]
        exact nb b o (by rw [← gO b x]; exact z) y
      · have x := ne_of gC z
        have z' : sI.heap.get? b = some o := by rw [← gO b x]; exact z
        obtain ⟨l1, e1⟩ := up b o z' y
        obtain ⟨l2, e2⟩ := up1 b _ e1 y
        obtain ⟨l3, e3⟩ := up4 b _ ((sb.2 b x).trans e2) y
        exact ⟨l3, e3⟩
    first
      | exact wpAny_bind (wpAny_pure (wpAny_bind fin))
      | exact wpAny_bind fin
  rcases sky with ⟨hB, hn, hl, oe, vs, he, hz, hd, h1⟩ | fl | held
  · exact PXN.look_newZ L2N.Zn.steady hfr hl hf he hB hn hd h1 hz go
  · exact PXN.looks_onZ L2N.Zn.steady hfr hf fl go
  · exact HandSPX.againZ hf held.2.2.2 (go s'.heap held (Heap.UpToSlots.refl _))

/-- the block's context, errors going where xe says -/
abbrev Cx.blkx (X : Cx) (s : Shared) (H : Hp) (scope : Scope) (cenv : Env) (fp : List Addr) (xe : Value → Shared → Prop) : Cx :=
  { X with s_0 := s, H_0 := H, env := cenv, outer := X.stack, ex := fp, fn := fun x => scope.names.lookup x == some .cell, pn := [], xe := xe }
theorem Inv.blkx {X : Cx} {s s' : Shared} {H H' : Hp} {scope : Scope} {cenv : Env} {fp : List Addr} {xe : Value → Shared → Prop} {pins : List (Addr × Obj)} {σ : St} (I : Inv (X.blk s H scope cenv fp) pins σ H' s') : Inv (X.blkx s H scope cenv fp xe) pins σ H' s' :=
  have ok := I.ok
  ⟨⟨ok.mod, ok.kind, ok.glob, ok.blt, ok.above, ok.inj, ok.has, ok.cab, ok.hd, ok.frames, ok.stk, ok.exf, ok.bs, ok.bsz, ok.noex, ok.exfs, ok.funs, ok.frf⟩, I.os, I.bare, I.base, I.loc, I.cell, I.free, I.freeC, I.pin, I.hok, I.len⟩
/-- what the block's parts are to keep: whatever the place the errors go to, so long as a call's errors are taken there -/
def Within (X : Cx) (E : XK) (scope : Scope) (p : Cx → Prop) : Prop := ∀ (s : Shared) (H : Hp) (C : Addr) (cl : List (Str × Addr)) (fp : List Addr) (xe : Value → Shared → Prop),
  Passes (L2N.CX X.prog X.w) (X.blkx s H scope (compEnvC scope cl C X.env) fp xe) E → p (X.blkx s H scope (compEnvC scope cl C X.env) fp xe)
section
variable {X : Cx}
theorem lc_coreE {E : XK} {pins : List (Addr × Obj)} {s : Shared} {σ : St} {H : Hp} {Q : VK} {elt tg iter : Expr} {ifs : List Expr} {scope : Scope} {own : List (Str × Nat)} {pos pos' : Pos} {wi : TI} {g : TG} {tt : TT} {te : TE} {use : Option (Value → Sem Unit)} {Qf : Value → Shared → Prop}
    (hs : X.stack = X.env :: X.outer) (hf : X.env.frame = some X.env.locals) (tk : L2N.Takes X (fun c d _ H => E c d H))
    (hc : X.calm = true) (hN : X.N.Nodup) (I : Inv X pins σ H s) (hi : PI X tg iter wi) (ok : BlkOk X.N X.env.scope scope own)
    (hg : Within X E scope fun Y => PG Y tg g) (ht : Within X E scope fun Y => PTs Y ifs tt) (he : Within X E scope fun Y => PE Y elt te) (same : ∀ x, foldedSetIterable iter X.env x = pure x)
    (h : tLc wi g tt te (own.map (·.2)) σ H Q)
    (fin : ∀ D C s' m H', Inv X pins σ H' s' → Q (.ref D) H' → s'.heap.Ns C m → FpOk X pins H' C → compPost (model X.prog X.w) X.A X.xe use Qf (.ref D) C (.ok .next) s') :
    wpAny (model X.prog X.w) X.A (comprehension (.ListComp elt [⟨tg, iter, ifs, 0⟩] scope pos) scope X.env pos' (newList []) false (eval iter X.env) use) Qf X.xe s := by
  have held : ∀ y ∈ scope.names, y.2 = .free → ∃ c, X.env.cells.lookup y.1 = some c := fun y hy e => I.ok.has _ (ok.free y hy e)
  refine comp_errs (use := use) rfl same (closure_ok held) ok.kind (fun y hy e => by rw [ok.uniq y hy, e]) (thn (hi.run pins s σ H _ I h) fun xv s1 hx => thn hx fun itv s2 h2 => ?_)
  obtain ⟨it, fp, tn, J, H2, rfl, I2, T, st2, f2, plan⟩ := h2
  refine wpAny_newObj_type (newEnv_comp ?_) (by show 0 ≤ sizeLine; decide)
  -- the new list at D
  obtain ⟨D, hD⟩ : ∃ D, D = s2.heap.objs.size := ⟨_, rfl⟩
  rw [← hD]
  obtain ⟨W, ⟨m0, w0⟩, turn⟩ := plan D (I2.hok.fresh (Nat.le_of_eq hD.symm))
  obtain ⟨s3, hs3⟩ : ∃ s3 : Shared, s3 = { s2 with heap := s2.heap.push { cls := .type "list", data := .seq ([] : List Value).toArray } } := ⟨_, rfl⟩
  have h3 : s3.heap = s2.heap.push { cls := .type "list", data := .seq ([] : List Value).toArray } := by rw [hs3]
  have I3 : Inv X pins σ (upd H2 D (.lst [])) s3 := by
    rw [hs3]
    exact I2.laid (t' := s2.toks) (fun b o e => Heap.get?_push_of_some _ e) (Nat.le_of_eq hD.symm) ⟨Nat.zero_le _, [], 0, .nil, by rw [hD]; exact Heap.get?_push_size _ rfl⟩
  rw [← hs3]
  obtain ⟨H3, hH3⟩ : ∃ H3, H3 = upd H2 D (.lst []) := ⟨_, rfl⟩
  rw [← hH3] at I3 w0
  have old : ∀ b ∈ fp, b < s2.heap.objs.size := fun b hb => let ⟨o, e, _⟩ := T.obj _ _ st2 b hb; Heap.lt_size e
  have f3 : ∀ b ∈ fp, FpOk X pins H3 b ∧ b < s3.heap.objs.size := fun b hb => by
    have lt := old b hb
    have ne : b ≠ D := by rw [hD]; exact Nat.ne_of_lt lt
    exact ⟨⟨by rw [hH3, upd_ne ne]; exact (f2 b hb).1, (f2 b hb).2⟩, by rw [h3, size_new]; exact Nat.lt_succ_of_lt lt⟩
  have st3 : tn 0 s3.heap := T.keep _ _ _ st2 fun b _ o e => by rw [h3]; exact Heap.get?_push_of_some _ e
  obtain ⟨cl, hcl⟩ : ∃ cl, cl = cellsFrom (s3.heap.objs.size + 1) scope.names (cloFrom X.env.cells scope.names []) := ⟨_, rfl⟩
  obtain ⟨ce, hce⟩ : ∃ ce, ce = compEnvC scope cl s3.heap.objs.size X.env := ⟨_, rfl⟩
  have cL : ce.locals = s3.heap.objs.size := by rw [hce] <;> rfl
  have cF : ce.frame = X.env.frame := by rw [hce] <;> rfl
  obtain ⟨s4, hs4⟩ : ∃ s4 : Shared, s4 = { s3 with heap := pushCells (s3.heap.push { cls := .type "dict", data := .dict #[] }) scope.names } := ⟨_, rfl⟩
  have I4 : Inv (X.blk s3 H3 scope ce fp) [] (wipe σ (own.map (·.2))) H3 s4 := by rw [hs4, hce, hcl]; exact block_start I3 ok hN f3
  show codeAny _ _ (.compStart (.ListComp elt [⟨tg, iter, ifs, 0⟩] scope pos) 0 (.ref it) (.ref D) (compEnvC scope (cellsFrom (s3.heap.objs.size + 1) scope.names (cloFrom X.env.cells scope.names [])) s3.heap.objs.size X.env))
    (postE (model X.prog X.w) X.A X.xe use Qf (.ref D) (compEnvC scope (cellsFrom (s3.heap.objs.size + 1) scope.names (cloFrom X.env.cells scope.names [])) s3.heap.objs.size X.env)) { s3 with heap := pushCells (s3.heap.push { cls := .type "dict", data := .dict #[] }) scope.names }
  rw [← hcl, ← hce, ← hs4]
  have st4 : tn 0 s4.heap := T.keep _ _ _ st3 fun b _ o e => by rw [hs4]; exact pushCells_keeps _ _ _ _ (Heap.get?_push_of_some _ e)
  -- where a call's error goes
  let XE0 : Value → Shared → Prop := notedBy (model X.prog X.w) X.A ce (fun e s'' => postE (model X.prog X.w) X.A X.xe use Qf (.ref D) ce (.error e) s'')
  let Y : Cx := X.blkx s3 H3 scope ce fp XE0
  have back : ∀ {pins' : List (Addr × Obj)} {σ' : St} {H' : Hp} {s' : Shared}, Inv Y pins' σ' H' s' → Inv X pins σ H' s' ∧ FpOk X pins H' ce.locals ∧ ∃ m, s'.heap.Ns ce.locals m := fun {pins' σ' H' s'} K => by
    obtain ⟨m, hn, _⟩ := K.loc
    have none : H' s3.heap.objs.size = none := by rw [← cL]; exact K.free
    exact ⟨I3.call' (ch := fp) K.os K.base K.hok K.bare fun b hb => ⟨(f3 b hb).1.2.2.2.1, (f3 b hb).1.2.1, (f3 b hb).1.2.2.2.2.1, (f3 b hb).1.2.2.2.2.2⟩, by rw [cL]; exact I3.fpOk (Nat.le_refl _) none, m, hn⟩
  have pass : Passes (L2N.CX X.prog X.w) Y E := fun pins' σ' H' s' e s'' K c => by
    obtain ⟨a, b, m, d⟩ := back K
    exact blk_err hs hf tk cF a b d c
  have pg : PG Y tg g := by
    have z := hg s3 H3 s3.heap.objs.size cl fp XE0
    rw [← hce] at z
    exact z pass
  have pt : PTs Y ifs tt := by
    have z := ht s3 H3 s3.heap.objs.size cl fp XE0
    rw [← hce] at z
    exact z pass
  have pe : PE Y elt te := by
    have z := he s3 H3 s3.heap.objs.size cl fp XE0
    rw [← hce] at z
    exact z pass
  have stay : ∀ {pins' : List (Addr × Obj)} {σ' : St} {H' : Hp} {s' : Shared}, Inv Y [] σ' H' s' → (∀ b ∈ fp, H' b = none) → ∀ b ∈ fp, FpOk Y [] H' b := fun {_ σ' H' s'} K n b hb =>
    ⟨n b hb, (K.ok.exf b hb).1, K.ok.exfs b hb, .inl hb, (K.ok.exf b hb).2, fun p hp => absurd (show p ∈ ([] : List (Addr × Obj)) ++ [] from hp) (by simp)⟩
  have loop : codeAny (model X.prog X.w) X.A (.compLoop (.ListComp elt [⟨tg, iter, ifs, 0⟩] scope pos) 0 (.ref it) (.ref D) ce) (postE (model X.prog X.w) X.A X.xe use Qf (.ref D) ce) s4 := by
    refine compLoop_any (fun n s' => ∃ i H', Inv Y [] (wipe σ (own.map (·.2))) H' s' ∧ tn i s'.heap ∧ (∀ b ∈ fp, H' b = none) ∧ W i n H') ?_ m0 ⟨0, H3, I4.blkx, st4, fun b hb => (f3 b hb).1.1, w0⟩
    rintro n s5 ⟨i, H5, I5, st5, n5, w5⟩
    rcases turn i n H5 w5 with ⟨stop, q⟩ | ⟨go, Nx, next, step⟩
    · refine thnF (T.done Y rfl rfl rfl hc i [] s5 _ H5 (fun _ _ => False) I5 (stay (pins' := []) I5 n5) st5 stop) fun r s6 ⟨hr, I6⟩ => ?_
      subst hr
      obtain ⟨I7, f7, m, hn⟩ := back I6
      exact fin D ce.locals s6 m H5 I7 q hn f7
    · refine thnF (T.item Y rfl rfl rfl hc i [] s5 _ H5 (fun _ _ => False) I5 (stay (pins' := []) I5 n5) st5 go) fun r s6 ⟨u, hr, h6⟩ => ?_
      subst hr
      refine thnF h6 fun _ s7 ⟨x, H7, I7, r7, y7, st7, n7⟩ => ?_
      have P7 : Inv Y ([] ++ pinsAt fp s7.heap) (wipe σ (own.map (·.2))) H7 s7 := I7.pinned (stay (pins' := []) I7 n7) (T.obj _ _ st7)
      refine wpAny_mono (pg.run _ s7 _ H7 x u _ P7 r7 (step x H7 y7)) (fun _ s8 ⟨σ8, H8, I8, w8, q8⟩ => ?_) fun _ _ z => z
      refine wpAny_mono (pt.run _ s8 σ8 H8 _ I8 q8) (fun b s9 ⟨H9, I9, q9⟩ => ?_) fun _ _ z => z
      have ends : ∀ {s' : Shared} {H' : Hp}, Inv Y ([] ++ pinsAt fp s7.heap) σ8 H' s' → Nx H' → ∃ m, m < n ∧ ∃ i H', Inv Y [] (wipe σ (own.map (·.2))) H' s' ∧ tn i s'.heap ∧ (∀ b ∈ fp, H' b = none) ∧ W i m H' := fun {s' H'} K nx => by
        obtain ⟨m', lt, w'⟩ := next H' nx
        have pin : ∀ b ∈ fp, ∀ o, s7.heap.get? b = some o → s'.heap.get? b = some o ∧ H' b = none := fun b hb o e =>
          have z := K.pin (b, o) (List.mem_append_right _ (List.mem_append_right _ (mem_pinsAt hb e)))
          ⟨z.1, z.2.1⟩
        have long : (wipe σ (own.map (·.2))).length = σ8.length := by rw [← w8, wipe_length]
        refine ⟨m', lt, i + 1, H', (K.unpinned (pins := [])).weak long (fun j v e => by rw [← w8] at e; exact (wipe_some e).1), T.keep _ _ _ st7 fun b hb o e => (pin b hb o e).1, fun b hb => ?_, w'⟩
        obtain ⟨o, e, _⟩ := T.obj _ _ st7 b hb
        exact (pin b hb o e).2
      cases b with
      | false => simp only [Bool.false_eq_true, if_false] at q9 ⊢; exact ends I9 q9
      | true =>
        simp only [if_true] at q9 ⊢
        refine wpAny_mono (pe.run _ s9 σ8 H9 _ I9 q9) (fun z s10 ⟨yv, H10, I10, r10, acc, d10, z10, nx⟩ => ?_) fun _ _ z => z
        exact app_ok (X := Y) I10 d10 z10 r10 fun s11 I11 => ends I11 nx
  exact codeAny_compStart_list loop (T.self X.A 0 _ _ _ st4 loop)
/-- as a value -/
theorem pe_lcE {E : XK} {elt tg iter : Expr} {ifs : List Expr} {scope : Scope} {own : List (Str × Nat)} {pos : Pos} {wi : TI} {g : TG} {tt : TT} {te : TE} (hs : X.stack = X.env :: X.outer) (hf : X.env.frame = some X.env.locals) (tk : L2N.Takes X (fun c d _ H => E c d H))
    (hc : X.calm = true) (hN : X.N.Nodup) (hi : PI X tg iter wi) (ok : BlkOk X.N X.env.scope scope own)
    (hg : Within X E scope fun Y => PG Y tg g) (ht : Within X E scope fun Y => PTs Y ifs tt) (he : Within X E scope fun Y => PE Y elt te) (same : ∀ x, foldedSetIterable iter X.env x = pure x := by intro _; rfl) :
    PE X (.ListComp elt [⟨tg, iter, ifs, 0⟩] scope pos) (tLc wi g tt te (own.map (·.2))) := by
  refine ⟨fun pins s σ H Q I h => ?_⟩
  rw [eval_ListComp]
  refine lc_coreE hs hf tk hc hN I hi ok hg ht he same h fun D C s' m H' J q hn ⟨f0, f1, _, f3, f4, f5⟩ => ⟨m, hn, fun h'' sb => ?_⟩
  exact ⟨.ref D, H', J.turned (t' := s'.toks) (fun b o hb e => (sb.2 b hb).trans e) f0 f1 f3 f4 f5, rfl, q⟩
/-- name = [..], the name a local, on one line -/
theorem ps_setLcE {E : XK} {i : Nat} {y : Str} {py spos : Pos} {elt tg iter : Expr} {ifs : List Expr} {scope : Scope} {own : List (Str × Nat)} {pos : Pos} {wi : TI} {g : TG} {tt : TT} {te : TE} (hs : X.stack = X.env :: X.outer) (hf : X.env.frame = some X.env.locals) (tk : L2N.Takes X (fun c d _ H => E c d H))
    (hc : X.calm = true) (hN : X.N.Nodup) (hy : X.N[i]? = some y) (hyl : X.env.scope.names.lookup y = some .local) (hsw : swapsWith (.ListComp elt [⟨tg, iter, ifs, 0⟩] scope pos) (some (.Name y py)) spos.line X.env = pure true) (hi : PI X tg iter wi) (ok : BlkOk X.N X.env.scope scope own)
    (hg : Within X E scope fun Y => PG Y tg g) (ht : Within X E scope fun Y => PTs Y ifs tt) (he : Within X E scope fun Y => PE Y elt te) (same : ∀ x, foldedSetIterable iter X.env x = pure x := by intro _; rfl) :
    PS X (.Assign [.Name y py] (.ListComp elt [⟨tg, iter, ifs, 0⟩] scope pos) spos) (tAsg (tLc wi g tt te (own.map (·.2))) (gName i)) := by
  refine ⟨fun pins s σ H D I h => ?_⟩
  rw [exec_Assign_Name_used _ _ _ _ hsw]
  apply wpAny_bind; apply wpAny_standAt; apply wpAny_bind
  show wpAny _ X.A ((comprehension (.ListComp elt [⟨tg, iter, ifs, 0⟩] scope pos) scope X.env (firstIterPos [⟨tg, iter, ifs, 0⟩] pos) (newList []) false (eval iter X.env) (some (assign (.Name y py) X.env))) >>= fun _ => pure ()) _ _ s
  have plan : tLc wi g tt te (own.map (·.2)) σ H (fun x H1 => gName i x σ H1 D.nx) := h
  refine wpAny_bind (wpAny_mono (lc_coreE (Qf := fun _ s' => SP X pins D .next s') hs hf tk hc hN I hi ok hg ht he same plan fun L C s' m H' J q hn ⟨f0, f1, _, f3, f4, f5⟩ => ?_) (fun _ s' q => wpAny_pure (wpAny_pure q)) fun _ _ z => z)
  show wpAny _ X.A (assign (.Name y py) X.env (.ref L)) _ _ s'
  refine wpAny_assign_Name (store_ok2 (v := V.ref L) J hN hy (.inl hyl) rfl (fun s2 I2 ⟨a, sb, ha⟩ => ?_) (.inr hyl))
  have ne : C ≠ a := ha.elim (fun z => by rw [z]; exact f1) fun z e => f4 y a z e.symm
  exact ⟨m, hn.sameBut sb ne, fun h3 sb3 => ⟨_, H', I2.turned (t' := s2.toks) (fun b o hb e => (sb3.2 b hb).trans e) f0 f1 f3 f4 f5, q⟩⟩
end
end L2

/-! Comprehensions over a range, and all(list), in a def that is called while an error is handled. -/
namespace HotX
open PySem PySem.Spec PyProof.Rows
section
variable {prog : Program} {w : World} {A : Around} {E : Value → Shared → Prop} {s : Shared}
/-- a list's iterator at its end -/
theorem list_end_hot {it l x1 : Addr} {i : Nat} {items : Array Value} {Q : Option Value → Shared → Prop} (hot : HotAt A x1 s.heap) (hit : s.heap.IsListIter it l i) (hl : s.heap.IsList l items) (out : items[i]? = none)
    (q : ∀ h', (∀ b o, b ≠ it → s.heap.get? b = some o → h'.get? b = some o) → Q none { s with heap := h' }) : wpAny (model prog w) A (pyNext (.ref it)) Q E s := by
  obtain ⟨o, ho, hc, hd⟩ := id hit
  obtain ⟨ol, hol, _, nl, dl⟩ := hl
  obtain ⟨hh, o1, vs1, h1, d1, c1⟩ := hot
  have ne : x1 ≠ it := fun e => by
    rw [e, ho] at h1
    cases h1
    rw [hd] at d1
    cases d1
    cases c1
  unfold pyNext
  apply wpAny_bind; apply wpAny_attempt
  refine wpAny_callSpecial?_slot (name := Str.ofString "__next__") hit.typeIs slot_listiter_next (wpAny_call_entry slot_listiter_next hit.typeIs entry_listiter_next ?_ (args_listiter_next _))
  show wpAny _ _ (field (.ref it) 0 >>= fun _ => _) _ _ s
  refine wpAny_bind (wpAny_field ho hd (x := .ref l) rfl ?_)
  show wpAny _ _ (if (Value.ref l == Value.none) = true then _ else (field (.ref it) 1 >>= fun _ => _)) _ _ s
  rw [if_neg (by simp)]
  refine wpAny_bind (wpAny_field ho hd (x := .int i 0) rfl ?_)
  show wpAny _ _ (seqItems? (.ref l) >>= fun _ => _) _ _ s
  refine wpAny_bind (wpAny_seqItems hol dl ?_)
  simp only [Int.toNat_natCast, out]
  apply wpAny_bind; apply wpAny_rule; apply wpAny_bind
  refine wpAny_setField ho hd (by simp) ?_
  have k : ∀ b o', b ≠ it → s.heap.get? b = some o' → (s.heap.update it (Obj.mapFields (·.setIfInBounds 0 Value.none))).get? b = some o' := fun b o' nb e => (Heap.get?_update_other _ _ (Ne.symm nb)).trans e
  show wpAny _ _ (newExc (.type "StopIteration") [] >>= fun _ => _) _ _ _
  apply wpAny_bind
  simp only [newExc, newTuple]
  refine wpAny_bind (wpAny_newObj_type ?_ (by size_fits))
  refine wpAny_bind (m := firstArgMember _ _) (wpAny_of_eq (a := Value.none) (by first | (simp only [firstArgMember]; rfl) | rfl) ?_)
  refine wpAny_newObj_type ?_ (by size_fits)
  have x2 := Heap.get?_push_of_some (h := s.heap.update it (Obj.mapFields (·.setIfInBounds 0 Value.none))) { cls := .type "tuple", data := .seq ([] : List Value).toArray } (k x1 o1 ne h1)
  refine raiseNew_hot ⟨hh, o1, vs1, Heap.get?_push_of_some _ x2, d1, c1⟩ (Nat.ne_of_lt (Heap.lt_size x2)) (Heap.get?_push_size _ rfl) rfl (by first | (simp; done) | (simp; omega) | (simp only [Array.size_append]; simp; omega)) ?_
  refine wpAny_bind (wpAny_isInstance (T := "StopIteration") (b := true) ⟨_, Heap.get?_update_self _ (Heap.get?_push_size _ rfl) rfl, rfl⟩ isSubtype_stop (wpAny_pure (q _ fun b o' nb e => ?_)))
  have y := Heap.get?_push_of_some (h := s.heap.update it (Obj.mapFields (·.setIfInBounds 0 Value.none))) { cls := .type "tuple", data := .seq ([] : List Value).toArray } (k b o' nb e)
  rw [Heap.get?_update_other _ _ (Nat.ne_of_gt (Heap.lt_size y))]
  exact Heap.get?_push_of_some _ y
theorem walk_listH {x1 : Addr} {o1 : Obj} {vs1 : Array Value} (hh : A.handled = some (.ref x1)) (d1 : o1.data = .fields vs1) (c1 : vs1[2]? = some .none) (I ax : Addr) (ne : ax ≠ I) (ne1 : x1 ≠ I) (items : Array Value) :
    Walks prog w A I [I, ax, x1] [I] items.size (fun i v => items[i]? = some v) (fun i h => h.IsListIter I ax i ∧ h.IsList ax items ∧ h.get? x1 = some o1) where
  sub := fun b hb => by simp at hb; simp [hb]
  frame := fun _ _ _ st k => ⟨st.1.at fun o e => k I (by simp) o e, st.2.1.at fun o e => k ax (by simp) o e, k x1 (by simp) _ st.2.2⟩
  item := fun i s Q E hi st q => wpAny_pyNext_list_item st.1 st.2.1 (x := items[i]) (by simp [hi]) fun h' it' sb => q _ h' s.toks (by simp [hi]) ⟨it', st.2.1.extBut sb.extBut ne, (sb.2 x1 ne1).trans st.2.2⟩ fun b o hb e => sb.extBut b o (fun z => hb (by simp [z])) e
  done := fun s Q E st q => list_end_hot ⟨hh, o1, vs1, st.2.2, d1, c1⟩ st.1 st.2.1 (by simp) fun h' k => q h' s.toks fun b o hb e => k b o (fun z => hb (by simp [z])) e
  self := fun _ _ _ _ st q => wpAny_pyIter_listiter st.1 q
end
end HotX
namespace L2
open PySem PySem.Spec PyProof.Rows HotX
section
variable {X : Cx}
theorem cr_allH (hc : L2H.HotC X) : CallR X (.builtin "all") (rAll X.K) := by
  intro pins s σ H vs us Q I r h
  obtain ⟨a, bs, rfl, hs, q⟩ := h
  obtain ⟨its, rv, hl, _⟩ := I.list hs
  rw [Vals.ref1 r]
  obtain ⟨p, ⟨hh, vs1, d1, c1⟩, m⟩ := hc
  obtain ⟨hp, _⟩ := I.pin p (List.mem_append_left _ m)
  have bools := rv.bls
  refine call_all_walk (iter_any hl.isList fun s₂ e2 st ne => ?_)
  subst e2
  refine ⟨_, _, _, _, _, _, _, rfl, walk_listH (A := X.A.in1) hh d1 c1 _ a ne (Nat.ne_of_lt (Heap.lt_size hp)) its.toArray, ⟨st.1, st.2, Heap.get?_push_of_some _ hp⟩, truth_bools bools, fun h' tk k => ?_⟩
  refine ⟨.bl _, H, I.kept fun b o e => k b o (fun z => ?_) (Heap.get?_push_of_some _ e), ?_, q⟩
  · rcases List.mem_cons.mp z with z | z
    · exact absurd (z ▸ Heap.lt_size e) (Nat.lt_irrefl _)
    · cases z
  · show Value.bool _ = Value.bool _
    rw [← all_range, bools, List.size_toArray, List.length_map]
/-- the block's context, the handled error still pinned -/
abbrev Cx.blkh (X : Cx) (s : Shared) (H : Hp) (scope : Scope) (cenv : Env) (fp : List Addr) : Cx :=
  { X with s_0 := s, H_0 := H, env := cenv, outer := X.stack, ex := fp, fn := fun x => scope.names.lookup x == some .cell, xe := fun _ _ => False }
def WithinH (X : Cx) (scope : Scope) (p : Cx → Prop) : Prop := ∀ (s : Shared) (H : Hp) (C : Addr) (cl : List (Str × Addr)) (fp : List Addr), p (X.blkh s H scope (compEnvC scope cl C X.env) fp)
theorem lc_coreH {pins : List (Addr × Obj)} {s : Shared} {σ : St} {H : Hp} {Q : VK} {elt tg iter : Expr} {ifs : List Expr} {scope : Scope} {own : List (Str × Nat)} {pos pos' : Pos} {wi : TI} {g : TG} {tt : TT} {te : TE} {use : Option (Value → Sem Unit)} {Qf : Value → Shared → Prop}
    (hs : X.stack = X.env :: X.outer) (hf : X.env.frame = some X.env.locals)
    (hc : L2H.HotC X) (hN : X.N.Nodup) (I : Inv X pins σ H s) (hi : L2H.PIH X tg iter wi) (ok : BlkOk X.N X.env.scope scope own)
    (hg : WithinH X scope fun Y => PG Y tg g) (ht : WithinH X scope fun Y => PTs Y ifs tt) (he : WithinH X scope fun Y => PE Y elt te) (same : ∀ x, foldedSetIterable iter X.env x = pure x)
    (h : tLc wi g tt te (own.map (·.2)) σ H Q)
    (fin : ∀ D C s' m H', Inv X pins σ H' s' → Q (.ref D) H' → s'.heap.Ns C m → FpOk X pins H' C → compPost (model X.prog X.w) X.A X.xe use Qf (.ref D) C (.ok .next) s') :
    wpAny (model X.prog X.w) X.A (comprehension (.ListComp elt [⟨tg, iter, ifs, 0⟩] scope pos) scope X.env pos' (newList []) false (eval iter X.env) use) Qf X.xe s := by
  have held : ∀ y ∈ scope.names, y.2 = .free → ∃ c, X.env.cells.lookup y.1 = some c := fun y hy e => I.ok.has _ (ok.free y hy e)
  refine comp_errs (use := use) rfl same (closure_ok held) ok.kind (fun y hy e => by rw [ok.uniq y hy, e]) (thn (hi.run pins s σ H _ I h) fun xv s1 hx => thn hx fun itv s2 h2 => ?_)
  obtain ⟨it, fp, tn, J, H2, rfl, I2, T, st2, f2, plan⟩ := h2
  refine wpAny_newObj_type (newEnv_comp ?_) (by show 0 ≤ sizeLine; decide)
  -- the new list at D
  obtain ⟨D, hD⟩ : ∃ D, D = s2.heap.objs.size := ⟨_, rfl⟩
  rw [← hD]
  obtain ⟨W, ⟨m0, w0⟩, turn⟩ := plan D (I2.hok.fresh (Nat.le_of_eq hD.symm))
  obtain ⟨s3, hs3⟩ : ∃ s3 : Shared, s3 = { s2 with heap := s2.heap.push { cls := .type "list", data := .seq ([] : List Value).toArray } } := ⟨_, rfl⟩
  have h3 : s3.heap = s2.heap.push { cls := .type "list", data := .seq ([] : List Value).toArray } := by rw [hs3]
  have I3 : Inv X pins σ (upd H2 D (.lst [])) s3 := by
    rw [hs3]
    exact I2.laid (t' := s2.toks) (fun b o e => Heap.get?_push_of_some _ e) (Nat.le_of_eq hD.symm) ⟨Nat.zero_le _, [], 0, .nil, by rw [hD]; exact Heap.get?_push_size _ rfl⟩
  rw [← hs3]
  obtain ⟨H3, hH3⟩ : ∃ H3, H3 = upd H2 D (.lst []) := ⟨_, rfl⟩
  rw [← hH3] at I3 w0
  have old : ∀ b ∈ fp, b < s2.heap.objs.size := fun b hb => let ⟨o, e, _⟩ := T.obj _ _ st2 b hb; Heap.lt_size e
  have f3 : ∀ b ∈ fp, FpOk X pins H3 b ∧ b < s3.heap.objs.size := fun b hb => by
    have lt := old b hb
    have ne : b ≠ D := by rw [hD]; exact Nat.ne_of_lt lt
    exact ⟨⟨by rw [hH3, upd_ne ne]; exact (f2 b hb).1, (f2 b hb).2⟩, by rw [h3, size_new]; exact Nat.lt_succ_of_lt lt⟩
  have st3 : tn 0 s3.heap := T.keep _ _ _ st2 fun b _ o e => by rw [h3]; exact Heap.get?_push_of_some _ e
  obtain ⟨cl, hcl⟩ : ∃ cl, cl = cellsFrom (s3.heap.objs.size + 1) scope.names (cloFrom X.env.cells scope.names []) := ⟨_, rfl⟩
  obtain ⟨ce, hce⟩ : ∃ ce, ce = compEnvC scope cl s3.heap.objs.size X.env := ⟨_, rfl⟩
  have cL : ce.locals = s3.heap.objs.size := by rw [hce] <;> rfl
  have cF : ce.frame = X.env.frame := by rw [hce] <;> rfl
  obtain ⟨s4, hs4⟩ : ∃ s4 : Shared, s4 = { s3 with heap := pushCells (s3.heap.push { cls := .type "dict", data := .dict #[] }) scope.names } := ⟨_, rfl⟩
  have I4 : Inv (X.blk s3 H3 scope ce fp) [] (wipe σ (own.map (·.2))) H3 s4 := by rw [hs4, hce, hcl]; exact block_start I3 ok hN f3
  show codeAny _ _ (.compStart (.ListComp elt [⟨tg, iter, ifs, 0⟩] scope pos) 0 (.ref it) (.ref D) (compEnvC scope (cellsFrom (s3.heap.objs.size + 1) scope.names (cloFrom X.env.cells scope.names [])) s3.heap.objs.size X.env))
    (postE (model X.prog X.w) X.A X.xe use Qf (.ref D) (compEnvC scope (cellsFrom (s3.heap.objs.size + 1) scope.names (cloFrom X.env.cells scope.names [])) s3.heap.objs.size X.env)) { s3 with heap := pushCells (s3.heap.push { cls := .type "dict", data := .dict #[] }) scope.names }
  rw [← hcl, ← hce, ← hs4]
  have st4 : tn 0 s4.heap := T.keep _ _ _ st3 fun b _ o e => by rw [hs4]; exact pushCells_keeps _ _ _ _ (Heap.get?_push_of_some _ e)
  have I4h : Inv (X.blkh s3 H3 scope ce fp) [] (wipe σ (own.map (·.2))) H3 s4 := by
    have ok4 := I4.ok
    refine ⟨⟨ok4.mod, ok4.kind, ok4.glob, ok4.blt, ok4.above, ok4.inj, ok4.has, ok4.cab, ok4.hd, ok4.frames, ok4.stk, ok4.exf, ok4.bs, ok4.bsz, ok4.noex, ok4.exfs, ok4.funs, ok4.frf⟩, I4.os, I4.bare, I4.base, I4.loc, I4.cell, I4.free, I4.freeC, fun p hp => ?_, I4.hok, I4.len⟩
    have hp' : p ∈ X.pn ++ pins := List.mem_append_left _ (by simpa using hp)
    obtain ⟨a1, a2, a3, a4, a5⟩ := I3.pin p hp'
    have lt := Heap.lt_size a1
    refine ⟨by rw [hs4]; exact pushCells_keeps _ _ _ _ (Heap.get?_push_of_some _ a1), a2, by rw [cL]; exact Nat.ne_of_lt lt, fun z => ?_, a5⟩
    have z' : p.1 ∈ frs X.stack := z
    rw [hs] at z'
    obtain ⟨x, hx, e⟩ := List.mem_filterMap.mp z'
    rcases List.mem_cons.mp hx with h | h
    · rw [h, hf] at e; exact a3 (Option.some.inj e).symm
    · exact a4 (List.mem_filterMap.mpr ⟨x, h, e⟩)
  let Y : Cx := X.blkh s3 H3 scope ce fp
  have back : ∀ {pins' : List (Addr × Obj)} {σ' : St} {H' : Hp} {s' : Shared}, Inv Y pins' σ' H' s' → Inv X pins σ H' s' ∧ FpOk X pins H' ce.locals ∧ ∃ m, s'.heap.Ns ce.locals m := fun {pins' σ' H' s'} K => by
    obtain ⟨m, hn, _⟩ := K.loc
    have none : H' s3.heap.objs.size = none := by rw [← cL]; exact K.free
    exact ⟨I3.call' (ch := fp) K.os K.base K.hok K.bare fun b hb => ⟨(f3 b hb).1.2.2.2.1, (f3 b hb).1.2.1, (f3 b hb).1.2.2.2.2.1, (f3 b hb).1.2.2.2.2.2⟩, by rw [cL]; exact I3.fpOk (Nat.le_refl _) none, m, hn⟩
  have hotY : L2H.HotC Y := let ⟨p, h, m⟩ := hc; ⟨p, h, m⟩
  have pg : PG Y tg g := by have z := hg s3 H3 s3.heap.objs.size cl fp; rw [← hce] at z; exact z
  have pt : PTs Y ifs tt := by have z := ht s3 H3 s3.heap.objs.size cl fp; rw [← hce] at z; exact z
  have pe : PE Y elt te := by have z := he s3 H3 s3.heap.objs.size cl fp; rw [← hce] at z; exact z
  have stay : ∀ {pins' : List (Addr × Obj)} {σ' : St} {H' : Hp} {s' : Shared}, Inv Y [] σ' H' s' → (∀ b ∈ fp, H' b = none) → ∀ b ∈ fp, FpOk Y [] H' b := fun {_ σ' H' s'} K n b hb =>
    ⟨n b hb, (K.ok.exf b hb).1, K.ok.exfs b hb, .inl hb, (K.ok.exf b hb).2, fun p hp => (f3 b hb).1.2.2.2.2.2 p (List.mem_append_left _ (by simpa using hp))⟩
  have loop : codeAny (model X.prog X.w) X.A (.compLoop (.ListComp elt [⟨tg, iter, ifs, 0⟩] scope pos) 0 (.ref it) (.ref D) ce) (postE (model X.prog X.w) X.A X.xe use Qf (.ref D) ce) s4 := by
    refine compLoop_any (fun n s' => ∃ i H', Inv Y [] (wipe σ (own.map (·.2))) H' s' ∧ tn i s'.heap ∧ (∀ b ∈ fp, H' b = none) ∧ W i n H') ?_ m0 ⟨0, H3, I4h, st4, fun b hb => (f3 b hb).1.1, w0⟩
    rintro n s5 ⟨i, H5, I5, st5, n5, w5⟩
    rcases turn i n H5 w5 with ⟨stop, q⟩ | ⟨go, Nx, next, step⟩
    · refine thnF (T.done Y rfl rfl rfl hotY i [] s5 _ H5 (fun _ _ => False) I5 (stay (pins' := []) I5 n5) st5 stop) fun r s6 ⟨hr, I6⟩ => ?_
      subst hr
      obtain ⟨I7, f7, m, hn⟩ := back I6
      exact fin D ce.locals s6 m H5 I7 q hn f7
    · refine thnF (T.item Y rfl rfl rfl hotY i [] s5 _ H5 (fun _ _ => False) I5 (stay (pins' := []) I5 n5) st5 go) fun r s6 ⟨u, hr, h6⟩ => ?_
      subst hr
      refine thnF h6 fun _ s7 ⟨x, H7, I7, r7, y7, st7, n7⟩ => ?_
      have P7 : Inv Y ([] ++ pinsAt fp s7.heap) (wipe σ (own.map (·.2))) H7 s7 := I7.pinned (stay (pins' := []) I7 n7) (T.obj _ _ st7)
      refine thnF (pg.run _ s7 _ H7 x u _ P7 r7 (step x H7 y7)) fun _ s8 ⟨σ8, H8, I8, w8, q8⟩ => ?_
      refine thnF (pt.run _ s8 σ8 H8 _ I8 q8) fun b s9 ⟨H9, I9, q9⟩ => ?_
      have ends : ∀ {s' : Shared} {H' : Hp}, Inv Y ([] ++ pinsAt fp s7.heap) σ8 H' s' → Nx H' → ∃ m, m < n ∧ ∃ i H', Inv Y [] (wipe σ (own.map (·.2))) H' s' ∧ tn i s'.heap ∧ (∀ b ∈ fp, H' b = none) ∧ W i m H' := fun {s' H'} K nx => by
        obtain ⟨m', lt, w'⟩ := next H' nx
        have pin : ∀ b ∈ fp, ∀ o, s7.heap.get? b = some o → s'.heap.get? b = some o ∧ H' b = none := fun b hb o e =>
          have z := K.pin (b, o) (List.mem_append_right _ (List.mem_append_right _ (mem_pinsAt hb e)))
          ⟨z.1, z.2.1⟩
        have long : (wipe σ (own.map (·.2))).length = σ8.length := by rw [← w8, wipe_length]
        refine ⟨m', lt, i + 1, H', (K.unpinned (pins := [])).weak long (fun j v e => by rw [← w8] at e; exact (wipe_some e).1), T.keep _ _ _ st7 fun b hb o e => (pin b hb o e).1, fun b hb => ?_, w'⟩
        obtain ⟨o, e, _⟩ := T.obj _ _ st7 b hb
        exact (pin b hb o e).2
      cases b with
      | false => simp only [Bool.false_eq_true, if_false] at q9 ⊢; exact ends I9 q9
      | true =>
        simp only [if_true] at q9 ⊢
        refine thnF (pe.run _ s9 σ8 H9 _ I9 q9) fun z s10 ⟨yv, H10, I10, r10, acc, d10, z10, nx⟩ => ?_
        exact app_ok (X := Y) I10 d10 z10 r10 fun s11 I11 => ends I11 nx
  exact codeAny_compStart_list loop (T.self X.A 0 _ _ _ st4 loop)
/-- as a value, where an error is handled -/
theorem pe_lcH {elt tg iter : Expr} {ifs : List Expr} {scope : Scope} {own : List (Str × Nat)} {pos : Pos} {wi : TI} {g : TG} {tt : TT} {te : TE} (hs : X.stack = X.env :: X.outer) (hf : X.env.frame = some X.env.locals)
    (hc : L2H.HotC X) (hN : X.N.Nodup) (hi : L2H.PIH X tg iter wi) (ok : BlkOk X.N X.env.scope scope own)
    (hg : WithinH X scope fun Y => PG Y tg g) (ht : WithinH X scope fun Y => PTs Y ifs tt) (he : WithinH X scope fun Y => PE Y elt te) (same : ∀ x, foldedSetIterable iter X.env x = pure x := by intro _; rfl) :
    PE X (.ListComp elt [⟨tg, iter, ifs, 0⟩] scope pos) (tLc wi g tt te (own.map (·.2))) := by
  refine ⟨fun pins s σ H Q I h => ?_⟩
  rw [eval_ListComp]
  refine lc_coreH hs hf hc hN I hi ok hg ht he same h fun D C s' m H' J q hn ⟨f0, f1, _, f3, f4, f5⟩ => ⟨m, hn, fun h'' sb => ?_⟩
  exact ⟨.ref D, H', J.turned (t' := s'.toks) (fun b o hb e => (sb.2 b hb).trans e) f0 f1 f3 f4 f5, rfl, q⟩
end
end L2

/-! try: .. with several «except X as n:» of one name n. -/
namespace L2N
open PySem PySem.Spec PyProof.Rows L2
def wManyAs (K : PySem.W.Frag) (i : Nat) (Wout : WX) (D : Ends) : List (Value × (Addr → Value → Option Addr → TS)) → WX
  | [] => Wout
  | (c, ts) :: r => wAs K c i ts (wManyAs K i Wout D r) D
inductive HdsAs (X : Cx) (n : Str) : List ExceptHandler → List (Value × (Addr → Value → Option Addr → TS)) → Prop
  | nil : HdsAs X n [] []
  | cons {x : Str} {c : Value} {ts : Addr → Value → Option Addr → TS} {b₀ : Stmt} {suite : List Stmt} {np pos' : Pos} {hds : List ExceptHandler} {l : List (Value × (Addr → Value → Option Addr → TS))} (name : Names X x c)
      (run : ∀ (a : Addr) (oe : Obj) (cls : Value) (d : Option Addr) (pn : List (Addr × Obj)), Zn cls d oe → (∃ vs, oe.data = .fields vs) → PSs (X.suite a ((a, oe) :: pn)) (b₀ :: suite) (ts a cls d)) (rest : HdsAs X n hds l) :
      HdsAs X n (.ExceptHandler (some (.Name x np)) (some n) (b₀ :: suite) pos' :: hds) ((c, ts) :: l)
section
variable {X : Cx} {n : Str} {i : Nat} {body : List Stmt} {h₀ : ExceptHandler} {hds : List ExceptHandler} {l : List (Value × (Addr → Value → Option Addr → TS))} {pos : Pos} {tb : WX → TS} {Wout : WX}
theorem ps_try_manyAs (hs : X.stack = X.env :: X.outer) (hf : X.env.frame = some X.env.locals) (hN : X.N.Nodup) (hi : X.N[i]? = some n) (hln : X.env.kindOf n = some .local) (tk : Takes X Wout)
    (hb : ∀ (W : WX) (pn : List (Addr × Obj)) (xe : Value → Shared → Prop), Takes (X.tr pn xe) W → PassesOwn (model X.prog X.w) X.A X.env xe → PSs (X.tr pn xe) body (tb W))
    (hh : HdsAs X n (h₀ :: hds) l) : PS X (.Try body (h₀ :: hds) [] [] pos) (fun D σ H => tb (wManyAs X.K i Wout D l) D σ H) := by
  refine ⟨fun pins s σ H D I todo => ?_⟩
  have ok := I.ok
  have fr : X.A.frames = some (X.env :: X.outer) := by rw [ok.frames, hs]
  have isLoc : Loc X.env.scope n := .inl hln
  let caught : Value → Shared → Prop := fun e s₁ => wpAny (model X.prog X.w) X.A (noteFrame e X.env) (fun _ s₂ => wpAny (model X.prog X.w) X.A (setFlight e none) (fun _ s₃ => wpAny (model X.prog X.w) X.A (handleBy e X.env (h₀ :: hds)) (SP X pins D) X.xe s₃) X.xe s₂) X.xe s₁
  refine wpAny_Try_except (wpAny_mono ((hb (wManyAs X.K i Wout D l) (X.pn ++ pins) caught (fun u s' air => ?_) PassesOwn.looking).run [] s σ H D (I.toTry _) todo) (fun f s1 done => ?_) fun e s1 z => z)
  · obtain ⟨a, B, sI, pins', σ', H', cls, d, rfl, J0, nb, up, sky, na, os, ag, wish⟩ := air
    have J : Inv X pins σ' H' sI := J0.ofTry ok
    have sky' : Sky B (X.env :: X.outer) a (Zn cls d) X.env.locals s'.heap := by rw [← hs]; exact sky
    refine Sky.land (Q := fun _ s₃ => wpAny (model X.prog X.w) X.A (handleBy (.ref a) X.env (h₀ :: hds)) (SP X pins D) X.xe s₃) Zn.steady fr hf sky' fun h3 fly up3 => ?_
    have J3 : Inv X pins σ' H' { s' with heap := h3 } := J.landed nb fly.1 (up.trans up3) os ag
    obtain ⟨oe, ve, at3, z3, d3⟩ := fly.there
    have off : ∀ {h : Heap} {o : Obj} {vs : Array Value}, h.FunFrames B (X.env :: X.outer) → h.get? a = some o → o.data = .fields vs → a ∉ frs (X.env :: X.outer) := fun {h o vs} ff e dd m => by
      obtain ⟨_, o', e', nf⟩ := ff.mem m
      rw [e] at e'
      cases e'
      exact nf _ dd
    have offA := off fly.2.2.1 at3 d3
    have noL : a ≠ X.env.locals := fun z => offA (List.mem_filterMap.mpr ⟨X.env, List.mem_cons_self, by rw [hf, z]⟩)
    have noF : a ∉ X.fs := fun m => let ⟨x, hx, q⟩ := List.mem_filterMap.mp m; offA (List.mem_filterMap.mpr ⟨x, List.mem_cons_of_mem _ hx, q⟩)
    have S3 := J3.suite at3 d3 na noL noF
    have walk : ∀ {hds' : List ExceptHandler} {l' : List (Value × (Addr → Value → Option Addr → TS))}, HdsAs X n hds' l' → wManyAs X.K i Wout D l' cls d σ' H' → wpAny (model X.prog X.w) X.A (handleBy (.ref a) X.env hds') (SP X pins D) X.xe { s' with heap := h3 } := by
      intro hds' l' each
      induction each with
      | nil =>
        intro w
        obtain ⟨_, _, _, oe, vs, T, oT, ts', he, hz, hd, h1, hr⟩ := id fly
        refine wpAny_handleBy_nil ?_
        unfold PySem.passOn
        refine wpAny_bind (wpAny_field he hd h1 ?_)
        rw [if_neg (by simp)]
        have on : wpAny (model X.prog X.w) X.A (setFlight (.ref a) X.env.frame) (fun _ s4 => wpAny (model X.prog X.w) X.A (throw (.ref a) : Sem Flow) (SP X pins D) X.xe s4) X.xe { s' with heap := h3 } := by
          rw [hf]
          refine HandSPX.setFlight_upZ fly fun h4 held up4 => wpAny_throw (tk _ _ ⟨a, B, sI, pins, σ', H', cls, d, rfl, J, nb, (up.trans up3).trans up4, .inr (.inr (by rw [hs]; exact held)), na, os, ag, w⟩)
        first
          | exact wpAny_bind (wpAny_pure (wpAny_bind on))
          | exact wpAny_bind on
      | @cons x c ts b₀ suite np pos' hds2 l2 name run rest ih =>
        rintro ⟨b, exm, yes, no⟩
        refine wpAny_handleBy_cons (codeAny_handlers_test ?_) (by intro q; cases q)
        have kind : PySem.W.Looks (model X.prog X.w) h3 (typeOf (.ref a)) cls := fun A Q E s k q => wpAny_typeOf_ref (k _ _ at3) (by rw [z3.1]; exact q)
        have meets := PySem.W.exm_one (M := model X.prog X.w) J3.kIn kind exm
        have ask : ∀ {Q : Value → Shared → Prop} {E : Value → Shared → Prop}, Q c { s' with heap := h3 } → wpAny (model X.prog X.w) (X.A.mark (some (.ref a))) (eval (.Name x np) X.env) Q E { s' with heap := h3 } := fun {Q E} q => by
          obtain ⟨g, dbg, m | ⟨m, v, nn⟩⟩ := name
          · exact ld_glob (X := X.suite a ((a, oe) :: (X.pn ++ pins))) S3 g m q dbg
          · exact ld_blt (X := X.suite a ((a, oe) :: (X.pn ++ pins))) S3 g m v q nn dbg
        refine ask (meets.here ?_)
        cases b with
        | false => exact ih (no rfl)
        | true =>
          refine codeAny_handlers_suite_as (HandSPX.lands_againZ fly fun h4 fly4 up4 => ?_)
          have J4 : Inv X pins σ' H' { s' with heap := h4 } := J.landed nb fly4.1 ((up.trans up3).trans up4) os ag
          obtain ⟨o4, v4, at4, z4, d4⟩ := fly4.there
          have S4 := J4.suite at4 d4 na noL noF
          refine store_ok (X := X.suite a ((a, o4) :: (X.pn ++ pins))) (v := .ref a) S4 hN hi isLoc rfl (fun s5 S5 => ?_) (.inr hln)
          refine wpAny_mono ((run a o4 cls d (X.pn ++ pins) z4 ⟨_, d4⟩).run [] s5 _ H' _ S5 (yes rfl a na)) (fun f s6 done => ?_) (fun _ _ z => False.elim z)
          have gone : ∀ {σ6 : St} {H6 : Hp} {Q : Shared → Prop}, Inv (X.suite a ((a, o4) :: (X.pn ++ pins))) [] σ6 H6 s6 → (∀ s7, Inv X pins (σ6.set i none) H6 s7 → Q s7) →
              wpAny (model X.prog X.w) X.A (do bindName X.env n .none; unbindBehindTheSuite X.env n pos') (fun _ s7 => Q s7) X.xe s6 := fun S6 q => gone_ok (S6.unsuite ok) hN hi hln q
          match f, done with
          | .next, ⟨σ6, H6, S6, q⟩ => exact gone S6 fun s7 J7 => ⟨_, _, J7, q⟩
          | .brk, ⟨σ6, H6, S6, q⟩ => exact gone S6 fun s7 J7 => ⟨_, _, J7, q⟩
          | .cont, ⟨σ6, H6, S6, q⟩ => exact gone S6 fun s7 J7 => ⟨_, _, J7, q⟩
          | .ret u, ⟨v6, σ6, H6, S6, r6, q⟩ => exact gone S6 fun s7 J7 => ⟨_, _, _, J7, r6, q⟩
    exact walk hh wish
  · match f, done with
    | .next, ⟨σ', H', J, q⟩ => exact wpAny_execs_nil ⟨σ', H', J.ofTry ok, q⟩
    | .brk, ⟨σ', H', J, q⟩ => exact ⟨σ', H', J.ofTry ok, q⟩
    | .cont, ⟨σ', H', J, q⟩ => exact ⟨σ', H', J.ofTry ok, q⟩
    | .ret u, ⟨v, σ', H', J, r, q⟩ => exact ⟨v, σ', H', J.ofTry ok, r, q⟩
end
end L2N

/-! isinstance(e, (A, B, ..)), e the error that the suite holds; an error's exceptions where a def with a star binds. -/
namespace L2
open PySem PySem.Spec PyProof.Rows Er
def rIsFT (K : PySem.W.Frag) (D a : Addr) (cls : Value) (dd : Option Addr) : List V → Hp → VK → Prop := fun xs H Q => cls = .ref D ∧ ∃ (t : Addr) (cs : List V) (cvs : List Value) (b : Bool), xs = [.ref a, .ref t] ∧ SqT K H t cs ∧ (∀ us, Vals cs us → us = cvs) ∧ (∀ dx, dd = some dx → ∃ fs, H dx = some (.xd fs)) ∧ PySem.W.kitAny K (.ref D) cvs = some b ∧ Q (.bl b) H
theorem call_isFT {X : Cx} {a D : Addr} {cls : Value} {dd : Option Addr} {oe : Obj} {pn : List (Addr × Obj)} (C : ExcC X.K D) (hz : Zc cls dd oe) (hf : ∃ vs, oe.data = .fields vs) : CallR (X.suite a ((a, oe) :: pn)) (.builtin "isinstance") (rIsFT X.K D a cls dd) := by
  intro pins s σ H xs us Q I r h
  obtain ⟨ecls, t, cs, cvs, b, rfl, ht, hcv, hdd, e, q⟩ := h
  subst ecls
  cases r with
  | cons rx rr =>
    cases rr with
    | cons rt rr =>
      cases rr
      cases rx
      cases rt
      obtain ⟨its, rv, ⟨o, ho, hc, n, hd⟩, _⟩ := I.tuple ht
      obtain ⟨oc, od, oda, osl⟩ := o
      dsimp only at hc hd
      subst hc hd
      obtain ⟨hget, _⟩ := I.pin (a, oe) (List.mem_append.mpr (.inl List.mem_cons_self))
      obtain ⟨vs, hv⟩ := hf
      have hcl : (PySem.W.clsIn X.K D).isSome = true := by
        obtain ⟨cd, hc, _⟩ := PySem.W.any_some C.hd
        rw [hc]
        rfl
      have J : ∃ od, PySem.W.InstAt s.heap a oe D od := by
        obtain ⟨ec, ed, eda, esl⟩ := oe
        obtain ⟨h1, h2⟩ := hz
        dsimp only at h1 h2 hv
        subst h1 h2 hv
        cases ed with
        | none => exact ⟨none, hget, rfl, rfl, trivial⟩
        | some dx =>
          obtain ⟨fs, hx⟩ := hdd dx rfl
          have ok : ObjOk X.prog X.w H s.heap dx (.xd fs) := I.hok dx _ hx
          obtain ⟨mA, hns, hr⟩ := ok
          obtain ⟨od, ho, hl⟩ := lookIn_ns hns
          exact ⟨some od, hget, rfl, rfl, ho⟩
      obtain ⟨od', J⟩ := J
      have ei : its = cvs := hcv its rv
      subst ei
      exact PySem.W.kia_tup (PySem.W.kitx_exc hcl C.hg C.hk C.hs C.ha C.hn C.ht C.hm) I.kIn J ho e (fun z => nomatch z) fun tk => ⟨.bl b, H, I.kept (t' := tk) fun _ _ z => z, rfl, q⟩

open StX in
theorem cxUpN {P : Program} {w : World} : CXUp (L2N.CX P w) := by
  rintro outer s H s2 H2 E e s' un kp ho ⟨a, B, H', cls, d, ea, fl, hok, ub, na, os, ag, he⟩
  have old : ∀ b o, s.heap.get? b = some o → H b = none → H2 b = none := fun b o q n => un.free b o q n (by simp)
  refine ⟨a, B, H', cls, d, ea, fl, hok, ⟨fun b o q n => ub.keep b o (kp b o q) (old b o q n), fun b o q => ub.slot b o (kp b o q), fun b o q n => ub.free b o (kp b o q) (old b o q n), fun b o q => ub.there b o (kp b o q), fun b xs q => ub.tups b xs (un.tups b xs q), fun b o xs q => ub.frzs b o xs (un.frzs b o xs q), fun b ps q => ?_⟩, na, os.trans ho, ag, he⟩
  obtain ⟨m1, e1⟩ := un.tbls b ps q
  obtain ⟨m2, e2⟩ := ub.tbls b _ e1
  exact ⟨m1 ++ m2, by rw [e2, Array.append_assoc]⟩
/-- a def f(self, .., *v) that may let errors out: what is left over is a new tuple -/
theorem Fun.okStar {P : Program} {w : World} {K : PySem.W.Frag} {mg : Str → Option Value} {base : Heap} {x qual pv : Str} {st : Stmt} {f : Addr} {fd : FuncData} {N ps : List Str} {k : Nat} {sp : Sp} (F : Fun K x qual st f fd) (S : FnScope N (ps ++ [pv]) (defScope st))
    (bind : ∀ (kV doc pm : Value) (an : Option Addr) (cdv ct : Value) (us rest : List Value), us.length = ps.length → bindArgs (PySem.W.fnOf x qual (defArgs st) (defBody st) (defScope st) .none kV doc pm an cdv ct) ⟨us ++ rest, []⟩ = (newTuple rest >>= fun t => pure (ps.zip us ++ [(pv, t)])))
    (hbody : ∀ (cdv : Value) (A : Around) (outer : List Env) (s : Shared) (H : Hp) (vs : List V) (Q : VK) (E : XK), Room k (A.deeper (envOfC qual (defScope st) s.heap.objs.size f cdv)) → sp vs H Q E →
      ∃ t, PSs (cxOf (L2N.CX P w) P w K mg base N qual (defScope st) f cdv A outer s H E) (defBody st) t ∧ t { nx := fun _ H' => Q .non H', rt := Q } (start N vs) H) :
    FnR P w K mg base (L2N.CX P w) (k + 1) f (fun vs H Q E => ∃ ws rest, vs = ws ++ rest ∧ ws.length = ps.length ∧ rest.length ≤ sizeLine ∧ ∀ p, H p = none → sp (ws ++ [V.ref p]) (upd H p (.tup rest)) Q E) := by
  obtain ⟨oc, od, kV, doc, pm, an, cdv, ct, osl, rfl, lk, hcd⟩ := F.ex
  exact StX.fn_star lk hcd S cxUpN (bind _ _ _ _ _ _) fun A outer s H vs Q E hr h => hbody cdv A outer s H vs Q E hr h
end L2

/-! Own containers: len(o), x in o, list(o) by the class's own __len__, __contains__, __iter__ (that gives iter(a tuple)); own operators without reflected ones; comparisons of two own objects; C(*xs); t == u of tuples of texts. -/
namespace L2
open PySem PySem.Spec PyProof.Rows Er
section
variable {prog : Program} {w : World} {A : Around} {E : Value → Shared → Prop} {s : Shared} {K : PySem.W.Frag} {x C g : Addr} {ox : Obj} {od : Option Obj}
/-- len(o) by the class's own __len__ -/
theorem len_ownK {Q : Value → Shared → Prop} (X : K.In s.heap) (J : PySem.W.InstAt s.heap x ox C od) (hf : PySem.W.findIn K (.ref C) "__len__" = some (some (.ref g))) (fn : PySem.W.typeIn K (.ref g) = some (.type "function"))
    (h : wpAny (model prog w) A.in1 (call (.ref g) [.ref x]) (fun r s' => ∃ n u, r = .int n u ∧ 0 ≤ n ∧ n < 2 ^ 63 ∧ Q (.int n s'.toks) { s' with toks := s'.toks + 1 }) E s) : wpAny (model prog w) A (call (.builtin "len") [.ref x]) Q E s := by
  refine Calls.call_function_entry PySem.kind_len PySem.plain_len PySem.entry_len (PySem.args_len1 _) ?_
  unfold Builtin.«len»
  refine wpAny_bind (m := oneArg "len" _) (wpAny_pure ?_)
  refine wpAny_bind (m := callSpecial? (.ref x) (Str.ofString "__len__")) (PySem.W.special_fn X J hf fn (wpAny_mono h (fun r s' hr => ?_) fun _ _ y => y))
  obtain ⟨n, u, rfl, h0, h1, hq⟩ := hr
  refine wpAny_bind (wpAny_holding (wpAny_pure ?_))
  refine wpAny_bind (wpAny_letGo ?_)
  show wpAny _ _ (if n < 0 then _ else _) _ _ _
  rw [if_neg (by omega)]
  show wpAny _ _ (if n ≥ 2 ^ 63 then _ else _) _ _ _
  rw [if_neg (by omega)]
  exact wpAny_bind (wpAny_mkInt (wpAny_pure ⟨_, rfl, hq⟩))
end
section
variable {X : Cx} {CX CX1 : CXT} {C f g : Addr} {fd gd : FuncData} {k : Nat} {sp : Sp} {E : XK}
/-- len(o) -/
def rLenO (C : Addr) (sp : Sp) (E : XK) : List V → Hp → VK → Prop := fun xs H Q => ∃ a dx fs, xs = [.ref a] ∧ H a = some (.ins C dx fs) ∧ sp [.ref a] H (fun v H' => ∃ n : Nat, v = .int n ∧ n < 1000 ∧ Q v H') E
theorem call_lenO (hf : PySem.W.findIn X.K (.ref C) "__len__" = some (some (.ref g))) (hi : PySem.W.typeIn X.K (.ref g) = some (.type "function"))
    (F : FnOk X.prog X.w X.K X.mg X.base CX k g fd ["self"] sp) (hr : Room (k + 1) X.A) (b : Binds X.K fd ["self"] []) (hx : Passes CX X E) : CallR X (.builtin "len") (rLenO C sp E) := by
  intro pins s σ H xs us Q I r h
  obtain ⟨a, dx, fs, rfl, ha, h⟩ := h
  cases r with
  | cons rx rr =>
    cases rr
    cases rx
    obtain ⟨_, J⟩ := inst_of' I ha
    refine len_ownK I.kIn J hf hi ?_
    have hr' : Room k ({ X.A with units := X.A.units + 1 } : Around) := ⟨hr.hd, by have := hr.dp; show X.A.depth + 3 * k + 5 < _; omega, by have := hr.un; show X.A.units + 1 + 16 * k + 200 < cLine; omega⟩
    have z := run_fn (X := { X with A := { X.A with units := X.A.units + 1 } }) (CX := CX) (Q := fun v H' => ∃ n : Nat, v = .int n ∧ n < 1000 ∧ Q v H') (vs := [.ref a]) (us := [.ref a]) F hr' b .nil (fun pins σ H s e s' I' h' => hx pins σ H s e s' I'.out1 h') (I.in1 _) (.cons rfl .nil) h
    refine thn z fun u s1 hh => ?_
    obtain ⟨v, H1, I1, rv, n, ev, hn, q⟩ := hh
    subst ev
    obtain ⟨t, rfl⟩ := rv
    exact ⟨n, t, rfl, by omega, by omega, .int n, H1, I1.out1.tok _, ⟨_, rfl⟩, q⟩
/-- x in o -/
def rInO (C : Addr) (neg : Bool) (sp : Sp) (E : XK) : R2 := fun x y H Q => ∃ a dx fs, y = .ref a ∧ H a = some (.ins C dx fs) ∧ sp [y, x] H (fun v H' => ∃ b, v = .bl b ∧ Q (.bl (if neg then !b else b)) H') E
theorem op_inO (hf : PySem.W.findIn X.K (.ref C) "__contains__" = some (some (.ref g))) (hi : PySem.W.isFn X.K (.ref g) = true)
    (F : FnOk X.prog X.w X.K X.mg X.base CX k g fd ["self", "x"] sp) (hr : Room k X.A) (b : Binds X.K fd ["self", "x"] []) (hx : Passes CX X E) : OpR X (compareOp .In) (rInO C false sp E) := by
  intro pins s σ H x y v u Q I rx ry h
  obtain ⟨a, dx, fs, rfl, ha, h⟩ := h
  cases ry
  obtain ⟨_, J⟩ := inst_of' I ha
  obtain ⟨m, fr⟩ := I.fr
  refine PySem.W.in_K fr I.ok.mod.kin J hf hi (wpAny_mono (run_fn (vs := [.ref a, x]) (us := [.ref a, v]) (dvs := []) F hr b .nil hx I (.cons rfl (.cons rx .nil)) h) (fun r s' z => ?_) (fun _ _ z => z))
  obtain ⟨v', H1, I1, rv, bb, ev, q⟩ := z
  subst ev
  obtain rfl : r = Value.bool bb := rv
  exact wpAny_pure ⟨.bl bb, H1, I1, rfl, q⟩
/-- a binary operator with the class's own method, none with the hands changed -/
structure LOp (K : PySem.W.Frag) (C f : Addr) (nm : String) : Prop where
  cls : mro2 K C = true
  l : PySem.W.findIn K (.ref C) (dunder nm) = some (some (.ref f))
  lf : PySem.W.isFn K (.ref f) = true
/-- two objects of one class -/
def rOO (C : Addr) (sp : Sp) (E : XK) : R2 := fun x y H Q => ∃ a dx fs b dy gs, x = .ref a ∧ y = .ref b ∧ H a = some (.ins C dx fs) ∧ H b = some (.ins C dy gs) ∧ sp [x, y] H Q E
theorem bin1LL {prog : Program} {w : World} {A : Around} {E : Value → Shared → Prop} {s : Shared} {K : PySem.W.Frag} {x C f : Addr} {ox : Obj} {od : Option Obj} {Q : Value → Shared → Prop} {nm : String} {y : Addr} {oy : Obj} {ody : Option Obj} (R : LOp K C f nm) (X : K.In s.heap) (J : PySem.W.InstAt s.heap x ox C od) (J2 : PySem.W.InstAt s.heap y oy C ody)
    (h : wpAny (model prog w) A (call (.ref f) [.ref x, .ref y]) (PySem.W.CmpBack Q) E s) : wpAny (model prog w) A (binaryOp1 nm (.ref x) (.ref y)) (fun r s' => ∃ v, r = some v ∧ Q v s') E s := by
  obtain ⟨cd, hc, hmro⟩ := mro2_cls R.cls
  unfold binaryOp1
  refine wpAny_bind (J.type _ _ _ _ (fun _ _ z => z) ?_)
  refine wpAny_bind (J2.type _ _ _ _ (fun _ _ z => z) ?_)
  refine wpAny_bind (PySem.W.fills_K X hc hmro R.l _ _ _ _ (fun _ _ z => z) ?_)
  simp only [beq_self_eq_true, if_true]
  refine wpAny_bind (wpAny_pure (a := false) ?_)
  simp only [Bool.and_false, Bool.false_and, Bool.false_eq_true, if_false]
  refine wpAny_bind (wpAny_pure (a := false) ?_)
  simp only [Bool.false_eq_true, if_false, if_true]
  refine wpAny_bind (wpAny_mono (PySem.W.ksp_try X J R.l R.lf h) ?_ (fun _ _ z => z))
  rintro r s' ⟨v, rfl, q⟩
  exact wpAny_pure ⟨v, rfl, q⟩
theorem op_OO {op : Operator} (R : LOp X.K C f op.info.2) (F : FnOk X.prog X.w X.K X.mg X.base CX1 k f fd ["self", "other"] sp) (hr : Room k X.A)
    (bF : Binds X.K fd ["self", "other"] []) (hx : Passes CX1 X E) : OpR X (binaryOp op) (rOO C sp E) := fun pins s σ H x y v u Q I rx ry h => bin_of (by
  obtain ⟨a, dx, fs, b, dy, gs, rfl, rfl, hA, hB, h⟩ := h
  cases rx
  cases ry
  obtain ⟨_, J⟩ := inst_of' I hA
  obtain ⟨_, J2⟩ := inst_of' I hB
  exact bin1LL R I.kIn J J2 (wpAny_mono (run_fn (vs := [.ref a, .ref b]) (us := [.ref a, .ref b]) (dvs := []) F hr bF .nil hx I (.cons rfl (.cons rfl .nil)) h) (fun _ _ z => back_of z) (fun _ _ z => z)))
/-- a comparison by the left hand's own method -/
structure LCmp (K : PySem.W.Frag) (C f : Addr) (op : CmpOp) : Prop where
  l : PySem.W.findIn K (.ref C) (cmpInfo op).2.1 = some (some (.ref f))
  lf : PySem.W.isFn K (.ref f) = true
/-- the left hand an own object, the right one anything whose class is known -/
def rCmO (K : PySem.W.Frag) (C : Addr) (sp : Sp) (E : XK) : R2 := fun x y H Q => ∃ a dx fs tb, x = .ref a ∧ H a = some (.ins C dx fs) ∧ TyX K H y tb ∧ PySem.W.notFirst K C tb = true ∧ sp [x, y] H Q E
theorem op_cmO {op : CmpOp} (R : LCmp X.K C f op) (rich : ∀ a b, compareOp op a b = richCompare op a b) (hu : X.A.units < cLine) (F : FnOk X.prog X.w X.K X.mg X.base CX1 k f fd ["self", "other"] sp) (hr : Room k X.A)
    (bF : Binds X.K fd ["self", "other"] []) (hx : Passes CX1 X E) : OpR X (compareOp op) (rCmO X.K C sp E) := by
  intro pins s σ H x y v u Q I rx ry h
  rw [rich]
  obtain ⟨a, dx, fs, tb, rfl, hA, hT, hN, h⟩ := h
  cases rx
  obtain ⟨_, J⟩ := inst_of' I hA
  obtain ⟨P, KT, hP, _⟩ := kit_of I ry hT
  obtain ⟨m, fr⟩ := I.fr
  exact PySem.W.cmp_K hu fr I.ok.mod.kin J (KT.ty _ _ I.kIn hP) hN R.l R.lf (wpAny_mono (run_fn (vs := [.ref a, y]) (us := [.ref a, u]) (dvs := []) F hr bF .nil hx I (.cons rfl (.cons ry .nil)) h) (fun _ _ z => back_of z) (fun _ _ z => z))
end
/-! ### C(*xs) -/
section
variable {X : Cx} {CX : CXT} {k : Nat} {f C : Addr} {sp : Sp} {E : XK} {x : Str} {e : Expr} {te : TE} {p sp_ pos : Pos}
def tMakeS (K : PySem.W.Frag) (C : Addr) (sp : Sp) (E : XK) (te : TE) : TE := fun σ H Q => te σ H fun y H1 => ∃ a xs, y = V.ref a ∧ (SqT K H1 a xs ∨ SqL K H1 a xs) ∧ ∀ x dx, H1 x = Option.none → H1 dx = Option.none → dx ≠ x →
  sp (V.ref x :: xs) (upd (upd H1 dx (.own x)) x (.ins C dx [])) (fun v H2 => v = .non ∧ Q (.ref x) H2) E
theorem pe_makeS (M : Mk X.K C f) (F : FnR X.prog X.w X.K X.mg X.base CX k f sp) (hr : Room (k + 1) X.A) (hg : Gl X x) (hm : X.mg x = some (.ref C)) (hx : Passes CX X E) (he : PE X e te) (hd : (x == ("__debug__" : Str)) = false := by decide)
    (hst : starEach [.Starred e sp_] X.env = [(true, eval e X.env)] := by rfl) :
    PE X (.Call (.Name x p) [.Starred e sp_] [] pos) (tMakeS X.K C sp E te) := by
  refine ⟨fun pins s σ H Q I h => ?_⟩
  refine wpAny_Call_Name_kw (ld_glob I hg hm ?_ hd)
  refine PySem.W.callWith_S (h₀ := X.base) I.ok.mod.kin M.kp (thn (he.run pins s σ H _ I h) fun v s1 ⟨y, H1, I1, ry, a, xs, ey, hxs, q⟩ => ?_) hst
  subst ey
  obtain rfl : v = Value.ref a := ry
  exact StX.star_any I1 hxs fun us s2 I2 rv => ⟨I2.kIn, StX.run_makeR M F hr hx I2 rv q⟩
end
/-! ### iter(t) of a tuple, list(o) -/
def TItO (t it : Addr) (i : Nat) : HO := .ext fun h => h.IsTupleIter it t i
def TItE : HO := .ext fun _ => True
section
variable {X : Cx} {pins : List (Addr × Obj)} {σ : St} {H : Hp} {s : Shared} {t it : Addr} {i : Nat}
theorem titO_ok {P : Program} {w : World} {H : Hp} {h : Heap} (e : h.IsTupleIter it t i) : ObjOk P w H h it (TItO t it i) := ⟨e, (let ⟨o, ho, _⟩ := e; ⟨o, ho⟩), fun h1 h2 q k => let ⟨o, ho, r⟩ := q; ⟨o, k o ho, r⟩⟩
theorem titE_ok {P : Program} {w : World} {H : Hp} {h : Heap} (e : ∃ o, h.get? it = some o) : ObjOk P w H h it TItE := ⟨trivial, e, fun _ _ _ _ => trivial⟩
theorem titO_get (I : Inv X pins σ H s) (e : H it = some (TItO t it i)) : s.heap.IsTupleIter it t i := (I.hok it _ e).1
def rIterT (K : PySem.W.Frag) : List V → Hp → VK → Prop := fun xs H Q => ∃ (l : Addr) (zs : List V), xs = [.ref l] ∧ SqT K H l zs ∧ ∀ it, H it = none → Q (.ref it) (upd H it (TItO l it 0))
theorem call_iterT : CallR X (.builtin "iter") (rIterT X.K) := by
  intro pins s σ H xs us Q I r h
  obtain ⟨l, zs, rfl, hq, q⟩ := h
  obtain rfl := Vals.ref1 r
  obtain ⟨its, rv, pl, hz⟩ := I.tuple hq
  have pl' : s.heap.IsTuple l its.toArray := pl
  refine Calls.call_function_entry (by decide +kernel) (by decide +kernel) PySem.W.kdk_entry_iter (PySem.W.kdk_args_iter _) ?_
  unfold Builtin.«iter»
  refine wpAny_bind (m := someArgs "iter" 1 2 _) (wpAny_of_eq (a := [Value.ref l]) (by first | rfl | kernel_rfl!) ?_)
  show wpAny _ _ (pyIter (.ref l) >>= _) _ _ _
  refine wpAny_bind (wpAny_pyIter_tuple pl' ?_)
  exact wpAny_pure ⟨_, rfl, .ref s.heap.objs.size, _, I.laid (t' := s.toks) (fun b u e => Heap.get?_push_of_some _ e) (Nat.le_refl _) (titO_ok ⟨_, Heap.get?_push_size _ rfl, rfl, rfl⟩), rfl, q _ (I.hok.fresh (Nat.le_refl _))⟩
end
/-- the iterator over a tuple has no more: its own object is still there -/
theorem tup_stop {prog : Program} {w : World} {A : Around} {E : Value → Shared → Prop} {s : Shared} {u b : Addr} {k : Nat} {zs : Array Value} {R : Option Value → Shared → Prop} (calm : A.handled = none) (hu : s.heap.IsTupleIter u b k) (hb : s.heap.IsTuple b zs) (no : zs[k]? = none)
    (fin : ∀ h', Heap.ExtBut u s.heap h' → (∃ o, h'.get? u = some o) → R none { s with heap := h' }) : wpAny (model prog w) A (pyNext (.ref u)) R E s := by
  have hT := hu.typeIs
  obtain ⟨ou, gu, _, du⟩ := id hu
  obtain ⟨ob, gb, _, nb, db⟩ := hb
  unfold pyNext
  have st := PySem.F.slot_tuple_iterator_next
  refine wpAny_bind (wpAny_attempt (wpAny_callSpecial?_slot (name := Str.ofString "__next__") hT st (wpAny_call_entry st hT PySem.F.entry_tuple_iterator_next ?_ (PySem.F.args_tuple_iterator_next_1 _))))
  show wpAny _ _ (field (.ref u) 0 >>= _) _ _ s
  refine wpAny_bind (wpAny_field gu du (x := .ref b) rfl ?_)
  have nn : ¬ ((Value.ref b == Value.none) = true) := Bool.false_ne_true
  show wpAny _ _ (if (Value.ref b == Value.none) = true then _ else _) _ _ s
  rw [if_neg nn]
  show wpAny _ _ (field (.ref u) 1 >>= _) _ _ s
  refine wpAny_bind (wpAny_field gu du (x := .int k 0) rfl ?_)
  show wpAny _ _ (seqItems? (.ref b) >>= _) _ _ s
  refine wpAny_bind (wpAny_seqItems gb db ?_)
  simp only [Int.toNat_natCast, no]
  refine wpAny_bind (wpAny_rule (wpAny_bind (wpAny_setField gu du (by simp) ?_)))
  show wpAny _ _ (newExc (.type "StopIteration") [] >>= _) _ _ _
  refine wpAny_bind ?_
  simp only [newExc, newTuple]
  refine wpAny_bind (wpAny_newObj_type ?_ (by size_fits))
  refine wpAny_bind (m := firstArgMember _ _) (wpAny_of_eq (a := Value.none) (by first | rfl | (simp only [firstArgMember]; rfl)) ?_)
  refine wpAny_newObj_type ?_ (by size_fits)
  simp only [raiseNew]
  refine wpAny_bind (wpAny_handled ?_)
  first | rw [show A.in1.handled = none from calm] | rw [calm]
  refine wpAny_bind (wpAny_pure (wpAny_throw ?_))
  refine wpAny_bind (wpAny_isInstance (T := "StopIteration") (b := true) ⟨_, Heap.get?_push_size _ rfl, rfl⟩ isSubtype_stop ?_)
  exact wpAny_pure (fin _ (((Heap.SameBut.update ..).extBut.push _).push _) ⟨_, Heap.get?_push_of_some _ (Heap.get?_push_of_some _ (Heap.get?_update_self _ gu (Obj.isFreed_of_fields (Obj.data_mapFields du _))))⟩)
/-- a class whose instances are walked by what __iter__ gives, with a length -/
structure LtC (K : PySem.W.Frag) (C fi fl : Addr) : Prop where
  it : PySem.W.findIn K (.ref C) "__iter__" = some (some (.ref fi))
  itF : PySem.W.isFn K (.ref fi) = true
  ln : PySem.W.findIn K (.ref C) "__len__" = some (some (.ref fl))
  lnF : PySem.W.typeIn K (.ref fl) = some (.type "function")
section
variable {X : Cx} {pins : List (Addr × Obj)} {σ : St} {H : Hp} {s : Shared} {A1 : Around} {q it t : Addr}
theorem upd_two {H : Hp} {a b : Addr} {o o' u u' : HO} (ne : b ≠ a) : upd (upd (upd (upd H a o) b u) a o') b u' = upd (upd H a o') b u' := by
  funext c
  by_cases hb : c = b
  · rw [hb, upd_same, upd_same]
  · rw [upd_ne hb, upd_ne hb]
    by_cases ha : c = a
    · rw [ha, upd_same, upd_same]
    · rw [upd_ne ha, upd_ne ha, upd_ne hb, upd_ne ha]
theorem upd_two' {H : Hp} {a b : Addr} {o o' u : HO} (ne : b ≠ a) : upd (upd (upd H a o) b u) a o' = upd (upd H a o') b u := by
  funext c
  by_cases ha : c = a
  · rw [ha, upd_same, upd_ne ne.symm, upd_same]
  · rw [upd_ne ha]
    by_cases hb : c = b
    · rw [hb, upd_same, upd_same]
    · rw [upd_ne hb, upd_ne hb, upd_ne ha, upd_ne ha]
/-- the loop of list.extend over the tuple's iterator -/
theorem tl_loop {zs : List V} {Rs : Result → Shared → Prop} (calm : A1.in1.handled = none) (hne : q ≠ it) (htq : t ≠ q) (hti : t ≠ it) (hz : zs.length < sizeLine) (ht : H t = some (.tup zs)) (hdone : ∀ s, Inv X pins σ (upd (upd H it TItE) q (.lst zs)) s → Rs (.ok (.ret .none)) s) :
    ∀ (n i : Nat) (s : Shared), n + i = zs.length → Inv X pins σ (upd (upd H it (TItO t it i)) q (.lst (zs.take i))) s → codeAny (model X.prog X.w) A1 (.builtin "list.extend.loop" ⟨[.ref q, .ref it, .none], []⟩) Rs s := by
  intro n
  induction n with
  | zero =>
    intro i s hn I
    refine codeAny_builtin PySem.F.entry_extend_loop ?_
    rw [Around.under_plainId PySem.F.plain_extend_loop _]
    have hitH : (upd (upd H it (TItO t it i)) q (.lst (zs.take i))) it = some (TItO t it i) := by rw [upd_ne hne.symm, upd_same]
    have htH : (upd (upd H it (TItO t it i)) q (.lst (zs.take i))) t = some (.tup zs) := by rw [upd_ne htq, upd_ne hti]; exact ht
    obtain ⟨its, rv, pl, _⟩ := I.tuple (SqT.of htH)
    have pl' : s.heap.IsTuple t its.toArray := pl
    have nomore : zs[i]? = none := by rw [List.getElem?_eq_none_iff]; omega
    have mu : Mut ((upd (upd H it (TItO t it i)) q (.lst (zs.take i))) it) := by rw [hitH]; exact True.intro
    refine wpAny_bind (tup_stop calm (titO_get I hitH) pl' (by rw [List.getElem?_toArray]; exact rv.none_of nomore) fun h' eb ex => ?_)
    have I2 := I.write (x := it) (e := it) (t' := s.toks) mu (.inl rfl) (fun b o nb z => eb b o nb z) ex (titE_ok ex)
    rw [upd_two' hne, show zs.take i = zs from List.take_of_length_le (by omega)] at I2
    exact wpAny_pure (hdone _ I2)
  | succ n ih =>
    intro i s hn I
    refine codeAny_builtin PySem.F.entry_extend_loop ?_
    rw [Around.under_plainId PySem.F.plain_extend_loop _]
    have hitH : (upd (upd H it (TItO t it i)) q (.lst (zs.take i))) it = some (TItO t it i) := by rw [upd_ne hne.symm, upd_same]
    have htH : (upd (upd H it (TItO t it i)) q (.lst (zs.take i))) t = some (.tup zs) := by rw [upd_ne htq, upd_ne hti]; exact ht
    obtain ⟨its, rv, pl, _⟩ := I.tuple (SqT.of htH)
    have pl' : s.heap.IsTuple t its.toArray := pl
    have lt : i < zs.length := by omega
    obtain ⟨v, hv⟩ : ∃ v, zs[i]? = some v := ⟨zs[i], List.getElem?_eq_getElem lt⟩
    obtain ⟨wv, hw, rw'⟩ := rv.get hv
    have mu : Mut ((upd (upd H it (TItO t it i)) q (.lst (zs.take i))) it) := by rw [hitH]; exact True.intro
    refine wpAny_bind (wpAny_pyNext_tuple_item (titO_get I hitH) pl' (x := wv) (by rw [List.getElem?_toArray]; exact hw) fun h' hit' sb => ?_)
    have I2 := I.write (x := it) (e := it) (t' := s.toks) mu (.inl rfl) (fun b o nb z => (sb.2 b nb).trans z) (let ⟨o, ho, _⟩ := hit'; ⟨o, ho⟩) (titO_ok hit')
    have hq2 : (upd (upd (upd H it (TItO t it i)) q (.lst (zs.take i))) it (TItO t it (i + 1))) q = some (.lst (zs.take i)) := by rw [upd_ne hne, upd_same]
    obtain ⟨z, its2, k, r2, hl, e⟩ := I2.lstM hq2
    have len2 := r2.length
    rw [List.length_take] at len2
    show wpAny _ A1.in1 (updateSeq q (·.push wv) >>= _) _ _ _
    refine wpAny_bind (wpAny_updateSeq e rfl (wpAny_pure ⟨plainId_quiet PySem.F.plain_extend_loop _, ?_⟩) (by rw [List.size_toArray]; omega) (by show (its2.toArray.push wv).size ≤ sizeLine + 1; rw [Array.size_push, List.size_toArray]; omega))
    refine ih (i + 1) _ (by omega) ?_
    have I3 := I2.lset (f := (·.push wv)) (its' := its2 ++ [wv]) (t' := s.toks) hq2 e (by simp) (r2.append (.cons rw' .nil)) (by rw [List.length_append, List.length_singleton, List.length_take]; omega)
    rw [upd_two hne] at I3
    have e5 : zs.take i ++ [v] = zs.take (i + 1) := by rw [List.take_add_one, hv]; rfl
    rw [e5] at I3
    exact I3
end
/-- list(o), o walked by a tuple's iterator that __iter__ gives, of the length that __len__ gives -/
def rListLt (C : Addr) (spI spL : Sp) : List V → Hp → VK → Prop := fun xs H Q => ∃ a dx fs, xs = [.ref a] ∧ H a = some (.ins C dx fs) ∧
  ∀ q, H q = none → spI [.ref a] (upd H q (.lst [])) (fun v H1 => ∃ it t zs, v = .ref it ∧ H1 it = some (TItO t it 0) ∧ H1 t = some (.tup zs) ∧ H1 a = some (.ins C dx fs) ∧ H1 q = some (.lst []) ∧ zs.length < 1000 ∧
    spL [.ref a] H1 (fun v2 H2 => (∃ n : Nat, v2 = .int n ∧ n < 1000) ∧ H2 it = some (TItO t it 0) ∧ H2 t = some (.tup zs) ∧ H2 q = some (.lst []) ∧ Q (.ref q) (upd (upd H2 it TItE) q (.lst zs))) E0) E0
section
variable {X : Cx} {C fi fl : Addr} {fdI fdL : FuncData} {spI spL : Sp} {n : Nat}
theorem run0 {A : Around} {pins : List (Addr × Obj)} {σ : St} {H : Hp} {s : Shared} {Q : VK} {f a : Addr} {fd : FuncData} {sp : Sp} {P : Value → Shared → Prop} (sb : Sub X n A) (F : FnOk X.prog X.w X.K X.mg X.base CX0 n f fd ["self"] sp) (b : Binds X.K fd ["self"] []) (I : Inv X pins σ H s) (h : sp [.ref a] H Q E0)
    (k : ∀ v H' u s', Inv X pins σ H' s' → RelV v u → Q v H' → P u s') {E : Value → Shared → Prop} : wpAny (model X.prog X.w) A (call (.ref f) [.ref a]) P E s := by
  have e0 : Env0 X.prog X.w X.K X.mg X.base A X.stack s H := by
    have e := I.env0
    exact ⟨by rw [sb.fr]; exact e.frames, e.mod, e.bs, e.bsz, e.funs, e.frf, e.hok, e.bare⟩
  have hl := F.len _ _ _ _ h
  have r2 : Vals [V.ref a] [Value.ref a] := .cons rfl .nil
  have bb := b s [.ref a] I.kIn (by simpa using hl)
  refine wpAny_call (codeAny_mono (F.run A X.stack s H ⟨[.ref a], []⟩ [.ref a] [.ref a] Q E0 sb.room e0 (by simpa using bb) r2 h) fun r s' hq => ?_)
  cases r with
  | error e => exact False.elim hq
  | ok fl =>
    cases fl with
    | ret u =>
      obtain ⟨v, H', I', rv, q⟩ := I.after hq
      exact k v H' u s' I' rv q
    | next => exact False.elim hq
    | brk => exact False.elim hq
    | cont => exact False.elim hq
theorem call_listLt (hc : LtC X.K C fi fl) (calm : X.calm = true) (FI : FnOk X.prog X.w X.K X.mg X.base CX0 n fi fdI ["self"] spI) (bI : Binds X.K fdI ["self"] []) (FL : FnOk X.prog X.w X.K X.mg X.base CX0 n fl fdL ["self"] spL) (bL : Binds X.K fdL ["self"] [])
    (hr : Room (n + 3) X.A) : CallR X (.type "list") (rListLt C spI spL) := by
  intro pins s σ H xs us Q I rv h
  obtain ⟨a, dx, fs, rfl, ha, hq⟩ := h
  obtain ⟨u, rfl, ru⟩ := rv.one
  cases ru
  have sb3 : Sub X (n + 1) X.A.in1.in1 := Sub.in1 (Sub.in1 (⟨hr, rfl⟩ : Sub X (n + 3) X.A))
  have sb4 : Sub X n X.A.in1.in1.in1 := Sub.in1 sb3
  refine callType_codes (Q₁ := fun obj s₁ => obj = .ref s.heap.objs.size ∧ s₁ = { s with heap := s.heap.push { cls := .type "list", data := .seq #[] } }) PySem.F.called_list (PySem.F.typeCall_list_1 _) PySem.F.entry_list_init
    (code_list_new _ ⟨rfl, rfl⟩) fun obj s₁ h₁ => ?_
  obtain ⟨rfl, rfl⟩ := h₁
  generalize hqa : s.heap.objs.size = q
  have got : (s.heap.push { cls := .type "list", data := .seq #[] }).get? q = some { cls := .type "list", data := .seq #[] } := by rw [← hqa]; exact Heap.get?_push_size _ rfl
  refine ⟨⟨_, got, rfl⟩, PySem.F.args_list_init_2 _ _, ?_⟩
  have young : H q = none := I.hok.fresh (Nat.le_of_eq hqa)
  have I1 : Inv X pins σ (upd H q (.lst [])) { s with heap := s.heap.push { cls := .type "list", data := .seq #[] } } := by rw [← hqa]; exact I.lnew (its := []) (t' := s.toks) .nil (Nat.zero_le _)
  have go := hq q young
  show wpAny _ _ (do let old ← Builtin.List.listItems (.ref q); Builtin.List.listUpdate (.ref q) (fun _ => #[]); letGo old.toList.reverse; Builtin.List.listExtendWith (.ref q) (.ref a) .none) _ _ _
  refine wpAny_bind ?_
  unfold Builtin.List.listItems
  refine wpAny_bind (wpAny_seqItems got rfl (wpAny_pure ?_))
  show wpAny _ _ (updateSeq q (fun _ => #[]) >>= fun _ => letGo (#[] : Array Value).toList.reverse >>= fun _ => Builtin.List.listExtendWith (.ref q) (.ref a) .none) _ _ _
  refine wpAny_bind (wpAny_updateSeq got rfl ?_)
  have I2 := I1.lset (f := fun _ => #[]) (its := []) (its' := []) (ys := []) (t' := s.toks) upd_same got rfl .nil (Nat.zero_le _)
  rw [upd_upd] at I2
  refine wpAny_bind (wpAny_letGo ?_)
  have ha2 : upd H q (.lst []) a = some (.ins C dx fs) := by rw [upd_ne (ne_of_none ha young)]; exact ha
  have hne : q ≠ a := fun e => by rw [e] at young; rw [young] at ha; cases ha
  obtain ⟨_, J⟩ := inst_of' I2 ha2
  obtain ⟨m0, hF⟩ := I2.fr
  unfold Builtin.List.listExtendWith
  refine wpAny_bind (J.type.here ?_)
  have h1 : Builtin.List.listSameRef (.ref q) (.ref a) = false := by simp [Builtin.List.listSameRef, hne]
  have h2 : (Value.ref C == Value.type "list") = false := rfl
  have h3 : (Value.ref C == Value.type "tuple") = false := rfl
  simp only [h1, h2, h3, Bool.or_false, Bool.false_eq_true, if_false]
  refine wpAny_bind (PySem.W.owit_iter hF I2.ok.mod.kin J hc.it hc.itF ?_)
  refine run0 (sb3.mono (Nat.le_succ _)) FI bI I2 go ?_
  rintro v H1 u s1 J1 rv ⟨it, t, zs, rfl, hit, htu, ha3, hq3, hz, go2⟩
  cases rv
  have hT : s1.TypeIs (.ref it) "tuple_iterator" := (titO_get J1 hit).typeIs
  unfold PySem.W.OwitIt
  refine wpAny_specialOf hT PySem.F.slot_tuple_iterator_next.lookup ?_
  obtain ⟨_, J3⟩ := inst_of' J1 ha3
  refine wpAny_bind (wpAny_holding ?_)
  unfold Builtin.List.listLengthHint
  refine wpAny_bind (wpAny_bind (J3.type.here ((PySem.W.looks_findIn J1.kIn hc.ln).here ?_)))
  refine PySem.W.KFB.if_not rfl ?_
  dsimp only [Option.isSome]
  rw [if_pos rfl]
  refine wpAny_bind (wpAny_rule ?_)
  refine wpAny_bind (wpAny_attempt (len_ownK J1.kIn J3 hc.ln hc.lnF ?_))
  refine run0 sb4 FL bL J1 go2 ?_
  rintro v2 H2 u2 s2 J2 rv2 ⟨⟨k, rfl, hk⟩, hit2, htu2, hq2, fin⟩
  obtain ⟨tk, rfl⟩ := rv2
  refine ⟨k, tk, rfl, by omega, by omega, ?_⟩
  refine wpAny_bind (wpAny_pure (a := some (k : Int)) ?_)
  have small : Builtin.List.listTooLong (k : Int).toNat = false := by
    unfold Builtin.List.listTooLong
    have e := sizeLine_eq
    exact decide_eq_false (by rw [Int.toNat_natCast]; omega)
  dsimp only
  rw [small, if_neg Bool.false_ne_true]
  refine wpAny_pure ?_
  have J4 : Inv X pins σ H2 { heap := s2.heap, gens := s2.gens, drawn := s2.drawn, toks := s2.toks + 1, os := s2.os } := J2.tok _
  have hnd : X.A.handled = none := J4.ok.hd calm
  have nqi : q ≠ it := fun e => by rw [e, hit2] at hq2; cases hq2
  have ntq : t ≠ q := fun e => by rw [e, hq2] at htu2; cases htu2
  have nti : t ≠ it := fun e => by rw [e, hit2] at htu2; cases htu2
  have zl : zs.length < sizeLine := by have e := sizeLine_eq; omega
  have start : upd (upd H2 it (TItO t it 0)) q (.lst (zs.take 0)) = H2 := by
    funext c
    by_cases hc2 : c = q
    · rw [hc2, upd_same, hq2]; rfl
    · rw [upd_ne hc2]
      by_cases hc3 : c = it
      · rw [hc3, upd_same, hit2]
      · rw [upd_ne hc3]
  have run : ∀ s3, Inv X pins σ H2 s3 → codeAny (model X.prog X.w) X.A.in1 (.builtin "list.extend.loop" ⟨[.ref q, .ref it, .none], []⟩) (wants (fun r s₂ => r = .none ∧ EP X pins σ Q (.ref q) s₂) X.xe) s3 := fun s3 J5 =>
    tl_loop (A1 := X.A.in1) (Rs := wants (fun r s₂ => r = .none ∧ EP X pins σ Q (.ref q) s₂) X.xe) (H := H2) (zs := zs) hnd nqi ntq nti zl htu2 (fun s4 J6 => ⟨rfl, .ref q, _, J6, rfl, fin⟩) zs.length 0 s3 (by omega) (by rw [start]; exact J5)
  obtain ⟨z, its, kk, r3, hl3, e3⟩ := J4.lstM hq2
  cases r3
  refine wpAny_ite_split (fun _ => ?_) (fun _ => wpAny_pure ⟨plainId_quiet PySem.F.plain_extend_loop _, run _ J4⟩)
  refine wpAny_bind (wpAny_rule ?_)
  refine wpAny_bind ?_
  show wpAny _ _ (updateSeq q (·.push .none) >>= fun _ => updateSeq q (·.pop)) _ _ _
  refine wpAny_bind (wpAny_updateSeq e3 rfl ?_)
  have J7 := J4.lset (f := (·.push Value.none)) (its' := [Value.none]) (ys := [.non]) (t' := s2.toks + 1) hq2 e3 (by simp) (.cons rfl .nil) (by rw [List.length_singleton, sizeLine_eq]; decide)
  obtain ⟨z4, its4, k4, r4, hl4, e4⟩ := J7.lstM upd_same
  obtain ⟨u4, rfl, ru4⟩ := r4.one
  refine wpAny_updateSeq e4 rfl ?_ (by show 1 ≤ sizeLine; rw [sizeLine_eq]; decide) (by show 0 ≤ sizeLine + 1; exact Nat.zero_le _)
  refine wpAny_pure ⟨plainId_quiet PySem.F.plain_extend_loop _, run _ ?_⟩
  have J8 := J7.lset (f := (·.pop)) (its := [u4]) (its' := []) (ys := []) (t' := s2.toks + 1) upd_same e4 (by rfl) .nil (Nat.zero_le _)
  rw [upd_upd] at J8
  have same : upd H2 q (.lst []) = H2 := by
    funext c
    by_cases hc2 : c = q
    · rw [hc2, upd_same, hq2]
    · rw [upd_ne hc2]
  rw [same] at J8
  exact J8
end
/-! ### t == u of two tuples of texts -/
theorem dp_txts {K : PySem.W.Frag} {H : Hp} {a : Addr} : ∀ L : List Str, DpAll K H (L.map V.str) (L.map PyData.str)
  | [] => .nil
  | z :: r => .cons (.str z) (dp_txts (a := a) r)
theorem strOk_asc {z : Str} (h : ∀ c ∈ z.cps.toList, c < 128) : PyData.strOk z = true := by
  unfold PyData.strOk
  rw [Array.all_eq_true]
  intro i hi
  have m : z.cps[i] ∈ z.cps.toList := by simp
  exact decide_eq_true (Nat.lt_trans (h _ m) (by decide))
/-- signs of the common kind -/
def Asc (L : List Str) : Prop := ∀ z ∈ L, ∀ c ∈ z.cps.toList, c < 128
theorem lay_txts : ∀ L : List Str, Asc L → PyData.canLayAll0 (L.map PyData.str) = true
  | [], _ => rfl
  | z :: r, h => by
    show (PyData.strOk z && PyData.canLayAll0 (r.map PyData.str)) = true
    rw [lay_txts r fun y hy => h y (List.mem_cons_of_mem _ hy), Bool.and_true]
    exact strOk_asc (h z List.mem_cons_self)
theorem depth_txts : ∀ L : List Str, PyData.depthAll (L.map PyData.str) = 0
  | [] => rfl
  | z :: r => by
    show max (PyData.depth (.str z)) (PyData.depthAll (r.map PyData.str)) = 0
    rw [depth_txts r]
    rfl
theorem shaped_txts (L : List Str) (h : Asc L) : SeqAt.shaped (.tuple (L.map PyData.str)) = true := by
  unfold SeqAt.shaped
  have a : PyData.canLay0 (.tuple (L.map PyData.str)) = true := lay_txts L h
  have b : PyData.depth (.tuple (L.map PyData.str)) = PyData.depthAll (L.map PyData.str) + 1 := rfl
  rw [a, b, depth_txts]
  rfl
theorem eqv_txts : ∀ L M : List Str, PyData.eqvAll (L.map PyData.str) (M.map PyData.str) = decide (L = M)
  | [], [] => rfl
  | [], _ :: _ => rfl
  | _ :: _, [] => rfl
  | x :: xs, y :: ys => by
    show ((x == y) && PyData.eqvAll (xs.map PyData.str) (ys.map PyData.str)) = _
    rw [eqv_txts xs ys]
    by_cases e : x = y
    · subst e
      simp
    · have e2 : (x == y) = false := beq_eq_false_iff_ne.mpr e
      rw [e2]
      simp [e]
/-- two tuples of texts -/
def rEqTT (K : PySem.W.Frag) : R2 := fun x y H Q => ∃ (a b : Addr) (L M : List Str), x = .ref a ∧ y = .ref b ∧ SqT K H a (L.map V.str) ∧ SqT K H b (M.map V.str) ∧ Asc L ∧ Asc M ∧ Q (.bl (decide (L = M))) H
theorem op_eqTT {X : Cx} (hu : X.A.units + 64 < cLine) : OpR X (compareOp .Eq) (rEqTT X.K) := fun pins s σ H x y v u Q I rx ry h => by
  obtain ⟨a, b, L, M, rfl, rfl, ha, hb, l1, l2, q⟩ := h
  refine op_eqD hu pins s σ H _ _ v u Q I rx ry ⟨_, _, .tup ha (dp_txts (a := a) L), .tup hb (dp_txts (a := b) M), shaped_txts L l1, shaped_txts M l2, ?_⟩
  have e : PyData.eqv (.tuple (L.map PyData.str)) (.tuple (M.map PyData.str)) = decide (L = M) := eqv_txts L M
  rw [e]
  exact q
end L2

/-! an own operator, and C(*xs), where what is raised is wished for at the caller's slots -/
namespace L2
open PySem PySem.Spec PyProof.Rows Er
section
variable {X : Cx} {CX1 : CXT} {C f : Addr} {fd : FuncData} {k : Nat} {sp : Sp} {E : St → XK} {a b : Expr} {ta tb : TE} {pos : Pos}
def tOOS (C : Addr) (sp : Sp) (E : St → XK) (ta tb : TE) : TE := fun σ H Q => ta σ H fun x H1 => tb σ H1 fun y H2 => rOO C sp (E σ) x y H2 Q
theorem pe_OOS {op : Operator} (R : LOp X.K C f op.info.2) (F : FnOk X.prog X.w X.K X.mg X.base CX1 k f fd ["self", "other"] sp) (hr : Room k X.A)
    (bF : Binds X.K fd ["self", "other"] []) (hx : ∀ σ, PassesAt CX1 X σ (E σ)) (ha : PE X a ta) (hb : PE X b tb) : PE X (.BinOp a op b pos) (tOOS C sp E ta tb) := by
  refine ⟨fun pins s σ H Q I h => ?_⟩
  refine wpAny_BinOp (binT ha hb I h fun v u s2 x y H2 I2 rx ry q => bin_of ?_)
  obtain ⟨a, dx, fs, b, dy, gs, rfl, rfl, hA, hB, h⟩ := q
  cases rx
  cases ry
  obtain ⟨_, J⟩ := inst_of' I2 hA
  obtain ⟨_, J2⟩ := inst_of' I2 hB
  exact bin1LL R I2.kIn J J2 (wpAny_mono (run_fnS (vs := [.ref a, .ref b]) (us := [.ref a, .ref b]) F hr bF (hx σ) I2 (.cons rfl (.cons rfl .nil)) h) (fun _ _ z => back_of z) (fun _ _ z => z))
end
end L2

/-! o(x), o and x locals: a term that says nothing of the caller's frame, for use in a comprehension -/
namespace L2
open PySem PySem.Spec PyProof.Rows Er StX
section
variable {X : Cx} {CX1 : CXT} {C g : Addr} {k i j : Nat} {sp : Sp} {E : XK} {fe e : Expr} {pos : Pos}
def tCallV (C : Addr) (sp : Sp) (E : XK) (i j : Nat) : TE := fun σ H Q => ∃ (a dx : Addr) (fs : List (Str × V)) (y : V), σ[i]? = some (some (.ref a)) ∧ σ[j]? = some (some y) ∧ H a = some (.ins C dx fs) ∧ sp [.ref a, y] H Q E
theorem pe_callV (hf : PE X fe (tVar i)) (c : StX.CallO X.K C g) (F : FnR X.prog X.w X.K X.mg X.base CX1 k g sp) (hr : Room k X.A) (hx : Passes CX1 X E) (ha : PA X [e] (tCons (tVar j) tNil))
    (ht : eval (.Call fe [e] [] pos) X.env = (do callWith pos (← eval fe X.env) [] (backTo pos (starEach [e] X.env)) (backToKw pos (keywordEach [] X.env))) := by rfl)
    (he : starEach [e] X.env = (false, eval e X.env) :: starEach [] X.env := by rfl) (hpl : (backTo pos (starEach [] X.env)).any (·.1) = false := by rfl) : PE X (.Call fe [e] [] pos) (tCallV C sp E i j) :=
  ⟨fun pins s σ H Q I ⟨a, dx, fs, y, h1, h2, h3, h4⟩ => (StX.pe_callO hf c F hr hx ha ht he hpl).run pins s σ H Q I ⟨_, h1, a, rfl, _, h2, .inr ⟨dx, fs, h3⟩, h4⟩⟩
theorem ev_callV {σ : L2.St} {H : Hp} {a dx : Addr} {fs : List (Str × V)} {y z : V} (h1 : σ[i]? = some (some (.ref a))) (h2 : σ[j]? = some (some y)) (h3 : H a = some (.ins C dx fs)) (h4 : Evl.SpV sp [.ref a, y] H z) : Evl.Ev (tCallV C sp E i j) σ H z := fun H1 e Q q =>
  ⟨a, dx, fs, y, h1, h2, e _ _ h3, h4 H1 e Q q E⟩
end
end L2

/-! an own method, defaults and all, where what it raises is wished for at the caller's slots -/
namespace L2
open PySem PySem.Spec PyProof.Rows
section
variable {X : Cx} {CX1 : CXT} {k : Nat} {C f : Addr} {fd : FuncData} {ps : List Str} {sp : Sp} {dvs : List V} {ds : List Value} {E : St → XK} {m : Str} {pos apos : Pos} {o e : Expr} {es : List Expr} {ta : TE} {t : TA}
def tMethSD (C : Addr) (m : Str) (sp : Sp) (dvs : List V) (E : St → XK) (ta : TE) (t : TA) : TE := fun σ H Q => tMeth C m sp dvs (E σ) ta t σ H Q
theorem pe_methSD {pl : Sem Bool} (he : PE X o ta) (c : Cls X.K C) (hm : Meth X.K C m f) (F : FnOk X.prog X.w X.K X.mg X.base CX1 k f fd ps sp) (hr : Room k X.A) (hb : Binds X.K fd ps ds) (hd : Vals dvs ds) (hx : ∀ σ, PassesAt CX1 X σ (E σ)) (ha : PA X (e :: es) t)
    (hst : starEach (e :: es) X.env = (false, eval e X.env) :: starEach es X.env := by rfl) (hpl : (backTo pos (starEach es X.env)).any (·.1) = false := by rfl)
    (ht : eval (.Call (.Attribute o m apos) (e :: es) [] pos) X.env = (do
      let ov ← eval o X.env
      standAt apos.atName
      let (f, first) ← holding [ov] (getMethod ov m pl)
      callWith pos f first (backTo pos (starEach (e :: es) X.env)) (backToKw pos (keywordEach [] X.env))) := by rfl) :
    PE X (.Call (.Attribute o m apos) (e :: es) [] pos) (tMethSD C m sp dvs E ta t) := ⟨fun pins s σ H Q I h =>
  PySem.W.methodCall_KW (pl := pl) (thn (he.run pins s σ H _ I h) fun u s1 ⟨x, H1, I1, rx, a, dx, fs, ex, ea, l, q⟩ => by
    subst ex
    obtain rfl : u = Value.ref a := rx
    exact getmeth_ok I1 ea c hm l (PySem.W.callWith_K (first := [.ref a]) (h₀ := X.base) I.ok.mod.kin hm.kp (thn (ha.run pos pins s1 σ H1 _ I1 q) fun us s2 ⟨vs, H2, I2, r, q2⟩ => ⟨I2.kIn, run_fnSD (us := .ref a :: us) (vs := .ref a :: vs) F hr hb hd (hx σ) I2 (.cons rfl r) q2⟩) hst hpl)) ht⟩
end
end L2

/-! o(x), x any expression: a term that says nothing of the caller's frame; the same where what is raised is wished for at the caller's slots -/
namespace L2
open PySem PySem.Spec PyProof.Rows Er StX
section
variable {X : Cx} {CX1 : CXT} {C g : Addr} {k : Nat} {sp : Sp} {E : XK} {ES : St → XK} {fe e : Expr} {es : List Expr} {pos : Pos} {tf : TE} {t : TA}
def ins0 (H : Hp) (a C : Addr) : Prop := (∃ dx vs, SlX.Slt H a C dx vs) ∨ ∃ dx fs, H a = some (.ins C dx fs)
def tCallT (C : Addr) (sp : Sp) (E : XK) (tf : TE) (t : TA) : TE := fun σ H Q => tf σ H fun y H1 => ∃ a, y = V.ref a ∧ t σ H1 fun vs H2 => ins0 H2 a C ∧ sp (V.ref a :: vs) H2 Q E
theorem pe_callT (hf : PE X fe tf) (c : StX.CallO X.K C g) (F : FnR X.prog X.w X.K X.mg X.base CX1 k g sp) (hr : Room k X.A) (hx : Passes CX1 X E) (ha : PA X (e :: es) t)
    (ht : eval (.Call fe (e :: es) [] pos) X.env = (do callWith pos (← eval fe X.env) [] (backTo pos (starEach (e :: es) X.env)) (backToKw pos (keywordEach [] X.env))) := by rfl)
    (he : starEach (e :: es) X.env = (false, eval e X.env) :: starEach es X.env := by rfl) (hpl : (backTo pos (starEach es X.env)).any (·.1) = false := by rfl) : PE X (.Call fe (e :: es) [] pos) (tCallT C sp E tf t) :=
  StX.pe_callO hf c F hr hx ha ht he hpl
theorem ev_callT {σ : L2.St} {H : Hp} {a dx : Addr} {fs : List (Str × V)} {vs : List V} {z : V} (h1 : Evl.Ev tf σ H (.ref a)) (h3 : H a = some (.ins C dx fs)) (h2 : Evl.EvA t σ H vs) (h4 : Evl.SpV sp (.ref a :: vs) H z) : Evl.Ev (tCallT C sp E tf t) σ H z := fun H1 e Q q =>
  h1 H1 e _ fun H2 e2 => ⟨a, rfl, h2 H2 (e.trans e2) _ fun H3 e3 => ⟨.inr ⟨dx, fs, e3 _ _ (e2 _ _ (e _ _ h3))⟩, h4 H3 ((e.trans e2).trans e3) Q (fun H4 e4 => q H4 ((e2.trans e3).trans e4)) E⟩⟩
def tCallTS (C : Addr) (sp : Sp) (E : St → XK) (tf : TE) (t : TA) : TE := fun σ H Q => tCallT C sp (E σ) tf t σ H Q
theorem run_fnRS {pins : List (Addr × Obj)} {σ : St} {H : Hp} {s : Shared} {Q : VK} {f : Addr} {us : List Value} {vs : List V} (F : FnR X.prog X.w X.K X.mg X.base CX1 k f sp) (hr : Room k X.A) (hx : PassesAt CX1 X σ (ES σ)) (I : Inv X pins σ H s) (r : Vals vs us) (h : sp vs H Q (ES σ)) :
    codeAny (model X.prog X.w) X.A (.call (.ref f) ⟨us, []⟩) (fun r s' => match r with | .ok (.ret v) => EP X pins σ Q v s' | .ok _ => False | .error e => X.xe e s') s :=
  codeAny_mono (F X.A X.stack s H us vs Q (ES σ) hr I.env0 r h) fun r s' hq => by
    match r, hq with
    | .error e, hq => exact hx pins H s e s' I hq
    | .ok (.ret u), hq => exact I.after hq
theorem pe_callTS (hf : PE X fe tf) (c : StX.CallO X.K C g) (F : FnR X.prog X.w X.K X.mg X.base CX1 k g sp) (hr : Room k X.A) (hx : ∀ σ, PassesAt CX1 X σ (ES σ)) (ha : PA X (e :: es) t)
    (ht : eval (.Call fe (e :: es) [] pos) X.env = (do callWith pos (← eval fe X.env) [] (backTo pos (starEach (e :: es) X.env)) (backToKw pos (keywordEach [] X.env))) := by rfl)
    (he : starEach (e :: es) X.env = (false, eval e X.env) :: starEach es X.env := by rfl) (hpl : (backTo pos (starEach es X.env)).any (·.1) = false := by rfl) : PE X (.Call fe (e :: es) [] pos) (tCallTS C sp ES tf t) := by
  refine ⟨fun pins s σ H Q I h => Call_ (thn (hf.run pins s σ H _ I h) fun u s1 ⟨y, H1, I1, ry, a, ey, q⟩ => ?_) ht⟩
  subst ey
  obtain rfl : u = Value.ref a := ry
  refine callO_with (thn (ha.run pos pins s1 σ H1 _ I1 q) fun us s2 ⟨vs, H2, I2, r, hi, q2⟩ => ?_) he hpl
  obtain ⟨ox, od, J, hd⟩ := insC_at (X := X) I2 hi
  exact ⟨⟨C, ox, od, J, hd⟩, wpAny_call (PySem.W.kco_code I2.kIn J hd c.at_ c.fn c.fi (run_fnRS (us := .ref a :: us) (vs := .ref a :: vs) F hr (hx σ) I2 (.cons rfl r) q2))⟩
end
end L2

/-! l == m of two lists of texts -/
namespace L2
open PySem PySem.Spec PyProof.Rows Er
theorem shaped_txtL (L : List Str) (h : Asc L) : SeqAt.shaped (.list (L.map PyData.str)) = true := by
  unfold SeqAt.shaped
  have a : PyData.canLay0 (.list (L.map PyData.str)) = true := lay_txts L h
  have b : PyData.depth (.list (L.map PyData.str)) = PyData.depthAll (L.map PyData.str) + 1 := rfl
  rw [a, b, depth_txts]
  rfl
def rEqLL (K : PySem.W.Frag) : R2 := fun x y H Q => ∃ (a b : Addr) (L M : List Str), x = .ref a ∧ y = .ref b ∧ SqL K H a (L.map V.str) ∧ SqL K H b (M.map V.str) ∧ Asc L ∧ Asc M ∧ Q (.bl (decide (L = M))) H
theorem op_eqLL {X : Cx} (hu : X.A.units + 64 < cLine) : OpR X (compareOp .Eq) (rEqLL X.K) := fun pins s σ H x y v u Q I rx ry h => by
  obtain ⟨a, b, L, M, rfl, rfl, ha, hb, l1, l2, q⟩ := h
  refine op_eqD hu pins s σ H _ _ v u Q I rx ry ⟨_, _, .lst ha (dp_txts (a := a) L), .lst hb (dp_txts (a := b) M), shaped_txtL L l1, shaped_txtL M l2, ?_⟩
  have e : PyData.eqv (.list (L.map PyData.str)) (.list (M.map PyData.str)) = decide (L = M) := eqv_txts L M
  rw [e]
  exact q
end L2

/-! o[x] by the class's own __getitem__; the same in a try -/
namespace L2
open PySem PySem.Spec PyProof.Rows Er
section
variable {X : Cx} {CX1 : CXT} {C f : Addr} {fd : FuncData} {k : Nat} {sp : Sp} {E : XK} {ES : St → XK} {a b : Expr} {ta tb : TE} {pos : Pos} {p2 : Str}
/-- the class's own o[x] -/
structure GetO (K : PySem.W.Frag) (C f : Addr) : Prop where
  at_ : PySem.W.findIn K (.ref C) "__getitem__" = some (some (.ref f))
  fi : PySem.W.fnIn K f = true
  fn : PySem.W.isFn K (.ref f) = true
def tSubOS (C : Addr) (sp : Sp) (E : St → XK) (ta tb : TE) : TE := fun σ H Q => ta σ H fun x H1 => tb σ H1 fun y H2 => ∃ (o dx : Addr) (fs : List (Str × V)), x = .ref o ∧ H2 o = some (.ins C dx fs) ∧ sp [x, y] H2 Q (E σ)
theorem pe_subOS (G : GetO X.K C f) (F : FnOk X.prog X.w X.K X.mg X.base CX1 k f fd ["self", p2] sp) (hr : Room (k + 1) X.A) (bF : Binds X.K fd ["self", p2] []) (hx : ∀ σ, PassesAt CX1 X σ (ES σ)) (ha : PE X a ta) (hb : PE X b tb)
    (hsl : ∀ x i, subscripted b true (.ref x) i = runValue (.builtin "lifetime.subscript" ⟨[.ref x, i], []⟩) := by intro _ _; with_unfolding_all rfl) : PE X (.Subscript a b pos) (tSubOS C sp ES ta tb) := by
  refine ⟨fun pins s σ H Q I h => ?_⟩
  refine Subscript_ (binT ha hb I h fun v u s2 x y H2 I2 rx ry q => ?_)
  obtain ⟨o, dx, fs, rfl, hA, h⟩ := q
  cases rx
  obtain ⟨_, J⟩ := inst_of' I2 hA
  obtain ⟨m, fr⟩ := I2.fr
  refine PySem.W.sub_K fr I2.ok.mod.kin J G.at_ G.fi G.fn ?_ (hsl _ _)
  have hr' : Room k ({ X.A with units := X.A.units + 1 } : Around) := ⟨hr.hd, by have := hr.dp; show X.A.depth + 3 * k + 5 < _; omega, by have := hr.un; show X.A.units + 1 + 16 * k + 200 < cLine; omega⟩
  have z := run_fnS (X := { X with A := { X.A with units := X.A.units + 1 } }) (CX := CX1) (vs := [.ref o, y]) (us := [.ref o, u]) F hr' bF (fun pins H s e s' I' h' => hx σ pins H s e s' I'.out1 h') (I2.in1 _) (.cons rfl (.cons ry .nil)) h
  exact thn z fun u s1 hh => by
    obtain ⟨v, H1, I1, rv, q⟩ := hh
    exact ⟨v, H1, I1.out1, rv, q⟩
def tSubO (C : Addr) (sp : Sp) (E : XK) (ta tb : TE) : TE := tSubOS C sp (fun _ => E) ta tb
theorem pe_subO (G : GetO X.K C f) (F : FnOk X.prog X.w X.K X.mg X.base CX1 k f fd ["self", p2] sp) (hr : Room (k + 1) X.A) (bF : Binds X.K fd ["self", p2] []) (hx : Passes CX1 X E) (ha : PE X a ta) (hb : PE X b tb)
    (hsl : ∀ x i, subscripted b true (.ref x) i = runValue (.builtin "lifetime.subscript" ⟨[.ref x, i], []⟩) := by intro _ _; with_unfolding_all rfl) : PE X (.Subscript a b pos) (tSubO C sp E ta tb) :=
  pe_subOS G F hr bF (fun σ pins H s e s' I h => hx pins σ H s e s' I h) ha hb hsl
theorem ev_subO {σ : L2.St} {H : Hp} {o dx : Addr} {fs : List (Str × V)} {y z : V} (h1 : Evl.Ev ta σ H (.ref o)) (h2 : Evl.Ev tb σ H y) (h3 : H o = some (.ins C dx fs)) (h4 : Evl.SpV sp [.ref o, y] H z) : Evl.Ev (tSubO C sp E ta tb) σ H z := fun H1 e Q q =>
  h1 H1 e _ fun H2 e2 => h2 H2 (e.trans e2) _ fun H3 e3 => ⟨o, dx, fs, rfl, e3 _ _ (e2 _ _ (e _ _ h3)), h4 H3 ((e.trans e2).trans e3) Q (fun H4 e4 => q H4 ((e2.trans e3).trans e4)) E⟩
end
end L2

/-! x not in o by the class's own __contains__ -/
namespace L2
open PySem PySem.Spec PyProof.Rows Er
section
variable {X : Cx} {CX CX1 : CXT} {C f g : Addr} {fd gd : FuncData} {k : Nat} {sp : Sp} {E : XK}
theorem op_niO (hf : PySem.W.findIn X.K (.ref C) "__contains__" = some (some (.ref g))) (hi : PySem.W.isFn X.K (.ref g) = true)
    (F : FnOk X.prog X.w X.K X.mg X.base CX k g fd ["self", "x"] sp) (hr : Room k X.A) (b : Binds X.K fd ["self", "x"] []) (hx : Passes CX X E) : OpR X (compareOp .NotIn) (rInO C true sp E) := by
  intro pins s σ H x y v u Q I rx ry h
  obtain ⟨a, dx, fs, rfl, ha, h⟩ := h
  cases ry
  obtain ⟨_, J⟩ := inst_of' I ha
  obtain ⟨m, fr⟩ := I.fr
  refine PySem.W.notIn_K fr I.ok.mod.kin J hf hi (wpAny_mono (run_fn (vs := [.ref a, x]) (us := [.ref a, v]) (dvs := []) F hr b .nil hx I (.cons rfl (.cons rx .nil)) h) (fun r s' z => ?_) (fun _ _ z => z))
  obtain ⟨v', H1, I1, rv, bb, ev, q⟩ := z
  subst ev
  obtain rfl : r = Value.bool bb := rv
  exact wpAny_pure ⟨.bl (!bb), H1, I1, rfl, q⟩
end
end L2

namespace Hk10
open PySem PySem.Spec PyProof.Rows L2 Er
def topS (i : Nat) : Stmt := PySem.Challenge.pw_renamedhorn_k10_turnings_made.main.body.getD i (.Pass ⟨0, 0, 0, 0⟩)
abbrev s_is_name : Stmt := (topS 11)
abbrev N_is_name : List Str := ["text", "sign"]
theorem sc_is_name : FnScope N_is_name ["text"] (defScope s_is_name) := ⟨rfl, rfl, rfl, by decide +kernel, rfl, by decide +kernel, by decide +kernel⟩
abbrev s_is_literal : Stmt := (topS 12)
abbrev N_is_literal : List Str := ["text"]
theorem sc_is_literal : FnScope N_is_literal ["text"] (defScope s_is_literal) := ⟨rfl, rfl, rfl, by decide +kernel, rfl, by decide +kernel, by decide +kernel⟩
abbrev s_check_name : Stmt := (topS 13)
abbrev N_check_name : List Str := ["text"]
theorem sc_check_name : FnScope N_check_name ["text"] (defScope s_check_name) := ⟨rfl, rfl, rfl, by decide +kernel, rfl, by decide +kernel, by decide +kernel⟩
abbrev s_check_literal : Stmt := (topS 14)
abbrev N_check_literal : List Str := ["text"]
theorem sc_check_literal : FnScope N_check_literal ["text"] (defScope s_check_literal) := ⟨rfl, rfl, rfl, by decide +kernel, rfl, by decide +kernel, by decide +kernel⟩
abbrev s_name_of : Stmt := (topS 15)
abbrev N_name_of : List Str := ["literal"]
theorem sc_name_of : FnScope N_name_of ["literal"] (defScope s_name_of) := ⟨rfl, rfl, rfl, by decide +kernel, rfl, by decide +kernel, by decide +kernel⟩
abbrev s_is_positive : Stmt := (topS 16)
abbrev N_is_positive : List Str := ["literal"]
theorem sc_is_positive : FnScope N_is_positive ["literal"] (defScope s_is_positive) := ⟨rfl, rfl, rfl, by decide +kernel, rfl, by decide +kernel, by decide +kernel⟩
abbrev s_negated : Stmt := (topS 17)
abbrev N_negated : List Str := ["literal"]
theorem sc_negated : FnScope N_negated ["literal"] (defScope s_negated) := ⟨rfl, rfl, rfl, by decide +kernel, rfl, by decide +kernel, by decide +kernel⟩
abbrev s_names_in_order : Stmt := (topS 18)
abbrev N_names_in_order : List Str := ["names", "name"]
theorem sc_names_in_order : FnScope N_names_in_order ["names"] (defScope s_names_in_order) := ⟨rfl, rfl, rfl, by decide +kernel, rfl, by decide +kernel, by decide +kernel⟩
abbrev s_both_signs : Stmt := (topS 19)
abbrev N_both_signs : List Str := ["names", "name", "literal"]
theorem sc_both_signs : FnScope N_both_signs ["names"] (defScope s_both_signs) := ⟨rfl, rfl, rfl, by decide +kernel, rfl, by decide +kernel, by decide +kernel⟩
abbrev s_in_order : Stmt := (topS 20)
abbrev N_in_order : List Str := ["literals", "names", "literal"]
theorem sc_in_order : FnScope N_in_order ["literals"] (defScope s_in_order) := ⟨rfl, rfl, rfl, by decide +kernel, rfl, by decide +kernel, by decide +kernel⟩
abbrev s_check_signs : Stmt := (topS 21)
abbrev N_check_signs : List Str := ["ordered", "literal"]
theorem sc_check_signs : FnScope N_check_signs ["ordered"] (defScope s_check_signs) := ⟨rfl, rfl, rfl, by decide +kernel, rfl, by decide +kernel, by decide +kernel⟩
abbrev s_few_names : Stmt := (topS 22)
abbrev N_few_names : List Str := ["names", "limit", "ordered"]
theorem sc_few_names : FnScope N_few_names ["names", "limit"] (defScope s_few_names) := ⟨rfl, rfl, rfl, by decide +kernel, rfl, by decide +kernel, by decide +kernel⟩
abbrev s_Clause_init : Stmt := (inClass (topS 24) 1)
abbrev N_Clause_init : List Str := ["self", "literals", "ordered"]
theorem sc_Clause_init : FnScope N_Clause_init ["self", "literals"] (defScope s_Clause_init) := ⟨rfl, rfl, rfl, by decide +kernel, rfl, by decide +kernel, by decide +kernel⟩
abbrev s_turned_literal : Stmt := (topS 26)
abbrev N_turned_literal : List Str := ["turning", "literal"]
theorem sc_turned_literal : FnScope N_turned_literal ["turning", "literal"] (defScope s_turned_literal) := ⟨rfl, rfl, rfl, by decide +kernel, rfl, by decide +kernel, by decide +kernel⟩
abbrev s_turned_clause : Stmt := (topS 27)
abbrev N_turned_clause : List Str := ["turning", "clause", "literals", "literal"]
theorem sc_turned_clause : FnScope N_turned_clause ["turning", "clause"] (defScope s_turned_clause) := ⟨rfl, rfl, rfl, by decide +kernel, rfl, by decide +kernel, by decide +kernel⟩
abbrev s_names_apart : Stmt := (topS 28)
abbrev N_names_apart : List Str := ["one", "other", "ones", "others", "name"]
theorem sc_names_apart : FnScope N_names_apart ["one", "other"] (defScope s_names_apart) := ⟨rfl, rfl, rfl, by decide +kernel, rfl, by decide +kernel, by decide +kernel⟩
abbrev s_Turning_init : Stmt := (inClass (topS 29) 1)
abbrev N_Turning_init : List Str := ["self", "names"]
theorem sc_Turning_init : FnScope N_Turning_init ["self", "names"] (defScope s_Turning_init) := ⟨rfl, rfl, rfl, by decide +kernel, rfl, by decide +kernel, by decide +kernel⟩
abbrev s_Turning_iter : Stmt := (inClass (topS 29) 7)
abbrev N_Turning_iter : List Str := ["self"]
theorem sc_Turning_iter : FnScope N_Turning_iter ["self"] (defScope s_Turning_iter) := ⟨rfl, rfl, rfl, by decide +kernel, rfl, by decide +kernel, by decide +kernel⟩
abbrev s_Turning_len : Stmt := (inClass (topS 29) 8)
abbrev N_Turning_len : List Str := ["self"]
theorem sc_Turning_len : FnScope N_Turning_len ["self"] (defScope s_Turning_len) := ⟨rfl, rfl, rfl, by decide +kernel, rfl, by decide +kernel, by decide +kernel⟩
abbrev s_Turning_contains : Stmt := (inClass (topS 29) 9)
abbrev N_Turning_contains : List Str := ["self", "x"]
theorem sc_Turning_contains : FnScope N_Turning_contains ["self", "x"] (defScope s_Turning_contains) := ⟨rfl, rfl, rfl, by decide +kernel, rfl, by decide +kernel, by decide +kernel⟩
abbrev s_Turning_getitem : Stmt := (inClass (topS 29) 10)
abbrev N_Turning_getitem : List Str := ["self", "at"]
theorem sc_Turning_getitem : FnScope N_Turning_getitem ["self", "at"] (defScope s_Turning_getitem) := ⟨rfl, rfl, rfl, by decide +kernel, rfl, by decide +kernel, by decide +kernel⟩
abbrev s_Turning_eq : Stmt := (inClass (topS 29) 11)
abbrev N_Turning_eq : List Str := ["self", "other"]
theorem sc_Turning_eq : FnScope N_Turning_eq ["self", "other"] (defScope s_Turning_eq) := ⟨rfl, rfl, rfl, by decide +kernel, rfl, by decide +kernel, by decide +kernel⟩
abbrev s_Turning_xor : Stmt := (inClass (topS 29) 16)
abbrev N_Turning_xor : List Str := ["self", "other", "names"]
theorem sc_Turning_xor : FnScope N_Turning_xor ["self", "other"] (defScope s_Turning_xor) := ⟨rfl, rfl, rfl, by decide +kernel, rfl, by decide +kernel, by decide +kernel⟩
abbrev s_Turning_str : Stmt := (inClass (topS 29) 20)
abbrev N_Turning_str : List Str := ["self"]
theorem sc_Turning_str : FnScope N_Turning_str ["self"] (defScope s_Turning_str) := ⟨rfl, rfl, rfl, by decide +kernel, rfl, by decide +kernel, by decide +kernel⟩
abbrev s__law_source : Stmt := (topS 31)
abbrev N__law_source : List Str := ["_law_script"]
theorem sc__law_source : FnScope N__law_source ["_law_script"] (defScope s__law_source) := ⟨rfl, rfl, rfl, by decide +kernel, rfl, by decide +kernel, by decide +kernel⟩
abbrev s__law_take : Stmt := (topS 32)
abbrev N__law_take : List Str := ["_law_source_here", "_law_many", "_law_mixed", "_law_cell", "_law_value"]
theorem sc__law_take : FnScope N__law_take ["_law_source_here", "_law_many"] (defScope s__law_take) := ⟨rfl, rfl, rfl, by decide +kernel, rfl, by decide +kernel, by decide +kernel⟩
abbrev s__law_word : Stmt := (topS 33)
abbrev N__law_word : List Str := ["_law_source_here", "_law_size", "_law_letters", "_law_signs", "_law_word_here", "_law_number", "_law_k"]
theorem sc__law_word : FnScope N__law_word ["_law_source_here", "_law_size"] (defScope s__law_word) := ⟨rfl, rfl, rfl, by decide +kernel, rfl, by decide +kernel, by decide +kernel⟩
abbrev s__law_names : Stmt := (topS 34)
abbrev N__law_names : List Str := ["_law_source_here", "_law_many", "_law_letters", "_law_style", "_law_size", "_law_at", "_law_base", "_law_shift", "_law_pace", "_law_names_here", "_law_k", "_law_letter"]
theorem sc__law_names : FnScope N__law_names ["_law_source_here", "_law_many"] (defScope s__law_names) := ⟨rfl, rfl, rfl, by decide +kernel, rfl, by decide +kernel, by decide +kernel⟩
abbrev s__law_sorted : Stmt := (topS 35)
abbrev N__law_sorted : List Str := ["_law_names_here", "_law_result", "_law_name", "_law_each"]
theorem sc__law_sorted : FnScope N__law_sorted ["_law_names_here"] (defScope s__law_sorted) := ⟨rfl, rfl, rfl, by decide +kernel, rfl, by decide +kernel, by decide +kernel⟩
abbrev s__law_same : Stmt := (topS 36)
abbrev N__law_same : List Str := ["_law_one", "_law_other", "_law_lists", "_law_k"]
theorem sc__law_same : FnScope N__law_same ["_law_one", "_law_other"] (defScope s__law_same) := ⟨rfl, rfl, rfl, by decide +kernel, rfl, by decide +kernel, by decide +kernel⟩
abbrev s__law_turning : Stmt := (topS 37)
abbrev N__law_turning : List Str := ["_law_names_here", "_law_turning_here", "_law_name"]
theorem sc__law_turning : FnScope N__law_turning ["_law_names_here"] (defScope s__law_turning) := ⟨rfl, rfl, rfl, by decide +kernel, rfl, by decide +kernel, by decide +kernel⟩
abbrev s__law_bad : Stmt := (topS 38)
abbrev N__law_bad : List Str := ["_law_source_here", "_law_name", "_law_barred", "_law_style", "_law_at"]
theorem sc__law_bad : FnScope N__law_bad ["_law_source_here", "_law_name"] (defScope s__law_bad) := ⟨rfl, rfl, rfl, by decide +kernel, rfl, by decide +kernel, by decide +kernel⟩
abbrev s__law_no_name : Stmt := (topS 39)
abbrev N__law_no_name : List Str := ["_law_source_here", "_law_name"]
theorem sc__law_no_name : FnScope N__law_no_name ["_law_source_here", "_law_name"] (defScope s__law_no_name) := ⟨rfl, rfl, rfl, by decide +kernel, rfl, by decide +kernel, by decide +kernel⟩
abbrev s__law_made : Stmt := (topS 40)
abbrev N__law_made : List Str := ["_law_row"]
theorem sc__law_made : FnScope N__law_made ["_law_row"] (defScope s__law_made) := ⟨rfl, rfl, rfl, by decide +kernel, rfl, by decide +kernel, by decide +kernel⟩
abbrev s__law_passed : Stmt := (topS 41)
abbrev N__law_passed : List Str := ["_law_source_here", "_law_names_here", "_law_many", "_law_shift", "_law_row", "_law_at", "_law_k"]
theorem sc__law_passed : FnScope N__law_passed ["_law_source_here", "_law_names_here"] (defScope s__law_passed) := ⟨rfl, rfl, rfl, by decide +kernel, rfl, by decide +kernel, by decide +kernel⟩
abbrev s__law_due : Stmt := (topS 42)
abbrev N__law_due : List Str := ["_law_row", "_law_bad_here", "_law_text"]
theorem sc__law_due : FnScope N__law_due ["_law_row", "_law_bad_here"] (defScope s__law_due) := ⟨rfl, rfl, rfl, by decide +kernel, rfl, by decide +kernel, by decide +kernel⟩
abbrev s__law_told : Stmt := (topS 43)
abbrev N__law_told : List Str := ["_law_row", "error", "_law_turning_here", "_law_right"]
theorem sc__law_told : FnScope N__law_told ["_law_row"] (defScope s__law_told) := ⟨rfl, rfl, rfl, by decide +kernel, rfl, by decide +kernel, by decide +kernel⟩
abbrev s__law_no_index : Stmt := (topS 44)
abbrev N__law_no_index : List Str := ["_law_turning_here", "_law_text", "error", "_law_turned"]
theorem sc__law_no_index : FnScope N__law_no_index ["_law_turning_here", "_law_text"] (defScope s__law_no_index) := ⟨rfl, rfl, rfl, by decide +kernel, rfl, by decide +kernel, by decide +kernel⟩
abbrev s__law_reports : Stmt := (topS 45)
abbrev N__law_reports : List Str := ["_law_turning_here", "_law_turned", "_law_names_here", "_law_strings", "_law_ordered", "_law_text", "_law_due_here", "_law_name", "_law_string"]
theorem sc__law_reports : FnScope N__law_reports ["_law_turning_here", "_law_turned", "_law_names_here", "_law_strings"] (defScope s__law_reports) := ⟨rfl, rfl, rfl, by decide +kernel, rfl, by decide +kernel, by decide +kernel⟩
abbrev s_law : Stmt := (topS 46)
abbrev N_law : List Str := ["_law_script", "_law_source_here", "_law_names_here", "_law_row", "_law_bad_here", "_law_back", "_law_large", "_law_turning_here", "_law_strings", "_law_k", "_law_one", "_law_equal"]
theorem sc_law : FnScope N_law ["_law_script"] (defScope s_law) := ⟨rfl, rfl, rfl, by decide +kernel, rfl, by decide +kernel, by decide +kernel⟩
abbrev me_BadName : PySem.Expr := (.JoinedStr [(.Constant (.str "not a name: ") 0 ⟨10, 27, 10, 39⟩), (.FormattedValue (.Name "text" ⟨10, 40, 10, 44⟩) 114 none ⟨10, 39, 10, 47⟩)] ⟨10, 25, 10, 48⟩)
abbrev ea_BadName : Arguments := (args1 "text" ⟨9, 17, 9, 21⟩ ⟨9, 23, 9, 27⟩)
abbrev eb_BadName : List Stmt := [supS me_BadName ⟨10, 8, 10, 13⟩ ⟨10, 8, 10, 15⟩ ⟨10, 8, 10, 24⟩ ⟨10, 8, 10, 49⟩ ⟨10, 8, 10, 49⟩, keepS "text" ⟨11, 8, 11, 12⟩ ⟨11, 8, 11, 17⟩ ⟨11, 20, 11, 24⟩ ⟨11, 8, 11, 24⟩]
abbrev me_BadLiteral : PySem.Expr := (.JoinedStr [(.Constant (.str "not a literal: ") 0 ⟨15, 27, 15, 42⟩), (.FormattedValue (.Name "text" ⟨15, 43, 15, 47⟩) 114 none ⟨15, 42, 15, 50⟩)] ⟨15, 25, 15, 51⟩)
abbrev ea_BadLiteral : Arguments := (args1 "text" ⟨14, 17, 14, 21⟩ ⟨14, 23, 14, 27⟩)
abbrev eb_BadLiteral : List Stmt := [supS me_BadLiteral ⟨15, 8, 15, 13⟩ ⟨15, 8, 15, 15⟩ ⟨15, 8, 15, 24⟩ ⟨15, 8, 15, 52⟩ ⟨15, 8, 15, 52⟩, keepS "text" ⟨16, 8, 16, 12⟩ ⟨16, 8, 16, 17⟩ ⟨16, 20, 16, 24⟩ ⟨16, 8, 16, 24⟩]
abbrev me_BothSigns : PySem.Expr := (.JoinedStr [(.FormattedValue (.Name "name" ⟨20, 28, 20, 32⟩) (-1) none ⟨20, 27, 20, 33⟩), (.Constant (.str " stands in both signs") 0 ⟨20, 33, 20, 54⟩)] ⟨20, 25, 20, 55⟩)
abbrev ea_BothSigns : Arguments := (args1 "name" ⟨19, 17, 19, 21⟩ ⟨19, 23, 19, 27⟩)
abbrev eb_BothSigns : List Stmt := [supS me_BothSigns ⟨20, 8, 20, 13⟩ ⟨20, 8, 20, 15⟩ ⟨20, 8, 20, 24⟩ ⟨20, 8, 20, 56⟩ ⟨20, 8, 20, 56⟩, keepS "name" ⟨21, 8, 21, 12⟩ ⟨21, 8, 21, 17⟩ ⟨21, 20, 21, 24⟩ ⟨21, 8, 21, 24⟩]
abbrev me_TooMany : PySem.Expr := (.JoinedStr [(.Constant (.str "there may be at most ") 0 ⟨25, 27, 25, 48⟩), (.FormattedValue (.Name "limit" ⟨25, 49, 25, 54⟩) (-1) none ⟨25, 48, 25, 55⟩)] ⟨25, 25, 25, 56⟩)
abbrev ea_TooMany : Arguments := (args1 "limit" ⟨24, 17, 24, 21⟩ ⟨24, 23, 24, 28⟩)
abbrev eb_TooMany : List Stmt := [supS me_TooMany ⟨25, 8, 25, 13⟩ ⟨25, 8, 25, 15⟩ ⟨25, 8, 25, 24⟩ ⟨25, 8, 25, 57⟩ ⟨25, 8, 25, 57⟩, keepS "limit" ⟨26, 8, 26, 12⟩ ⟨26, 8, 26, 18⟩ ⟨26, 21, 26, 26⟩ ⟨26, 8, 26, 26⟩]
theorem fld_limit : Fld "limit" := ⟨fun _ _ _ _ _ _ _ _ _ _ _ _ _ _ => rfl, rfl, by decide, rfl, rfl, rfl, by decide⟩
theorem fld_name : Fld "name" := ⟨fun _ _ _ _ _ _ _ _ _ _ _ _ _ _ => rfl, rfl, by decide, rfl, rfl, rfl, by decide⟩
theorem fld_text : Fld "text" := ⟨fun _ _ _ _ _ _ _ _ _ _ _ _ _ _ => rfl, rfl, by decide, rfl, rfl, rfl, by decide⟩
structure Txt (P : Program) (K : PySem.W.Frag) (mg : Str → Option Value) where
  C_Clause : Addr
  g_Clause : mg "Clause" = some (.ref C_Clause)
  cl_Clause : Cls K C_Clause
  mi_Clause : PySem.W.makesIn K C_Clause = true
  kc_Clause : PySem.W.keepIn K (.ref C_Clause) = true
  ins_Clause : C8.InsC K C_Clause
  na_Clause_literals : NoAttr K C_Clause "literals"
  C_Turning : Addr
  g_Turning : mg "Turning" = some (.ref C_Turning)
  cl_Turning : Cls K C_Turning
  mi_Turning : PySem.W.makesIn K C_Turning = true
  kc_Turning : PySem.W.keepIn K (.ref C_Turning) = true
  ins_Turning : C8.InsC K C_Turning
  na_Turning_turned : NoAttr K C_Turning "turned"
  kt_str_Clause : PySem.W.kitOne K (.type "str") (.ref C_Clause) = some false
  R_Clause : ClX.CRead K C_Clause (.type "type")
  V_Clause_LIMIT : ∃ u, ClX.CVal K C_Clause (.type "type") "LIMIT" (.int 6) u
  R_Turning : ClX.CRead K C_Turning (.type "type")
  V_Turning_LIMIT : ∃ u, ClX.CVal K C_Turning (.type "type") "LIMIT" (.int 12) u
  f_is_name : Addr
  d_is_name : FuncData
  F_is_name : Fun K "is_name" "is_name" s_is_name f_is_name d_is_name
  b_is_name : Binds K d_is_name ["text"] []
  g_is_name : mg "is_name" = some (.ref f_is_name)
  f_is_literal : Addr
  d_is_literal : FuncData
  F_is_literal : Fun K "is_literal" "is_literal" s_is_literal f_is_literal d_is_literal
  b_is_literal : Binds K d_is_literal ["text"] []
  g_is_literal : mg "is_literal" = some (.ref f_is_literal)
  f_check_name : Addr
  d_check_name : FuncData
  F_check_name : Fun K "check_name" "check_name" s_check_name f_check_name d_check_name
  b_check_name : Binds K d_check_name ["text"] []
  g_check_name : mg "check_name" = some (.ref f_check_name)
  f_check_literal : Addr
  d_check_literal : FuncData
  F_check_literal : Fun K "check_literal" "check_literal" s_check_literal f_check_literal d_check_literal
  b_check_literal : Binds K d_check_literal ["text"] []
  g_check_literal : mg "check_literal" = some (.ref f_check_literal)
  f_name_of : Addr
  d_name_of : FuncData
  F_name_of : Fun K "name_of" "name_of" s_name_of f_name_of d_name_of
  b_name_of : Binds K d_name_of ["literal"] []
  g_name_of : mg "name_of" = some (.ref f_name_of)
  f_is_positive : Addr
  d_is_positive : FuncData
  F_is_positive : Fun K "is_positive" "is_positive" s_is_positive f_is_positive d_is_positive
  b_is_positive : Binds K d_is_positive ["literal"] []
  g_is_positive : mg "is_positive" = some (.ref f_is_positive)
  f_negated : Addr
  d_negated : FuncData
  F_negated : Fun K "negated" "negated" s_negated f_negated d_negated
  b_negated : Binds K d_negated ["literal"] []
  g_negated : mg "negated" = some (.ref f_negated)
  f_names_in_order : Addr
  d_names_in_order : FuncData
  F_names_in_order : Fun K "names_in_order" "names_in_order" s_names_in_order f_names_in_order d_names_in_order
  b_names_in_order : Binds K d_names_in_order ["names"] []
  g_names_in_order : mg "names_in_order" = some (.ref f_names_in_order)
  f_both_signs : Addr
  d_both_signs : FuncData
  F_both_signs : Fun K "both_signs" "both_signs" s_both_signs f_both_signs d_both_signs
  b_both_signs : Binds K d_both_signs ["names"] []
  g_both_signs : mg "both_signs" = some (.ref f_both_signs)
  f_in_order : Addr
  d_in_order : FuncData
  F_in_order : Fun K "in_order" "in_order" s_in_order f_in_order d_in_order
  b_in_order : Binds K d_in_order ["literals"] []
  g_in_order : mg "in_order" = some (.ref f_in_order)
  f_check_signs : Addr
  d_check_signs : FuncData
  F_check_signs : Fun K "check_signs" "check_signs" s_check_signs f_check_signs d_check_signs
  b_check_signs : Binds K d_check_signs ["ordered"] []
  g_check_signs : mg "check_signs" = some (.ref f_check_signs)
  f_few_names : Addr
  d_few_names : FuncData
  F_few_names : Fun K "few_names" "few_names" s_few_names f_few_names d_few_names
  b_few_names : Binds K d_few_names ["names", "limit"] []
  g_few_names : mg "few_names" = some (.ref f_few_names)
  f_Clause_init : Addr
  d_Clause_init : FuncData
  F_Clause_init : Fun K "__init__" "Clause.__init__" s_Clause_init f_Clause_init d_Clause_init
  m_Clause_init : PySem.W.findIn K (.ref C_Clause) "__init__" = some (some (.ref f_Clause_init))
  i_Clause_init : PySem.W.isFn K (.ref f_Clause_init) = true
  f_turned_literal : Addr
  d_turned_literal : FuncData
  F_turned_literal : Fun K "turned_literal" "turned_literal" s_turned_literal f_turned_literal d_turned_literal
  b_turned_literal : Binds K d_turned_literal ["turning", "literal"] []
  g_turned_literal : mg "turned_literal" = some (.ref f_turned_literal)
  f_turned_clause : Addr
  d_turned_clause : FuncData
  F_turned_clause : Fun K "turned_clause" "turned_clause" s_turned_clause f_turned_clause d_turned_clause
  b_turned_clause : Binds K d_turned_clause ["turning", "clause"] []
  g_turned_clause : mg "turned_clause" = some (.ref f_turned_clause)
  f_names_apart : Addr
  d_names_apart : FuncData
  F_names_apart : Fun K "names_apart" "names_apart" s_names_apart f_names_apart d_names_apart
  b_names_apart : Binds K d_names_apart ["one", "other"] []
  g_names_apart : mg "names_apart" = some (.ref f_names_apart)
  f_Turning_init : Addr
  d_Turning_init : FuncData
  F_Turning_init : Fun K "__init__" "Turning.__init__" s_Turning_init f_Turning_init d_Turning_init
  m_Turning_init : PySem.W.findIn K (.ref C_Turning) "__init__" = some (some (.ref f_Turning_init))
  i_Turning_init : PySem.W.isFn K (.ref f_Turning_init) = true
  f_Turning_iter : Addr
  d_Turning_iter : FuncData
  F_Turning_iter : Fun K "__iter__" "Turning.__iter__" s_Turning_iter f_Turning_iter d_Turning_iter
  m_Turning_iter : PySem.W.findIn K (.ref C_Turning) "__iter__" = some (some (.ref f_Turning_iter))
  i_Turning_iter : PySem.W.isFn K (.ref f_Turning_iter) = true
  b_Turning_iter : Binds K d_Turning_iter ["self"] []
  f_Turning_len : Addr
  d_Turning_len : FuncData
  F_Turning_len : Fun K "__len__" "Turning.__len__" s_Turning_len f_Turning_len d_Turning_len
  m_Turning_len : PySem.W.findIn K (.ref C_Turning) "__len__" = some (some (.ref f_Turning_len))
  i_Turning_len : PySem.W.isFn K (.ref f_Turning_len) = true
  b_Turning_len : Binds K d_Turning_len ["self"] []
  f_Turning_contains : Addr
  d_Turning_contains : FuncData
  F_Turning_contains : Fun K "__contains__" "Turning.__contains__" s_Turning_contains f_Turning_contains d_Turning_contains
  m_Turning_contains : PySem.W.findIn K (.ref C_Turning) "__contains__" = some (some (.ref f_Turning_contains))
  i_Turning_contains : PySem.W.isFn K (.ref f_Turning_contains) = true
  b_Turning_contains : Binds K d_Turning_contains ["self", "x"] []
  f_Turning_getitem : Addr
  d_Turning_getitem : FuncData
  F_Turning_getitem : Fun K "__getitem__" "Turning.__getitem__" s_Turning_getitem f_Turning_getitem d_Turning_getitem
  m_Turning_getitem : PySem.W.findIn K (.ref C_Turning) "__getitem__" = some (some (.ref f_Turning_getitem))
  i_Turning_getitem : PySem.W.isFn K (.ref f_Turning_getitem) = true
  b_Turning_getitem : Binds K d_Turning_getitem ["self", "at"] []
  f_Turning_eq : Addr
  d_Turning_eq : FuncData
  F_Turning_eq : Fun K "__eq__" "Turning.__eq__" s_Turning_eq f_Turning_eq d_Turning_eq
  m_Turning_eq : PySem.W.findIn K (.ref C_Turning) "__eq__" = some (some (.ref f_Turning_eq))
  i_Turning_eq : PySem.W.isFn K (.ref f_Turning_eq) = true
  b_Turning_eq : Binds K d_Turning_eq ["self", "other"] []
  f_Turning_xor : Addr
  d_Turning_xor : FuncData
  F_Turning_xor : Fun K "__xor__" "Turning.__xor__" s_Turning_xor f_Turning_xor d_Turning_xor
  m_Turning_xor : PySem.W.findIn K (.ref C_Turning) "__xor__" = some (some (.ref f_Turning_xor))
  i_Turning_xor : PySem.W.isFn K (.ref f_Turning_xor) = true
  b_Turning_xor : Binds K d_Turning_xor ["self", "other"] []
  f_Turning_str : Addr
  d_Turning_str : FuncData
  F_Turning_str : Fun K "__str__" "Turning.__str__" s_Turning_str f_Turning_str d_Turning_str
  m_Turning_str : PySem.W.findIn K (.ref C_Turning) "__str__" = some (some (.ref f_Turning_str))
  i_Turning_str : PySem.W.isFn K (.ref f_Turning_str) = true
  b_Turning_str : Binds K d_Turning_str ["self"] []
  f__law_source : Addr
  d__law_source : FuncData
  F__law_source : Fun K "_law_source" "_law_source" s__law_source f__law_source d__law_source
  b__law_source : Binds K d__law_source ["_law_script"] []
  g__law_source : mg "_law_source" = some (.ref f__law_source)
  f__law_take : Addr
  d__law_take : FuncData
  F__law_take : Fun K "_law_take" "_law_take" s__law_take f__law_take d__law_take
  b__law_take : Binds K d__law_take ["_law_source_here", "_law_many"] []
  g__law_take : mg "_law_take" = some (.ref f__law_take)
  f__law_word : Addr
  d__law_word : FuncData
  F__law_word : Fun K "_law_word" "_law_word" s__law_word f__law_word d__law_word
  b__law_word : Binds K d__law_word ["_law_source_here", "_law_size"] []
  g__law_word : mg "_law_word" = some (.ref f__law_word)
  f__law_names : Addr
  d__law_names : FuncData
  F__law_names : Fun K "_law_names" "_law_names" s__law_names f__law_names d__law_names
  b__law_names : Binds K d__law_names ["_law_source_here", "_law_many"] []
  g__law_names : mg "_law_names" = some (.ref f__law_names)
  f__law_sorted : Addr
  d__law_sorted : FuncData
  F__law_sorted : Fun K "_law_sorted" "_law_sorted" s__law_sorted f__law_sorted d__law_sorted
  b__law_sorted : Binds K d__law_sorted ["_law_names_here"] []
  g__law_sorted : mg "_law_sorted" = some (.ref f__law_sorted)
  f__law_same : Addr
  d__law_same : FuncData
  F__law_same : Fun K "_law_same" "_law_same" s__law_same f__law_same d__law_same
  b__law_same : Binds K d__law_same ["_law_one", "_law_other"] []
  g__law_same : mg "_law_same" = some (.ref f__law_same)
  f__law_turning : Addr
  d__law_turning : FuncData
  F__law_turning : Fun K "_law_turning" "_law_turning" s__law_turning f__law_turning d__law_turning
  b__law_turning : Binds K d__law_turning ["_law_names_here"] []
  g__law_turning : mg "_law_turning" = some (.ref f__law_turning)
  f__law_bad : Addr
  d__law_bad : FuncData
  F__law_bad : Fun K "_law_bad" "_law_bad" s__law_bad f__law_bad d__law_bad
  b__law_bad : Binds K d__law_bad ["_law_source_here", "_law_name"] []
  g__law_bad : mg "_law_bad" = some (.ref f__law_bad)
  f__law_no_name : Addr
  d__law_no_name : FuncData
  F__law_no_name : Fun K "_law_no_name" "_law_no_name" s__law_no_name f__law_no_name d__law_no_name
  b__law_no_name : Binds K d__law_no_name ["_law_source_here", "_law_name"] []
  g__law_no_name : mg "_law_no_name" = some (.ref f__law_no_name)
  f__law_made : Addr
  d__law_made : FuncData
  F__law_made : Fun K "_law_made" "_law_made" s__law_made f__law_made d__law_made
  b__law_made : Binds K d__law_made ["_law_row"] []
  g__law_made : mg "_law_made" = some (.ref f__law_made)
  f__law_passed : Addr
  d__law_passed : FuncData
  F__law_passed : Fun K "_law_passed" "_law_passed" s__law_passed f__law_passed d__law_passed
  b__law_passed : Binds K d__law_passed ["_law_source_here", "_law_names_here"] []
  g__law_passed : mg "_law_passed" = some (.ref f__law_passed)
  f__law_due : Addr
  d__law_due : FuncData
  F__law_due : Fun K "_law_due" "_law_due" s__law_due f__law_due d__law_due
  b__law_due : Binds K d__law_due ["_law_row", "_law_bad_here"] []
  g__law_due : mg "_law_due" = some (.ref f__law_due)
  f__law_told : Addr
  d__law_told : FuncData
  F__law_told : Fun K "_law_told" "_law_told" s__law_told f__law_told d__law_told
  b__law_told : Binds K d__law_told ["_law_row"] []
  g__law_told : mg "_law_told" = some (.ref f__law_told)
  f__law_no_index : Addr
  d__law_no_index : FuncData
  F__law_no_index : Fun K "_law_no_index" "_law_no_index" s__law_no_index f__law_no_index d__law_no_index
  b__law_no_index : Binds K d__law_no_index ["_law_turning_here", "_law_text"] []
  g__law_no_index : mg "_law_no_index" = some (.ref f__law_no_index)
  f__law_reports : Addr
  d__law_reports : FuncData
  F__law_reports : Fun K "_law_reports" "_law_reports" s__law_reports f__law_reports d__law_reports
  b__law_reports : Binds K d__law_reports ["_law_turning_here", "_law_turned", "_law_names_here", "_law_strings"] []
  g__law_reports : mg "_law_reports" = some (.ref f__law_reports)
  f_law : Addr
  d_law : FuncData
  F_law : Fun K "law" "law" s_law f_law d_law
  b_law : Binds K d_law ["_law_script"] []
  g_law : mg "law" = some (.ref f_law)
  om_Turning : mro2 K C_Turning = true
  t_LETTERS : Tok
  v_LETTERS : mg "LETTERS" = some (.str "abcdefghijklmnopqrstuvwxyz" t_LETTERS)
  t_LETTERS_AND_DIGITS : Tok
  v_LETTERS_AND_DIGITS : mg "LETTERS_AND_DIGITS" = some (.str "abcdefghijklmnopqrstuvwxyz0123456789" t_LETTERS_AND_DIGITS)
  t_LONGEST_NAME : Tok
  v_LONGEST_NAME : mg "LONGEST_NAME" = some (.int 8 t_LONGEST_NAME)
  C_HornError : Addr
  g_HornError : mg "HornError" = some (.ref C_HornError)
  C_BadName : Addr
  i_BadName : Addr
  E_BadName : Cls1 P K mg "BadName" C_BadName i_BadName ea_BadName eb_BadName (scope1 "text")
  o_BadName : PySem.W.findIn K (.ref C_BadName) "text" = some none
  x_BadName : ExcC K C_BadName
  C_BadLiteral : Addr
  i_BadLiteral : Addr
  E_BadLiteral : Cls1 P K mg "BadLiteral" C_BadLiteral i_BadLiteral ea_BadLiteral eb_BadLiteral (scope1 "text")
  o_BadLiteral : PySem.W.findIn K (.ref C_BadLiteral) "text" = some none
  x_BadLiteral : ExcC K C_BadLiteral
  C_BothSigns : Addr
  i_BothSigns : Addr
  E_BothSigns : Cls1 P K mg "BothSigns" C_BothSigns i_BothSigns ea_BothSigns eb_BothSigns (scope1 "name")
  o_BothSigns : PySem.W.findIn K (.ref C_BothSigns) "name" = some none
  x_BothSigns : ExcC K C_BothSigns
  C_TooMany : Addr
  i_TooMany : Addr
  E_TooMany : Cls1 P K mg "TooMany" C_TooMany i_TooMany ea_TooMany eb_TooMany (scope1 "limit")
  o_TooMany : PySem.W.findIn K (.ref C_TooMany) "limit" = some none
  x_TooMany : ExcC K C_TooMany
  su_TooMany_BadName : PySem.W.subIn K (.ref C_TooMany) (.ref C_BadName) = some false
  k_BadName_BadLiteral : ∃ b, PySem.W.kitOne K (.ref C_BadName) (.ref C_BadLiteral) = some b ∧ b = false
  k_BadName_HornError : ∃ b, PySem.W.kitOne K (.ref C_BadName) (.ref C_HornError) = some b ∧ b = true
  k_BadName_TooMany : ∃ b, PySem.W.kitOne K (.ref C_BadName) (.ref C_TooMany) = some b ∧ b = false
  k_BadName_ValueError : ∃ b, PySem.W.kitOne K (.ref C_BadName) (.type "ValueError") = some b ∧ b = true
  k_BadLiteral_BadLiteral : ∃ b, PySem.W.kitOne K (.ref C_BadLiteral) (.ref C_BadLiteral) = some b ∧ b = true
  k_BadLiteral_HornError : ∃ b, PySem.W.kitOne K (.ref C_BadLiteral) (.ref C_HornError) = some b ∧ b = true
  k_BadLiteral_TooMany : ∃ b, PySem.W.kitOne K (.ref C_BadLiteral) (.ref C_TooMany) = some b ∧ b = false
  k_BadLiteral_ValueError : ∃ b, PySem.W.kitOne K (.ref C_BadLiteral) (.type "ValueError") = some b ∧ b = true
  k_BothSigns_BadLiteral : ∃ b, PySem.W.kitOne K (.ref C_BothSigns) (.ref C_BadLiteral) = some b ∧ b = false
  k_BothSigns_HornError : ∃ b, PySem.W.kitOne K (.ref C_BothSigns) (.ref C_HornError) = some b ∧ b = true
  k_BothSigns_TooMany : ∃ b, PySem.W.kitOne K (.ref C_BothSigns) (.ref C_TooMany) = some b ∧ b = false
  k_BothSigns_ValueError : ∃ b, PySem.W.kitOne K (.ref C_BothSigns) (.type "ValueError") = some b ∧ b = true
  k_TooMany_BadLiteral : ∃ b, PySem.W.kitOne K (.ref C_TooMany) (.ref C_BadLiteral) = some b ∧ b = false
  k_TooMany_HornError : ∃ b, PySem.W.kitOne K (.ref C_TooMany) (.ref C_HornError) = some b ∧ b = true
  k_TooMany_TooMany : ∃ b, PySem.W.kitOne K (.ref C_TooMany) (.ref C_TooMany) = some b ∧ b = true
  k_TooMany_ValueError : ∃ b, PySem.W.kitOne K (.ref C_TooMany) (.type "ValueError") = some b ∧ b = true
  n_NotImplemented : mg "NotImplemented" = none
  n_ValueError : mg "ValueError" = none
  n_all : mg "all" = none
  n_bool : mg "bool" = none
  n_int : mg "int" = none
  n_isinstance : mg "isinstance" = none
  n_iter : mg "iter" = none
  n_len : mg "len" = none
  n_list : mg "list" = none
  n_property : mg "property" = none
  n_range : mg "range" = none
  n_set : mg "set" = none
  n_sorted : mg "sorted" = none
  n_staticmethod : mg "staticmethod" = none
  n_str : mg "str" = none
  n_super : mg "super" = none
  n_tuple : mg "tuple" = none
/-- the law gets a list of at most 63 ints and hands back True -/
def spLaw (K : PySem.W.Frag) : Sp := fun vs H Q _ => ∃ (a : Addr) (ns : List Int), vs = [.ref a] ∧ SqL K H a (ns.map V.int) ∧ ns.length ≤ 63 ∧ ∀ H', Q (.bl true) H'
section
variable {P : Program} {w : World} {K : PySem.W.Frag} {mg : Str → Option Value} {base : Heap}
/-! ### the source of drawn numbers -/
/-- what stands at b and is not a stands as before -/
def But (a : Addr) (H H' : Hp) : Prop := ∀ b o, b ≠ a → H b = some o → H' b = some o
theorem But.refl {a : Addr} {H : Hp} : But a H H := fun _ _ _ h => h
theorem But.trans {a : Addr} {H H1 H2 : Hp} (x : But a H H1) (y : But a H1 H2) : But a H H2 := fun b o n h => y b o n (x b o n h)
theorem But.upd {a : Addr} {H H1 : Hp} {o : HO} (x : But a H H1) : But a H (upd H1 a o) := fun b u n h => by
  rw [upd_ne n]
  exact x b u n h
theorem But.new {a p : Addr} {H H1 : Hp} {o u : HO} (x : But a H H1) (ha : H1 a = some u) (hp : H1 p = none) : But a H (L2.upd H1 p o) := fun b v n h => by
  rw [upd_ne (ne_of_none (x b v n h) hp)]
  exact x b v n h
theorem But.of {a : Addr} {H H1 : Hp} (x : Same H H1) : But a H H1 := fun b o _ h => x b o h
/-- the script's list at l beside four ints -/
def five (l : Addr) (i x k m : Int) : List V := [.ref l, .int i, .int x, .int k, .int m]
structure SrcL (H : Hp) (a l : Addr) (ns : List Int) : Prop where
  at_ : ∃ i x k m : Int, 0 ≤ i ∧ H a = some (.lst (five l i x k m))
  li : H l = some (.lst (ns.map V.int))
theorem src_ne {H : Hp} {a l : Addr} {ns : List Int} (S : SrcL H a l ns) : l ≠ a := fun e => by
  obtain ⟨i, x, k, m, _, h⟩ := S.at_
  have h2 := S.li
  rw [e, h] at h2
  have h3 := HO.lst.inj (Option.some.inj h2)
  cases ns with
  | nil => exact absurd h3 (by simp [five])
  | cons y r =>
    have h4 := (List.cons.inj h3).1
    cases h4
/-- a source at a -/
def Src (H : Hp) (a : Addr) : Prop := ∃ (l : Addr) (ns : List Int), SrcL H a l ns
theorem Src.keep {H H' : Hp} {a : Addr} (S : Src H a) (k : Same H H') : Src H' a := by
  obtain ⟨l, ns, ⟨i, x, j, m, h0, h⟩, hl⟩ := S
  exact ⟨l, ns, ⟨i, x, j, m, h0, k _ _ h⟩, k _ _ hl⟩
theorem Src.new {H : Hp} {a p : Addr} {o : HO} (S : Src H a) (hp : H p = none) : Src (upd H p o) a := S.keep fun b u h => by
  rw [upd_ne (ne_of_none h hp)]
  exact h
theorem Src.some {H : Hp} {a : Addr} (S : Src H a) : ∃ o, H a = Option.some o := by
  obtain ⟨l, ns, ⟨i, x, k, m, h0, h⟩, hl⟩ := S
  exact ⟨_, h⟩
/-- _law_take(source, many) -/
def spTake : Sp := fun vs H Q _ => ∃ (a : Addr) (many : Int), vs = [.ref a, .int many] ∧ Src H a ∧ 1 ≤ many ∧ many < 2 ^ 64 ∧ ∀ H' r, 0 ≤ r → r < many → Src H' a → But a H H' → Q (.int r) H'
theorem src_upd {H : Hp} {a l : Addr} {ns : List Int} {i x k m : Int} (hl : H l = some (.lst (ns.map V.int))) (n : l ≠ a) (h0 : 0 ≤ i) : Src (upd H a (.lst (five l i x k m))) a :=
  ⟨l, ns, ⟨i, x, k, m, h0, upd_same⟩, by rw [upd_ne n]; exact hl⟩
theorem fmod_lo (x : Int) {m : Int} (h : 1 ≤ m) : 0 ≤ x.fmod m := Int.fmod_nonneg_of_pos x (by omega)
theorem fmod_hi (x : Int) {m : Int} (h : 1 ≤ m) : x.fmod m < m := Int.fmod_lt_of_pos x (by omega)
/-- the second half of _law_take, from a source that stands -/
theorem ok__law_take (T : Txt P K mg) : FnOk P w K mg base CX0 1 T.f__law_take T.d__law_take ["_law_source_here", "_law_many"] spTake := by
  refine T.F__law_take.ok sc__law_take (fun vs H Q E h => ?_) (fun cdv A outer s H vs Q E hr h => ?_)
  · obtain ⟨a, many, rfl, _⟩ := h
    rfl
  · obtain ⟨a, many, rfl, ⟨l, ns, S⟩, h1, h64, q⟩ := h
    have nla := src_ne S
    obtain ⟨⟨i, x, k, m, hi0, h⟩, hl⟩ := S
    refine ⟨_, (Evl.pss_cut (ps_if (pt_cmpR op_eq (pe_ix ix_list (pv 0) pe_int (fun _ _ => rfl)) pe_int (nomark _)) (pss_cons (ps_if (pt_cmpR op_ge (pe_ix ix_list (pv 0) pe_int (fun _ _ => rfl)) (pe_callB call_len_seq (by rfl) T.n_len PySem.boot_len (pa_cons (pe_ix ix_list (pv 0) pe_int (fun _ _ => rfl)) pa_nil)) (nomark _)) (pss_one (ps_ret pe_int)) pss_nil)
      (pss_cons (ps_set (i := 3) sc__law_take.nd rfl (.inl rfl) (pe_callTy call_int1 (by rfl) T.n_int (by decide +kernel) (pa_cons (pe_ix ix_list (pe_ix ix_list (pv 0) pe_int (fun _ _ => rfl)) (pe_ix ix_list (pv 0) pe_int (fun _ _ => rfl)) (fun _ _ => rfl)) pa_nil)))
      (pss_cons (ps_asg (pe_op op_add (pe_ix ix_list (pv 0) pe_int (fun _ _ => rfl)) pe_int) (pg_sub (pv 0) pe_int set_list))
      (pss_cons (ps_asg (pv 3) (pg_sub (pv 0) pe_int set_list))
      (pss_cons (ps_asg pe_int (pg_sub (pv 0) pe_int set_list))
      (pss_cons (ps_asg pe_int (pg_sub (pv 0) pe_int set_list))
      (pss_one (ps_if (pt_cmpR op_ge (pv 3) (pe_op op_pow pe_int pe_int) (nomark _)) (pss_cons (ps_asg pe_int (pg_sub (pv 0) pe_int set_list))
      (pss_one (ps_asg pe_int (pg_sub (pv 0) pe_int set_list)))) pss_nil)))))))) pss_nil)
      (pss_cons (ps_asg (pe_op op_sub (pe_ix ix_list (pv 0) pe_int (fun _ _ => rfl)) pe_int) (pg_sub (pv 0) pe_int set_list))
      (pss_cons (ps_if (pt_cmpR op_eq (pe_ix ix_list (pv 0) pe_int (fun _ _ => rfl)) pe_int (nomark _)) (pss_cons (ps_set (i := 4) sc__law_take.nd rfl (.inl rfl) (pe_op op_modN (pe_callTy call_int1 (by rfl) T.n_int (by decide +kernel) (pa_cons (pe_ix ix_list (pv 0) pe_int (fun _ _ => rfl)) pa_nil)) (pv 1)))
      (pss_cons (ps_asg (pe_op op_fdivW (pe_ix ix_list (pv 0) pe_int (fun _ _ => rfl)) (pv 1)) (pg_sub (pv 0) pe_int set_list))
      (pss_cons (ps_if (pt_cmpR op_eq (pe_ix ix_list (pv 0) pe_int (fun _ _ => rfl)) pe_int (nomark _)) (pss_one (ps_asg pe_int (pg_sub (pv 0) pe_int set_list))) pss_nil)
      (pss_one (ps_ret (pv 4)))))) pss_nil)
      (pss_cons (ps_set (i := 2) sc__law_take.nd rfl (.inl rfl) (pe_op op_modN (pe_callTy call_int1 (by rfl) T.n_int (by decide +kernel) (pa_cons (pe_op op_add (pe_op op_add (pe_op op_mul (pe_ix ix_list (pv 0) pe_int (fun _ _ => rfl)) pe_int) (pe_op op_mul (pe_ix ix_list (pv 0) pe_int (fun _ _ => rfl)) pe_int)) pe_int) pa_nil)) pe_int))
      (pss_cons (ps_set (i := 2) sc__law_take.nd rfl (.inl rfl) (pe_op op_modN (pe_callTy call_int1 (by rfl) T.n_int (by decide +kernel) (pa_cons (pe_op op_add (pe_op op_add (pe_op op_mul (pv 2) pe_int) (pe_op op_mul (pe_ix ix_list (pv 0) pe_int (fun _ _ => rfl)) pe_int)) pe_int) pa_nil)) pe_int))
      (pss_one (ps_ret (pe_op op_modN (pe_callTy call_int1 (by rfl) T.n_int (by decide +kernel) (pa_cons (pv 2) pa_nil)) (pv 1))))))))), ?_⟩
    refine ⟨fun σ' H' => ∃ (cv : Option V) (i x k m : Int), σ' = [some (.ref a), some (.int many), none, cv, none] ∧ 0 ≤ i ∧ H' a = some (.lst (five l i x k m)) ∧ H' l = some (.lst (ns.map V.int)) ∧ But a H H', ?_, ?_⟩
    · refine ⟨.ref a, rfl, a, _, 3, _, rfl, rfl, SqL.of h, atI_nat (j := 3) rfl, rfl, _, rfl, ite2 (fun e => ?_) (fun e => ?_)⟩
      · refine ⟨.ref a, rfl, a, _, 1, _, rfl, rfl, SqL.of h, atI_nat (j := 1) rfl, .ref a, rfl, a, _, 0, _, rfl, rfl, SqL.of h, atI_nat (j := 0) rfl, l, _, rfl, .inl (SqL.of hl), _, _, rfl, rfl, _, rfl, ite2 (fun e1 => ?_) (fun e1 => ?_)⟩
        · exact q H 0 (by omega) (by omega) ⟨l, ns, ⟨⟨i, x, k, m, hi0, h⟩, hl⟩⟩ But.refl
        · have hin : i.toNat < ns.length := by
            have z : ¬ ((ns.map V.int).length : Int) ≤ i := fun z => e1 (decide_eq_true z)
            rw [List.length_map] at z
            omega
          have hg : (ns.map V.int)[i.toNat]? = some (.int ns[i.toNat]) := by
            rw [List.getElem?_map, List.getElem?_eq_getElem hin]
            rfl
          refine ⟨.ref a, rfl, a, _, 0, _, rfl, rfl, SqL.of h, atI_nat (j := 0) rfl, .ref a, rfl, a, _, 1, _, rfl, rfl, SqL.of h, atI_nat (j := 1) rfl, l, _, i, _, rfl, rfl, SqL.of hl, at_of (by omega) hg, .inl ⟨_, rfl, ?_⟩⟩
          refine ⟨.ref a, rfl, a, _, 1, _, rfl, rfl, SqL.of h, atI_nat (j := 1) rfl, _, _, rfl, rfl, .ref a, rfl, a, _, 1, 1, rfl, rfl, h, rfl, ?_⟩
          refine ⟨_, rfl, .ref a, rfl, a, _, 2, 2, rfl, rfl, upd_same, rfl, ?_⟩
          refine ⟨.ref a, rfl, a, _, 3, 3, rfl, rfl, upd_same, rfl, ?_⟩
          refine ⟨.ref a, rfl, a, _, 4, 4, rfl, rfl, upd_same, rfl, ?_⟩
          refine ⟨_, rfl, _, _, rfl, rfl, ⟨by decide, by decide, by decide⟩, _, _, rfl, rfl, _, rfl, ite2 (fun e2 => ?_) (fun e2 => ?_)⟩
          · refine ⟨.ref a, rfl, a, _, 3, 3, rfl, rfl, upd_same, rfl, .ref a, rfl, a, _, 4, 4, rfl, rfl, upd_same, rfl, ?_⟩
            rw [upd_upd, upd_upd, upd_upd, upd_upd, upd_upd]
            exact ⟨_, i + 1, ns[i.toNat], 60, 1, rfl, by omega, upd_same, by rw [upd_ne nla]; exact hl, But.refl.upd⟩
          · rw [upd_upd, upd_upd, upd_upd]
            exact ⟨_, i + 1, ns[i.toNat], 4, 0, rfl, by omega, upd_same, by rw [upd_ne nla]; exact hl, But.refl.upd⟩
      · exact ⟨_, i, x, k, m, rfl, hi0, h, hl, But.refl⟩
    · rintro σ' H0 ⟨cv, i, x, k, m, rfl, hi0, h, hl, bt⟩
      have hl1 : ∀ o, (upd H0 a o) l = some (.lst (ns.map V.int)) := fun o => by
        rw [upd_ne nla]
        exact hl
      refine ⟨.ref a, rfl, a, _, 3, _, rfl, rfl, SqL.of h, atI_nat (j := 3) rfl, _, _, rfl, rfl, .ref a, rfl, a, _, 3, 3, rfl, rfl, h, rfl, ?_⟩
      have h2 : (upd H0 a (.lst ((five l i x k m).set 3 (.int (k - 1))))) a = some (.lst (five l i x (k - 1) m)) := upd_same
      refine ⟨.ref a, rfl, a, _, 4, _, rfl, rfl, SqL.of h2, atI_nat (j := 4) rfl, rfl, _, rfl, ite2 (fun e => ?_) (fun e => ?_)⟩
      · refine ⟨.ref a, rfl, a, _, 2, _, rfl, rfl, SqL.of h2, atI_nat (j := 2) rfl, .inl ⟨_, rfl, _, rfl, _, _, rfl, rfl, by omega, ?_⟩⟩
        refine ⟨.ref a, rfl, a, _, 2, _, rfl, rfl, SqL.of h2, atI_nat (j := 2) rfl, _, rfl, _, _, rfl, rfl, wide_div (b := 64) (by omega) (by omega) (by decide) (by decide), .ref a, rfl, a, _, 2, 2, rfl, rfl, h2, rfl, ?_⟩
        have h3 : ∀ o, (upd (upd H0 a o) a (.lst ((five l i x (k - 1) m).set 2 (.int (x / many))))) a = some (.lst (five l i (x / many) (k - 1) m)) := fun o => upd_same
        refine ⟨.ref a, rfl, a, _, 2, _, rfl, rfl, SqL.of (h3 _), atI_nat (j := 2) rfl, rfl, _, rfl, ite2 (fun e3 => ?_) (fun e3 => ?_)⟩
        · refine ⟨.ref a, rfl, a, _, 3, 3, rfl, rfl, upd_same, rfl, ?_⟩
          rw [upd_upd, upd_upd]
          exact ⟨_, rfl, q _ _ (fmod_lo x h1) (fmod_hi x h1) ⟨l, ns, ⟨⟨i, x / many, 0, m, hi0, upd_same⟩, hl1 _⟩⟩ bt.upd⟩
        · rw [upd_upd]
          exact ⟨_, rfl, q _ _ (fmod_lo x h1) (fmod_hi x h1) ⟨l, ns, ⟨⟨i, x / many, k - 1, m, hi0, upd_same⟩, hl1 _⟩⟩ bt.upd⟩
      · refine ⟨.ref a, rfl, a, _, 2, _, rfl, rfl, SqL.of h2, atI_nat (j := 2) rfl, _, _, rfl, rfl, .inr ⟨by decide, by decide⟩, .ref a, rfl, a, _, 3, _, rfl, rfl, SqL.of h2, atI_nat (j := 3) rfl, _, _, rfl, rfl, .inr ⟨by decide, by decide⟩, _, _, rfl, rfl, _, _, rfl, rfl, .inl ⟨_, rfl, _, _, rfl, rfl, (show (2147483647 : Int) ≠ 0 by decide), ?_⟩⟩
        refine ⟨_, rfl, _, _, rfl, rfl, .inr ⟨by decide, by decide⟩, .ref a, rfl, a, _, 3, _, rfl, rfl, SqL.of h2, atI_nat (j := 3) rfl, _, _, rfl, rfl, .inr ⟨by decide, by decide⟩, _, _, rfl, rfl, _, _, rfl, rfl, .inl ⟨_, rfl, _, _, rfl, rfl, (show (2147483629 : Int) ≠ 0 by decide), ?_⟩⟩
        refine ⟨_, rfl, .inl ⟨_, rfl, _, rfl, _, _, rfl, rfl, by omega, ?_⟩⟩
        exact q _ _ (fmod_lo _ h1) (fmod_hi _ h1) ⟨l, ns, ⟨⟨i, x, k - 1, m, hi0, h2⟩, hl1 _⟩⟩ bt.upd
/-- _law_take(source, many), the script's list named -/
def spTakeL : Sp := fun vs H Q _ => ∃ (a : Addr) (many : Int) (l : Addr) (ns : List Int), vs = [.ref a, .int many] ∧ SrcL H a l ns ∧ 1 ≤ many ∧ many < 2 ^ 64 ∧ ∀ H' r, 0 ≤ r → r < many → SrcL H' a l ns → But a H H' → Q (.int r) H'
theorem okL__law_take (T : Txt P K mg) : FnOk P w K mg base CX0 1 T.f__law_take T.d__law_take ["_law_source_here", "_law_many"] spTakeL := by
  refine T.F__law_take.ok sc__law_take (fun vs H Q E h => ?_) (fun cdv A outer s H vs Q E hr h => ?_)
  · obtain ⟨a, many, l, ns, rfl, _⟩ := h
    rfl
  · obtain ⟨a, many, l, ns, rfl, S, h1, h64, q⟩ := h
    have nla := src_ne S
    obtain ⟨⟨i, x, k, m, hi0, h⟩, hl⟩ := S
    refine ⟨_, (Evl.pss_cut (ps_if (pt_cmpR op_eq (pe_ix ix_list (pv 0) pe_int (fun _ _ => rfl)) pe_int (nomark _)) (pss_cons (ps_if (pt_cmpR op_ge (pe_ix ix_list (pv 0) pe_int (fun _ _ => rfl)) (pe_callB call_len_seq (by rfl) T.n_len PySem.boot_len (pa_cons (pe_ix ix_list (pv 0) pe_int (fun _ _ => rfl)) pa_nil)) (nomark _)) (pss_one (ps_ret pe_int)) pss_nil)
      (pss_cons (ps_set (i := 3) sc__law_take.nd rfl (.inl rfl) (pe_callTy call_int1 (by rfl) T.n_int (by decide +kernel) (pa_cons (pe_ix ix_list (pe_ix ix_list (pv 0) pe_int (fun _ _ => rfl)) (pe_ix ix_list (pv 0) pe_int (fun _ _ => rfl)) (fun _ _ => rfl)) pa_nil)))
      (pss_cons (ps_asg (pe_op op_add (pe_ix ix_list (pv 0) pe_int (fun _ _ => rfl)) pe_int) (pg_sub (pv 0) pe_int set_list))
      (pss_cons (ps_asg (pv 3) (pg_sub (pv 0) pe_int set_list))
      (pss_cons (ps_asg pe_int (pg_sub (pv 0) pe_int set_list))
      (pss_cons (ps_asg pe_int (pg_sub (pv 0) pe_int set_list))
      (pss_one (ps_if (pt_cmpR op_ge (pv 3) (pe_op op_pow pe_int pe_int) (nomark _)) (pss_cons (ps_asg pe_int (pg_sub (pv 0) pe_int set_list))
      (pss_one (ps_asg pe_int (pg_sub (pv 0) pe_int set_list)))) pss_nil)))))))) pss_nil)
      (pss_cons (ps_asg (pe_op op_sub (pe_ix ix_list (pv 0) pe_int (fun _ _ => rfl)) pe_int) (pg_sub (pv 0) pe_int set_list))
      (pss_cons (ps_if (pt_cmpR op_eq (pe_ix ix_list (pv 0) pe_int (fun _ _ => rfl)) pe_int (nomark _)) (pss_cons (ps_set (i := 4) sc__law_take.nd rfl (.inl rfl) (pe_op op_modN (pe_callTy call_int1 (by rfl) T.n_int (by decide +kernel) (pa_cons (pe_ix ix_list (pv 0) pe_int (fun _ _ => rfl)) pa_nil)) (pv 1)))
      (pss_cons (ps_asg (pe_op op_fdivW (pe_ix ix_list (pv 0) pe_int (fun _ _ => rfl)) (pv 1)) (pg_sub (pv 0) pe_int set_list))
      (pss_cons (ps_if (pt_cmpR op_eq (pe_ix ix_list (pv 0) pe_int (fun _ _ => rfl)) pe_int (nomark _)) (pss_one (ps_asg pe_int (pg_sub (pv 0) pe_int set_list))) pss_nil)
      (pss_one (ps_ret (pv 4)))))) pss_nil)
      (pss_cons (ps_set (i := 2) sc__law_take.nd rfl (.inl rfl) (pe_op op_modN (pe_callTy call_int1 (by rfl) T.n_int (by decide +kernel) (pa_cons (pe_op op_add (pe_op op_add (pe_op op_mul (pe_ix ix_list (pv 0) pe_int (fun _ _ => rfl)) pe_int) (pe_op op_mul (pe_ix ix_list (pv 0) pe_int (fun _ _ => rfl)) pe_int)) pe_int) pa_nil)) pe_int))
      (pss_cons (ps_set (i := 2) sc__law_take.nd rfl (.inl rfl) (pe_op op_modN (pe_callTy call_int1 (by rfl) T.n_int (by decide +kernel) (pa_cons (pe_op op_add (pe_op op_add (pe_op op_mul (pv 2) pe_int) (pe_op op_mul (pe_ix ix_list (pv 0) pe_int (fun _ _ => rfl)) pe_int)) pe_int) pa_nil)) pe_int))
      (pss_one (ps_ret (pe_op op_modN (pe_callTy call_int1 (by rfl) T.n_int (by decide +kernel) (pa_cons (pv 2) pa_nil)) (pv 1))))))))), ?_⟩
    refine ⟨fun σ' H' => ∃ (cv : Option V) (i x k m : Int), σ' = [some (.ref a), some (.int many), none, cv, none] ∧ 0 ≤ i ∧ H' a = some (.lst (five l i x k m)) ∧ H' l = some (.lst (ns.map V.int)) ∧ But a H H', ?_, ?_⟩
    · refine ⟨.ref a, rfl, a, _, 3, _, rfl, rfl, SqL.of h, atI_nat (j := 3) rfl, rfl, _, rfl, ite2 (fun e => ?_) (fun e => ?_)⟩
      · refine ⟨.ref a, rfl, a, _, 1, _, rfl, rfl, SqL.of h, atI_nat (j := 1) rfl, .ref a, rfl, a, _, 0, _, rfl, rfl, SqL.of h, atI_nat (j := 0) rfl, l, _, rfl, .inl (SqL.of hl), _, _, rfl, rfl, _, rfl, ite2 (fun e1 => ?_) (fun e1 => ?_)⟩
        · exact q H 0 (by omega) (by omega) ⟨⟨i, x, k, m, hi0, h⟩, hl⟩ But.refl
        · have hin : i.toNat < ns.length := by
            have z : ¬ ((ns.map V.int).length : Int) ≤ i := fun z => e1 (decide_eq_true z)
            rw [List.length_map] at z
            omega
          have hg : (ns.map V.int)[i.toNat]? = some (.int ns[i.toNat]) := by
            rw [List.getElem?_map, List.getElem?_eq_getElem hin]
            rfl
          refine ⟨.ref a, rfl, a, _, 0, _, rfl, rfl, SqL.of h, atI_nat (j := 0) rfl, .ref a, rfl, a, _, 1, _, rfl, rfl, SqL.of h, atI_nat (j := 1) rfl, l, _, i, _, rfl, rfl, SqL.of hl, at_of (by omega) hg, .inl ⟨_, rfl, ?_⟩⟩
          refine ⟨.ref a, rfl, a, _, 1, _, rfl, rfl, SqL.of h, atI_nat (j := 1) rfl, _, _, rfl, rfl, .ref a, rfl, a, _, 1, 1, rfl, rfl, h, rfl, ?_⟩
          refine ⟨_, rfl, .ref a, rfl, a, _, 2, 2, rfl, rfl, upd_same, rfl, ?_⟩
          refine ⟨.ref a, rfl, a, _, 3, 3, rfl, rfl, upd_same, rfl, ?_⟩
          refine ⟨.ref a, rfl, a, _, 4, 4, rfl, rfl, upd_same, rfl, ?_⟩
          refine ⟨_, rfl, _, _, rfl, rfl, ⟨by decide, by decide, by decide⟩, _, _, rfl, rfl, _, rfl, ite2 (fun e2 => ?_) (fun e2 => ?_)⟩
          · refine ⟨.ref a, rfl, a, _, 3, 3, rfl, rfl, upd_same, rfl, .ref a, rfl, a, _, 4, 4, rfl, rfl, upd_same, rfl, ?_⟩
            rw [upd_upd, upd_upd, upd_upd, upd_upd, upd_upd]
            exact ⟨_, i + 1, ns[i.toNat], 60, 1, rfl, by omega, upd_same, by rw [upd_ne nla]; exact hl, But.refl.upd⟩
          · rw [upd_upd, upd_upd, upd_upd]
            exact ⟨_, i + 1, ns[i.toNat], 4, 0, rfl, by omega, upd_same, by rw [upd_ne nla]; exact hl, But.refl.upd⟩
      · exact ⟨_, i, x, k, m, rfl, hi0, h, hl, But.refl⟩
    · rintro σ' H0 ⟨cv, i, x, k, m, rfl, hi0, h, hl, bt⟩
      have hl1 : ∀ o, (upd H0 a o) l = some (.lst (ns.map V.int)) := fun o => by
        rw [upd_ne nla]
        exact hl
      refine ⟨.ref a, rfl, a, _, 3, _, rfl, rfl, SqL.of h, atI_nat (j := 3) rfl, _, _, rfl, rfl, .ref a, rfl, a, _, 3, 3, rfl, rfl, h, rfl, ?_⟩
      have h2 : (upd H0 a (.lst ((five l i x k m).set 3 (.int (k - 1))))) a = some (.lst (five l i x (k - 1) m)) := upd_same
      refine ⟨.ref a, rfl, a, _, 4, _, rfl, rfl, SqL.of h2, atI_nat (j := 4) rfl, rfl, _, rfl, ite2 (fun e => ?_) (fun e => ?_)⟩
      · refine ⟨.ref a, rfl, a, _, 2, _, rfl, rfl, SqL.of h2, atI_nat (j := 2) rfl, .inl ⟨_, rfl, _, rfl, _, _, rfl, rfl, by omega, ?_⟩⟩
        refine ⟨.ref a, rfl, a, _, 2, _, rfl, rfl, SqL.of h2, atI_nat (j := 2) rfl, _, rfl, _, _, rfl, rfl, wide_div (b := 64) (by omega) (by omega) (by decide) (by decide), .ref a, rfl, a, _, 2, 2, rfl, rfl, h2, rfl, ?_⟩
        have h3 : ∀ o, (upd (upd H0 a o) a (.lst ((five l i x (k - 1) m).set 2 (.int (x / many))))) a = some (.lst (five l i (x / many) (k - 1) m)) := fun o => upd_same
        refine ⟨.ref a, rfl, a, _, 2, _, rfl, rfl, SqL.of (h3 _), atI_nat (j := 2) rfl, rfl, _, rfl, ite2 (fun e3 => ?_) (fun e3 => ?_)⟩
        · refine ⟨.ref a, rfl, a, _, 3, 3, rfl, rfl, upd_same, rfl, ?_⟩
          rw [upd_upd, upd_upd]
          exact ⟨_, rfl, q _ _ (fmod_lo x h1) (fmod_hi x h1) ⟨⟨i, x / many, 0, m, hi0, upd_same⟩, hl1 _⟩ bt.upd⟩
        · rw [upd_upd]
          exact ⟨_, rfl, q _ _ (fmod_lo x h1) (fmod_hi x h1) ⟨⟨i, x / many, k - 1, m, hi0, upd_same⟩, hl1 _⟩ bt.upd⟩
      · refine ⟨.ref a, rfl, a, _, 2, _, rfl, rfl, SqL.of h2, atI_nat (j := 2) rfl, _, _, rfl, rfl, .inr ⟨by decide, by decide⟩, .ref a, rfl, a, _, 3, _, rfl, rfl, SqL.of h2, atI_nat (j := 3) rfl, _, _, rfl, rfl, .inr ⟨by decide, by decide⟩, _, _, rfl, rfl, _, _, rfl, rfl, .inl ⟨_, rfl, _, _, rfl, rfl, (show (2147483647 : Int) ≠ 0 by decide), ?_⟩⟩
        refine ⟨_, rfl, _, _, rfl, rfl, .inr ⟨by decide, by decide⟩, .ref a, rfl, a, _, 3, _, rfl, rfl, SqL.of h2, atI_nat (j := 3) rfl, _, _, rfl, rfl, .inr ⟨by decide, by decide⟩, _, _, rfl, rfl, _, _, rfl, rfl, .inl ⟨_, rfl, _, _, rfl, rfl, (show (2147483629 : Int) ≠ 0 by decide), ?_⟩⟩
        refine ⟨_, rfl, .inl ⟨_, rfl, _, rfl, _, _, rfl, rfl, by omega, ?_⟩⟩
        exact q _ _ (fmod_lo _ h1) (fmod_hi _ h1) ⟨⟨i, x, k - 1, m, hi0, h2⟩, hl1 _⟩ bt.upd
/-- _law_source(script) -/
def spSource (K : PySem.W.Frag) : Sp := fun vs H Q _ => ∃ (a : Addr) (ns : List Int), vs = [.ref a] ∧ SqL K H a (ns.map V.int) ∧ ∀ H' p, Src H' p → H p = none → Same H H' → Q (.ref p) H'
theorem ok__law_source (T : Txt P K mg) : FnOk P w K mg base CX0 1 T.f__law_source T.d__law_source ["_law_script"] (spSource K) := by
  refine T.F__law_source.ok sc__law_source (fun vs H Q E h => ?_) (fun cdv A outer s H vs Q E hr h => ?_)
  · obtain ⟨a, ns, rfl, _⟩ := h
    rfl
  · obtain ⟨a, ns, rfl, S, q⟩ := h
    refine ⟨_, (pss_one (ps_ret (pe_lst (pa_cons (pe_callTy call_list_of (by rfl) T.n_list (by decide +kernel) (pa_cons (pv 0) pa_nil)) (pa_cons pe_int (pa_cons pe_int (pa_cons pe_int (pa_cons pe_int pa_nil)))))))), ?_⟩
    refine ⟨_, rfl, a, _, rfl, .inl S, fun l nl => ⟨(by show 5 ≤ sizeLine; decide), fun p np => ?_⟩⟩
    have lp : l ≠ p := fun e => by
      rw [e, upd_same] at np
      cases np
    have np0 : H p = none := by
      rw [upd_ne lp.symm] at np
      exact np
    refine q _ p ⟨l, ns, ⟨⟨0, 0, 0, 0, by decide, upd_same⟩, ?_⟩⟩ np0 fun b o e => ?_
    · rw [upd_ne lp, upd_same]
    · rw [upd_ne (ne_of_none e np0), upd_ne (ne_of_none e nl)]
      exact e
/-! ### answers of pure defs -/
def isBl : V → Bool
  | .bl _ => true
  | _ => false
def isIn : V → Bool
  | .int _ => true
  | _ => false
def isSt : V → Bool
  | .str _ => true
  | _ => false
def flat4 : V → Bool
  | .non => true
  | .bl _ => true
  | .int _ => true
  | .str _ => true
  | _ => false
theorem kit_flat {K : PySem.W.Frag} {x : V} (h : flat4 x = true) : ∃ t : String, (∀ H, TyX K H x (.type t)) ∧ kitB t "bool" = some (isBl x) ∧ kitB t "int" = some (isBl x || isIn x) ∧ kitB t "str" = some (isSt x) ∧ kitB t "list" = some false ∧ kitB t "tuple" = some false := by
  cases x with
  | non => exact ⟨"NoneType", fun _ => .base .non, by decide +kernel, by decide +kernel, by decide +kernel, by decide +kernel, by decide +kernel⟩
  | bl b => exact ⟨"bool", fun _ => .base (.bl b), (show kitB "bool" "bool" = some true by decide +kernel), (show kitB "bool" "int" = some true by decide +kernel), (show kitB "bool" "str" = some false by decide +kernel), (show kitB "bool" "list" = some false by decide +kernel), (show kitB "bool" "tuple" = some false by decide +kernel)⟩
  | int i => exact ⟨"int", fun _ => .base (.int i), (show kitB "int" "bool" = some false by decide +kernel), (show kitB "int" "int" = some true by decide +kernel), (show kitB "int" "str" = some false by decide +kernel), (show kitB "int" "list" = some false by decide +kernel), (show kitB "int" "tuple" = some false by decide +kernel)⟩
  | str z => exact ⟨"str", fun _ => .base (.str z), (show kitB "str" "bool" = some false by decide +kernel), (show kitB "str" "int" = some false by decide +kernel), (show kitB "str" "str" = some true by decide +kernel), (show kitB "str" "list" = some false by decide +kernel), (show kitB "str" "tuple" = some false by decide +kernel)⟩
  | byt b => cases h
  | flt b => cases h
  | ref a => cases h
  | ty n => cases h
open Evl in
theorem ev_isi {σ : L2.St} {H : Hp} {ta : TE} {x : V} {t c : String} {b : Bool} (h : Ev ta σ H x) (ht : ∀ H, TyX K H x (.type t)) (hk : kitB t c = some b) : Ev (tCB (rIsi K) (tCons ta (tCons (tC (.ty c)) tNil))) σ H (.bl b) :=
  ev_cb (ea_cons h (ea_cons ev_c ea_nil)) fun H1 _ Q q => ⟨x, .ty c, .type t, .type c, b, rfl, .ty c, ht H1, kit_ty hk, q H1 (Ex.refl H1)⟩
/-- _law_same(one, other) of two flat things -/
def spSame : Sp := fun vs H Q _ => ∃ x y, vs = [x, y] ∧ flat4 x = true ∧ flat4 y = true ∧ ∀ H', Evl.Ex H H' → Q (.bl (decide (x = y))) H'
theorem ne_bl {x y : V} (h : isBl x = true) (h2 : isBl y = false) : x ≠ y := fun e => by
  rw [e, h2] at h
  cases h
theorem scal_flat {x y : V} (hx : flat4 x = true) (hy : flat4 y = true) (h : (isBl x = true ∧ isBl y = true) ∨ (isIn x = true ∧ isIn y = true) ∨ (isSt x = true ∧ isSt y = true)) : scal x y = true := by
  cases x <;> cases y <;> first | rfl | (simp [isBl, isIn, isSt] at h) | cases hx | cases hy
theorem non_of {x : V} (h : flat4 x = true) (h1 : isBl x = false) (h2 : isIn x = false) (h3 : isSt x = false) : x = .non := by
  cases x with
  | non => rfl
  | bl b => cases h1
  | int i => cases h2
  | str z => cases h3
  | byt b => cases h
  | flt b => cases h
  | ref a => cases h
  | ty n => cases h
--@HOT ok__law_same
open Evl in
theorem ok__law_same (T : Txt P K mg) : FnOk P w K mg base CX0 1 T.f__law_same T.d__law_same ["_law_one", "_law_other"] spSame := by
  refine T.F__law_same.ok sc__law_same (fun vs H Q E h => ?_) (fun cdv A outer s H vs Q E hr h => ?_)
  · obtain ⟨x, y, rfl, _⟩ := h
    rfl
  · obtain ⟨x, y, rfl, hx, hy, q⟩ := h
    obtain ⟨tx, kx, bx, ix, sx, lx, ux⟩ := kit_flat (K := K) hx
    obtain ⟨ty, ky, by_, iy, sy, ly, uy⟩ := kit_flat (K := K) hy
    have vx : ∀ (σ : L2.St) (H : Hp), σ[0]? = some (some x) → Ev (tVar 0) σ H x := fun σ H e => ev_var e
    have vy : ∀ (σ : L2.St) (H : Hp), σ[1]? = some (some y) → Ev (tVar 1) σ H y := fun σ H e => ev_var e
    refine ⟨_, (pss_cons (ps_if (PW.pt (pw_or (pt_val (pe_callB call_isi (by rfl) T.n_isinstance (by decide +kernel) (pa_cons (pv 0) (pa_cons (pe_bltn (v := .ty "bool") (u := .type "bool") (by rfl) T.n_bool (by decide +kernel) rfl) pa_nil)))) (pw_or1 (pt_val (pe_callB call_isi (by rfl) T.n_isinstance (by decide +kernel) (pa_cons (pv 1) (pa_cons (pe_bltn (v := .ty "bool") (u := .type "bool") (by rfl) T.n_bool (by decide +kernel) rfl) pa_nil))))))) (pss_one (ps_ret (pe_and (pe_callB call_isi (by rfl) T.n_isinstance (by decide +kernel) (pa_cons (pv 0) (pa_cons (pe_bltn (v := .ty "bool") (u := .type "bool") (by rfl) T.n_bool (by decide +kernel) rfl) pa_nil))) (pe_and (pe_callB call_isi (by rfl) T.n_isinstance (by decide +kernel) (pa_cons (pv 1) (pa_cons (pe_bltn (v := .ty "bool") (u := .type "bool") (by rfl) T.n_bool (by decide +kernel) rfl) pa_nil))) (pe_one (pe_cmpR op_eq (pv 0) (pv 1) (nomark _))))))) pss_nil)
      (pss_cons (ps_if (PW.pt (pw_or (pt_val (pe_callB call_isi (by rfl) T.n_isinstance (by decide +kernel) (pa_cons (pv 0) (pa_cons (pe_bltn (v := .ty "int") (u := .type "int") (by rfl) T.n_int (by decide +kernel) rfl) pa_nil)))) (pw_or1 (pt_val (pe_callB call_isi (by rfl) T.n_isinstance (by decide +kernel) (pa_cons (pv 1) (pa_cons (pe_bltn (v := .ty "int") (u := .type "int") (by rfl) T.n_int (by decide +kernel) rfl) pa_nil))))))) (pss_one (ps_ret (pe_and (pe_callB call_isi (by rfl) T.n_isinstance (by decide +kernel) (pa_cons (pv 0) (pa_cons (pe_bltn (v := .ty "int") (u := .type "int") (by rfl) T.n_int (by decide +kernel) rfl) pa_nil))) (pe_and (pe_callB call_isi (by rfl) T.n_isinstance (by decide +kernel) (pa_cons (pv 1) (pa_cons (pe_bltn (v := .ty "int") (u := .type "int") (by rfl) T.n_int (by decide +kernel) rfl) pa_nil))) (pe_one (pe_cmpR op_eq (pv 0) (pv 1) (nomark _))))))) pss_nil)
      (pss_cons (ps_if (PW.pt (pw_or (pt_val (pe_callB call_isi (by rfl) T.n_isinstance (by decide +kernel) (pa_cons (pv 0) (pa_cons (pe_bltn (v := .ty "str") (u := .type "str") (by rfl) T.n_str (by decide +kernel) rfl) pa_nil)))) (pw_or1 (pt_val (pe_callB call_isi (by rfl) T.n_isinstance (by decide +kernel) (pa_cons (pv 1) (pa_cons (pe_bltn (v := .ty "str") (u := .type "str") (by rfl) T.n_str (by decide +kernel) rfl) pa_nil))))))) (pss_one (ps_ret (pe_and (pe_callB call_isi (by rfl) T.n_isinstance (by decide +kernel) (pa_cons (pv 0) (pa_cons (pe_bltn (v := .ty "str") (u := .type "str") (by rfl) T.n_str (by decide +kernel) rfl) pa_nil))) (pe_and (pe_callB call_isi (by rfl) T.n_isinstance (by decide +kernel) (pa_cons (pv 1) (pa_cons (pe_bltn (v := .ty "str") (u := .type "str") (by rfl) T.n_str (by decide +kernel) rfl) pa_nil))) (pe_one (pe_cmpR op_eq (pv 0) (pv 1) (nomark _))))))) pss_nil)
      (pss_cons (ps_set (i := 2) sc__law_same.nd rfl (.inl rfl) (pe_and (pe_callB call_isi (by rfl) T.n_isinstance (by decide +kernel) (pa_cons (pv 0) (pa_cons (pe_bltn (v := .ty "list") (u := .type "list") (by rfl) T.n_list (by decide +kernel) rfl) pa_nil))) (pe_one (pe_callB call_isi (by rfl) T.n_isinstance (by decide +kernel) (pa_cons (pv 1) (pa_cons (pe_bltn (v := .ty "list") (u := .type "list") (by rfl) T.n_list (by decide +kernel) rfl) pa_nil))))))
      (pss_cons (ps_if (PW.pt (pw_and (pt_not (pt_val (pv 2))) (pw_and1 (pt_not (PW.pt (pw_and (pt_val (pe_callB call_isi (by rfl) T.n_isinstance (by decide +kernel) (pa_cons (pv 0) (pa_cons (pe_bltn (v := .ty "tuple") (u := .type "tuple") (by rfl) T.n_tuple (by decide +kernel) rfl) pa_nil)))) (pw_and1 (pt_val (pe_callB call_isi (by rfl) T.n_isinstance (by decide +kernel) (pa_cons (pv 1) (pa_cons (pe_bltn (v := .ty "tuple") (u := .type "tuple") (by rfl) T.n_tuple (by decide +kernel) rfl) pa_nil))))))))))) (pss_one (ps_ret (pe_and (pe_cmpR op_isN (pv 0) pe_non (nomark _)) (pe_one (pe_cmpR op_isN (pv 1) pe_non (nomark _)))))) pss_nil)
      (pss_one ps_never)))))), ?_⟩
    have cmp : ∀ (σ : L2.St) (H1 : Hp), σ[0]? = some (some x) → σ[1]? = some (some y) → scal x y = true → Ev (tOp rEq (tVar 0) (tVar 1)) σ H1 (.bl (decide (x = y))) := fun σ H1 e0 e1 hs => ev_op (ev_var e0) (ev_var e1) (rv_eq hs)
    refine q_when (et_or (et_B (ev_isi (vx _ _ rfl) kx bx)) (fun _ => et_B (ev_isi (vy _ _ rfl) ky by_))) (fun hb H1 e1 => ?_) (fun hb H1 e1 => ?_)
    · refine s_ret (v := .bl (decide (x = y))) (ev_is (ev_andV (ev_isi (vx _ _ rfl) kx bx) (fun h1 => ev_andV (b := decide (x = y)) (ev_isi (vy _ _ rfl) ky by_) (fun h2 => cmp _ _ rfl rfl (scal_flat hx hy (.inl ⟨h1, h2⟩))))) ?_) (fun H2 e2 => q H2 (e1.trans e2))
      cases h1 : isBl x with
      | true =>
        cases h2 : isBl y with
        | true => rfl
        | false => rw [decide_eq_false (ne_bl h1 h2)]; rfl
      | false =>
        rw [h1] at hb
        have h2 : isBl y = true := hb
        rw [decide_eq_false (ne_bl h2 h1).symm]
        rfl
    · have nb : isBl x = false ∧ isBl y = false := by simpa using hb
      rw [nb.1] at ix
      rw [nb.2] at iy
      refine q_when (et_or (et_B (ev_isi (vx _ _ rfl) kx ix)) (fun _ => et_B (ev_isi (vy _ _ rfl) ky iy))) (fun hi H2 e2 => ?_) (fun hi H2 e2 => ?_)
      · refine s_ret (v := .bl (decide (x = y))) (ev_is (ev_andV (ev_isi (vx _ _ rfl) kx ix) (fun h1 => ev_andV (b := decide (x = y)) (ev_isi (vy _ _ rfl) ky iy) (fun h2 => cmp _ _ rfl rfl (scal_flat hx hy (.inr (.inl ⟨h1, h2⟩)))))) ?_) (fun H3 e3 => q H3 ((e1.trans e2).trans e3))
        cases x <;> cases y <;> simp_all [isIn, isBl]
      · have ni : isIn x = false ∧ isIn y = false := by simpa using hi
        refine q_when (et_or (et_B (ev_isi (vx _ _ rfl) kx sx)) (fun _ => et_B (ev_isi (vy _ _ rfl) ky sy))) (fun hs H3 e3 => ?_) (fun hs H3 e3 => ?_)
        · refine s_ret (v := .bl (decide (x = y))) (ev_is (ev_andV (ev_isi (vx _ _ rfl) kx sx) (fun h1 => ev_andV (b := decide (x = y)) (ev_isi (vy _ _ rfl) ky sy) (fun h2 => cmp _ _ rfl rfl (scal_flat hx hy (.inr (.inr ⟨h1, h2⟩)))))) ?_) (fun H4 e4 => q H4 (((e1.trans e2).trans e3).trans e4))
          cases x <;> cases y <;> simp_all [isSt, isBl]
        · have ns : isSt x = false ∧ isSt y = false := by simpa using hs
          have xn : x = .non := non_of hx nb.1 ni.1 ns.1
          have yn : y = .non := non_of hy nb.2 ni.2 ns.2
          refine q_asg (v := .bl false) (ev_is (ev_andV (b := false) (ev_isi (vx _ _ rfl) kx lx) (fun _ => ev_isi (vy _ _ rfl) ky ly)) rfl) (fun H4 e4 => ?_)
          refine q_when (b := true) (et_is (et_and (et_not (et_B (ev_var rfl))) (fun _ => et_not (et_and (b := false) (et_B (ev_isi (vx _ _ rfl) kx ux)) (fun _ => et_B (ev_isi (vy _ _ rfl) ky uy))))) rfl) (fun _ H5 e5 => ?_) (fun hf => by cases hf)
          refine s_ret (v := .bl true) (ev_is (ev_andV (a := true) (b := true) (ev_op (vx _ _ rfl) ev_c (fun H6 _ Q' q' => ⟨rfl, ?_⟩)) (fun _ => ev_op (vy _ _ rfl) ev_c (fun H6 _ Q' q' => ⟨rfl, ?_⟩))) rfl) (fun H6 e6 => ?_)
          · rw [xn]
            exact q' H6 (Ex.refl H6)
          · rw [yn]
            exact q' H6 (Ex.refl H6)
          · have z := q H6 (((((e1.trans e2).trans e3).trans e4).trans e5).trans e6)
            rw [xn, yn] at z
            exact z
--@COLD
open Evl in
theorem ev_same {σ : L2.St} {H : Hp} {ta tb : TE} {x y : V} {E : XK} (ha : Ev ta σ H x) (hb : Ev tb σ H y) (hx : flat4 x = true) (hy : flat4 y = true) : Ev (tCall spSame [] E (tCons ta (tCons tb tNil))) σ H (.bl (decide (x = y))) :=
  ev_call (ea_cons ha (ea_cons hb ea_nil)) fun H1 _ Q q E => ⟨x, y, rfl, hx, hy, q⟩
open Evl in
theorem ev_sameT {σ : L2.St} {H : Hp} {ta tb : TE} {x y : V} {E : XK} (ha : Ev ta σ H x) (hb : Ev tb σ H y) (hx : flat4 x = true) (hy : flat4 y = true) (e : x = y) : Ev (tCall spSame [] E (tCons ta (tCons tb tNil))) σ H (.bl true) :=
  ev_is (ev_same ha hb hx hy) (by rw [decide_eq_true e])
/-! ### texts -/
/-- a text of at most n signs, each below 128 -/
def Txt8 (n : Nat) (z : Str) : Prop := z.cps.size ≤ n ∧ ∀ c ∈ z.cps.toList, c < 128
theorem Txt8.app {n m : Nat} {x y : Str} (a : Txt8 n x) (b : Txt8 m y) : Txt8 (n + m) (x ++ y) := by
  have e : (x ++ y).cps = x.cps ++ y.cps := rfl
  refine ⟨?_, fun c hc => ?_⟩
  · rw [e, Array.size_append]
    have h1 := a.1
    have h2 := b.1
    omega
  · rw [e, Array.toList_append] at hc
    rcases List.mem_append.mp hc with h | h
    · exact a.2 c h
    · exact b.2 c h
theorem Txt8.mono {n m : Nat} {x : Str} (a : Txt8 n x) (h : n ≤ m) : Txt8 m x := ⟨Nat.le_trans a.1 h, a.2⟩
theorem Txt8.cut {n : Nat} {x : Str} (a : Txt8 n x) (lo hi : Option Int) : Txt8 n (cutS x lo hi) := by
  have e : (cutS x lo hi).cps.toList = (x.cps.toList.drop (HT.sIx x.length 0 lo)).take (HT.sIx x.length x.length hi - HT.sIx x.length 0 lo) := rfl
  refine ⟨?_, fun c hc => ?_⟩
  · rw [← Array.length_toList, e]
    have h1 := List.length_take_le (HT.sIx x.length x.length hi - HT.sIx x.length 0 lo) (x.cps.toList.drop (HT.sIx x.length 0 lo))
    have h2 := List.length_drop (i := HT.sIx x.length 0 lo) (l := x.cps.toList)
    have h3 : x.cps.toList.length ≤ n := by
      rw [Array.length_toList]
      exact a.1
    have h4 : ((x.cps.toList.drop (HT.sIx x.length 0 lo)).take (HT.sIx x.length x.length hi - HT.sIx x.length 0 lo)).length ≤ (x.cps.toList.drop (HT.sIx x.length 0 lo)).length := List.length_take_le' ..
    omega
  · rw [e] at hc
    exact a.2 c (List.mem_of_mem_drop (List.mem_of_mem_take hc))
theorem Txt8.sign {z : Str} {i c : Nat} (h : z.cps[i]? = some c) (a : ∀ c ∈ z.cps.toList, c < 128) : Txt8 1 ⟨#[c]⟩ := by
  refine ⟨Nat.le_refl _, fun d hd => ?_⟩
  have e : d = c := by simpa using hd
  rw [e]
  refine a c ?_
  rw [← Array.getElem?_toList] at h
  exact List.mem_of_getElem? h
theorem line_of {n : Nat} (h : n ≤ 1000) : n ≤ sizeLine := Nat.le_of_lt (small1000 h)
/-- an item of a written text -/
theorem item_of {z : Str} {r n : Int} (h0 : 0 ≤ r) (h : r < n) (hn : (z.cps.size : Int) = n) (ha : ∀ c ∈ z.cps.toList, c < 128) : ∃ c, z.cps[r.toNat]? = some c ∧ r < z.length ∧ Txt8 1 ⟨#[c]⟩ := by
  have hl : r.toNat < z.cps.size := by omega
  have e : z.cps[r.toNat]? = some z.cps[r.toNat] := Array.getElem?_eq_getElem hl
  exact ⟨_, e, by show r < (z.cps.size : Int); omega, Txt8.sign e ha⟩
/-! ### names and literals: the mathematics -/
def ltr (c : Nat) : Bool := decide (c ∈ ("abcdefghijklmnopqrstuvwxyz" : Str).cps.toList)
def dig (c : Nat) : Bool := decide (c ∈ ("0123456789" : Str).cps.toList)
def lod (c : Nat) : Bool := decide (c ∈ ("abcdefghijklmnopqrstuvwxyz0123456789" : Str).cps.toList)
theorem lod_eq (c : Nat) : lod c = (ltr c || dig c) := by
  have e : ("abcdefghijklmnopqrstuvwxyz0123456789" : Str).cps.toList = ("abcdefghijklmnopqrstuvwxyz" : Str).cps.toList ++ ("0123456789" : Str).cps.toList := by decide +kernel
  unfold lod ltr dig
  rw [e, ← Bool.decide_or]
  exact decide_eq_decide.mpr List.mem_append
/-- is it a name -/
def nameL (l : List Nat) : Bool := decide (1 ≤ l.length) && (decide (l.length ≤ 8) && ((l.head?.any ltr) && l.all lod))
def isName (z : Str) : Bool := nameL z.cps.toList
/-- begins it with a minus -/
def dashL (l : List Nat) : Bool := l.head? == some 45
def dash (z : Str) : Bool := dashL z.cps.toList
def Sl (l : List Nat) : Str := ⟨l.toArray⟩
theorem Sl_of (z : Str) : Sl z.cps.toList = z := rfl
/-- without its minus -/
def bare (z : Str) : Str := if dash z = true then Sl (z.cps.toList.drop 1) else z
theorem str_eq {x y : Str} (h : x.cps.toList = y.cps.toList) : x = y := by
  cases x with
  | mk a =>
    cases y with
    | mk b => rw [show a = b from Array.toList_inj.mp h]
theorem cut_1 (z : Str) : (cutS z none (some 1)).cps.toList = z.cps.toList.take 1 := by
  have e : HT.sIx z.length z.length (some 1) = min 1 z.length := HT.sIx_nat z.length z.length 1
  have l : z.cps.toList.length = z.length := Array.length_toList
  show ((z.cps.toList.drop (HT.sIx z.length 0 none)).take (HT.sIx z.length z.length (some 1) - HT.sIx z.length 0 none)).toArray.toList = _
  rw [e, HT.sIx_none, List.drop_zero, Nat.sub_zero]
  show List.take (min 1 z.length) z.cps.toList = _
  rw [← l, ← List.take_take, List.take_length]
theorem cut_from1 (z : Str) : (cutS z (some 1) none).cps.toList = z.cps.toList.drop 1 := by
  have e : HT.sIx z.length 0 (some 1) = min 1 z.length := HT.sIx_nat z.length 0 1
  have l : z.cps.toList.length = z.length := Array.length_toList
  show ((z.cps.toList.drop (HT.sIx z.length 0 (some 1))).take (HT.sIx z.length z.length none - HT.sIx z.length 0 (some 1))).toArray.toList = _
  rw [e, HT.sIx_none]
  show List.take (z.length - min 1 z.length) (z.cps.toList.drop (min 1 z.length)) = _
  rw [← l]
  cases z.cps.toList with
  | nil => rfl
  | cons c r =>
    rw [show min 1 (c :: r).length = 1 by rw [List.length_cons]; omega]
    show List.take ((c :: r).length - 1) r = r
    rw [List.length_cons, Nat.add_sub_cancel]
    exact List.take_length
theorem dash_cut (z : Str) : decide (V.str (cutS z none (some 1)) = V.str "-") = dash z := by
  unfold dash dashL
  by_cases h : z.cps.toList.head? = some 45
  · rw [show (z.cps.toList.head? == some 45) = true by rw [h]; rfl]
    refine decide_eq_true (congrArg V.str (str_eq ?_))
    rw [cut_1]
    cases e : z.cps.toList with
    | nil => rw [e] at h; cases h
    | cons c r =>
      rw [e] at h
      rw [show c = 45 from Option.some.inj h]
      rfl
  · rw [show (z.cps.toList.head? == some 45) = false from beq_eq_false_iff_ne.mpr h]
    refine decide_eq_false fun q => h ?_
    have q2 := congrArg (fun y : Str => y.cps.toList) (V.str.inj q)
    have q3 : z.cps.toList.take 1 = [45] := by
      rw [← cut_1]
      exact q2
    cases e : z.cps.toList with
    | nil => rw [e] at q3; cases q3
    | cons c r =>
      rw [e] at q3
      exact congrArg some (List.cons.inj q3).1
theorem bare_cut {z : Str} (h : dash z = true) : cutS z (some 1) none = bare z := by
  unfold bare
  rw [if_pos h]
  refine str_eq ?_
  rw [cut_from1]
  rfl
theorem bare_no {z : Str} (h : dash z = false) : bare z = z := by
  unfold bare
  rw [h, if_neg Bool.false_ne_true]
theorem bare_rp (z : Str) : Txt.removeprefix z "-" = bare z := by
  rw [PySem.StrLaws.removeprefix_eq, PySem.StrLaws.subAt_eq]
  have l : z.cps.toList.length = z.length := Array.length_toList
  have one : ("-" : Str).length = 1 := by decide
  have cp : ("-" : Str).cps.toList = [45] := by decide
  rw [one, cp, List.drop_zero]
  unfold bare dash dashL
  cases e : z.cps.toList with
  | nil =>
    rw [if_neg (by simp), if_neg (by simp)]
  | cons c r =>
    have hl : z.length = r.length + 1 := by
      rw [← l, e, List.length_cons]
    by_cases h : c = 45
    · subst h
      rw [if_pos (by rw [hl]; simp), if_pos (by rfl)]
      refine str_eq ?_
      show List.take (z.length - 1) (List.drop 1 (45 :: r)) = List.drop 1 (45 :: r)
      rw [hl, Nat.add_sub_cancel]
      exact List.take_length
    · rw [if_neg (by simp [h]), if_neg (by simp [h])]
theorem bare_len (z : Str) : (bare z).cps.size ≤ z.cps.size := by
  unfold bare
  by_cases h : dash z = true
  · rw [if_pos h]
    show (z.cps.toList.drop 1).toArray.size ≤ _
    rw [List.size_toArray, List.length_drop, Array.length_toList]
    omega
  · rw [if_neg h]
    exact Nat.le_refl _
theorem bare_codes {z : Str} (h : ∀ c ∈ z.cps.toList, c < 128) : ∀ c ∈ (bare z).cps.toList, c < 128 := by
  unfold bare
  by_cases hd : dash z = true
  · rw [if_pos hd]
    intro c hc
    have hc2 : c ∈ z.cps.toList.drop 1 := hc
    exact h c (List.mem_of_mem_drop hc2)
  · rw [if_neg hd]
    exact h
theorem bare_same (z : Str) : decide (bare z = z) = !dash z := by
  by_cases hd : dash z = true
  · rw [hd]
    refine decide_eq_false fun q => ?_
    have q2 := congrArg (fun y : Str => y.cps.toList.length) q
    unfold bare at q2
    rw [if_pos hd] at q2
    have q3 : (z.cps.toList.drop 1).length = z.cps.toList.length := q2
    rw [List.length_drop] at q3
    unfold dash dashL at hd
    cases e : z.cps.toList with
    | nil => rw [e] at hd; cases hd
    | cons c r => rw [e, List.length_cons] at q3; omega
  · have hd2 : dash z = false := by simpa using hd
    rw [bare_no hd2, hd2]
    exact decide_eq_true rfl
def isLit (z : Str) : Bool := isName (bare z)
/-- the other sign -/
def flip (z : Str) : Str := if dash z = true then bare z else "-" ++ z
/-! ### further answers -/
open Evl in
theorem rv_inS {H : Hp} {c : Nat} {z : Str} : RV (fun x y H Q => ∃ (c : Nat) (z : Str), x = .str ⟨#[c]⟩ ∧ y = .str z ∧ Q (.bl (decide (c ∈ z.cps.toList))) H) (.str ⟨#[c]⟩) (.str z) H (.bl (decide (c ∈ z.cps.toList))) := fun H1 _ _ q => ⟨c, z, rfl, rfl, q H1 (Ex.refl H1)⟩
open Evl in
theorem rv_notInS {H : Hp} {c : Nat} {z : Str} : RV (fun x y H Q => ∃ (c : Nat) (z : Str), x = .str ⟨#[c]⟩ ∧ y = .str z ∧ Q (.bl (!decide (c ∈ z.cps.toList))) H) (.str ⟨#[c]⟩) (.str z) H (.bl (!decide (c ∈ z.cps.toList))) := fun H1 _ _ q => ⟨c, z, rfl, rfl, q H1 (Ex.refl H1)⟩
open Evl in
theorem rv_itemS {H : Hp} {c : Nat} {z : Str} {i : Nat} (h : z.cps[i]? = some c) (hz : z.cps.size ≤ 100000) : RV (fun x y H Q => ∃ z i c, x = .str z ∧ y = .int i ∧ 0 ≤ i ∧ i < 2 ^ 63 ∧ i < z.length ∧ z.cps[i.toNat]? = some c ∧ Q (.str ⟨#[c]⟩) H) (.str z) (.int (i : Int)) H (.str ⟨#[c]⟩) := fun H1 _ _ q => by
  have hl := (Array.getElem?_eq_some_iff.mp h).1
  have e : (z.length : Nat) = z.cps.size := rfl
  exact ⟨z, i, c, rfl, rfl, by omega, by omega, by omega, by rw [Int.toNat_natCast]; exact h, q H1 (Ex.refl H1)⟩
open Evl in
theorem ev_lenS {σ : L2.St} {H : Hp} {ta : TE} {z : Str} (h : Ev ta σ H (.str z)) (hz : z.cps.size ≤ 100000) : Ev (tCB (fun xs H Q => ∃ z, xs = [V.str z] ∧ z.length ≤ sizeLine ∧ Q (.int z.length) H) (tCons ta tNil)) σ H (.int (z.cps.size : Int)) :=
  ev_cb (ea_cons h ea_nil) fun H1 _ Q q => ⟨z, rfl, sz_of hz, q H1 (Ex.refl H1)⟩
open Evl in
theorem ev_chain {σ : L2.St} {H : Hp} {r r' : R2} {ta tb tc : TE} {x y z : V} {a b : Bool} (ha : Ev ta σ H x) (hb : Ev tb σ H y) (hr : RV r x y H (.bl a)) (h2 : a = true → Ev tc σ H z) (h3 : a = true → RV r' y z H (.bl b)) : Ev (tChain r r' ta tb tc) σ H (.bl (a && b)) := fun H1 e Q q =>
  ha H1 e _ fun H2 e2 => hb H2 (e.trans e2) _ fun H3 e3 => hr H3 ((e.trans e2).trans e3) _ fun H4 e4 => ⟨a, rfl, by
    cases a with
    | true =>
      refine iteT ?_
      exact h2 rfl H4 (((e.trans e2).trans e3).trans e4) _ fun H5 e5 => h3 rfl H5 ((((e.trans e2).trans e3).trans e4).trans e5) Q fun H6 e6 => q H6 ((((e2.trans e3).trans e4).trans e5).trans e6)
    | false =>
      refine iteF ?_
      exact q H4 ((e2.trans e3).trans e4)⟩
open Evl in
theorem ev_all {σ : L2.St} {H : Hp} {tl : TE} {bs : List Bool} (h : EvL tl σ H (bs.map V.bl)) : Ev (tCB (rAll K) (tCons tl tNil)) σ H (.bl (bs.all id)) := fun H1 e Q q =>
  h H1 e _ fun p H2 _ e2 hp => ⟨p, bs, rfl, sq_of hp, q H2 e2⟩
open Evl in
/-- [e for c in a text] -/
theorem el_lcS {σ : L2.St} {H : Hp} {z : Str} {tl te : TE} {j : Nat} {vs : List Nat} (f : Nat → V) (h : Ev tl σ H (.str z)) (hz : z.cps.size ≤ 40000) (hw : ∀ x, wipe ((wipe σ vs).set j (some x)) vs = wipe σ vs)
    (he : ∀ (c : Nat) H1, Ex H H1 → c ∈ z.cps.toList → Ev te ((wipe σ vs).set j (some (.str ⟨#[c]⟩))) H1 (f c)) : EvL (tLc (iStr tl) (gName j) tYes te vs) σ H (z.cps.toList.map f) := fun H0 e Q q => h H0 e _ fun H1 e1 => ⟨z, rfl, fun Dl hD => by
  refine lc_it walk_str (fun i H' => H1 Dl = none ∧ Ex H1 H' ∧ H' Dl = some (.lst ((z.cps.toList.take i).map f))) ⟨hD, Ex.new hD, upd_same⟩ (fun _ _ _ _ => trivial) ?_ ?_
  · rintro i x H2 H3 hi ⟨p1, p2, p3⟩ ⟨rfl, c, hc, rfl⟩
    have hc2 : z.cps.toList[i]? = some c := by
      rw [Array.getElem?_toList]
      exact hc
    have hm : c ∈ z.cps.toList := List.mem_of_getElem? hc2
    refine ⟨hw _, ?_⟩
    unfold tYes
    dsimp only
    rw [if_pos rfl]
    refine he c H1 (e.trans e1) hm H3 p2 _ fun H4 e4 => ⟨_, e4 _ _ p3, ?_, p1, Ex.mut (p2.trans e4) p1, ?_⟩
    · rw [List.length_map]
      exact sz_lt (by have := List.length_take_le i z.cps.toList; omega)
    · rw [List.take_add_one, hc2, List.map_append]
      exact upd_same
  · rintro H2 ⟨p1, p2, p3⟩
    have ef : z.cps.toList.take z.cps.size = z.cps.toList := by
      rw [← Array.length_toList]
      exact List.take_length
    rw [ef] at p3
    exact q Dl H2 (fresh_back e1 p1) (e1.trans p2) p3⟩
/-! ### is_name, is_literal and what the law says of them -/
def spIsName : Sp := fun vs H Q _ => ∃ z : Str, vs = [.str z] ∧ z.cps.size ≤ 1000 ∧ ∀ H', Evl.Ex H H' → Q (.bl (isName z)) H'
open Evl in
theorem ok_is_name (T : Txt P K mg) : FnOk P w K mg base CX0 1 T.f_is_name T.d_is_name ["text"] spIsName := by
  refine T.F_is_name.ok sc_is_name (fun vs H Q E h => ?_) (fun cdv A outer s H vs Q E hr h => ?_)
  · obtain ⟨z, rfl, _⟩ := h
    rfl
  · obtain ⟨z, rfl, hz, q⟩ := h
    have vz : ∀ (σ : L2.St) (H : Hp), σ[0]? = some (some (V.str z)) → Ev (tVar 0) σ H (.str z) := fun σ H e => ev_var e
    refine ⟨_, (pss_cons (ps_if (pt_not (pt_chain op_le op_le pe_int (pe_callB call_len_str (by rfl) T.n_len PySem.boot_len (pa_cons (pv 0) pa_nil)) (pe_glob (v := .int 8) rfl T.v_LONGEST_NAME ⟨_, rfl⟩))) (pss_one (ps_ret pe_bl)) pss_nil)
      (pss_one (ps_ret (pe_and (pe_cmpR op_in_sign (pe_item_str (pv 0) pe_int (fun _ _ => rfl)) (pe_glob (v := .str "abcdefghijklmnopqrstuvwxyz") rfl T.v_LETTERS ⟨_, rfl⟩) (by rfl)) (pe_one (pe_callB (cr_all rfl) (by rfl) T.n_all (by decide +kernel) (pa_cons (pe_lc (own := [("sign", 1)]) (g := gName 1) (by rfl) sc_is_name.nd (pi_str (pv 0)) (blkOk_by (own := [("sign", 1)]) (N := N_is_name) (sc := defScope s_is_name) (by decide +kernel)) (fun _ _ _ _ _ => pg_name (i := 1) sc_is_name.nd rfl (Or.inl rfl)) (fun _ _ _ _ _ => pts_nil) (fun _ _ _ _ _ => (pe_cmpR op_in_sign (pv 1) (pe_glob (v := .str "abcdefghijklmnopqrstuvwxyz0123456789") rfl T.v_LETTERS_AND_DIGITS ⟨_, rfl⟩) (by rfl)))) pa_nil))))))), ?_⟩
    have l : z.cps.toList.length = z.cps.size := Array.length_toList
    refine q_when (et_not (et_test (ev_chain (a := decide (1 ≤ z.cps.size)) (b := decide (z.cps.size ≤ 8)) ev_c (ev_lenS (vz _ _ rfl) (by omega)) (fun H1 _ Q q => ⟨1, _, rfl, rfl, ?_⟩) (fun _ => ev_c) (fun _ H1 _ Q q => ⟨_, 8, rfl, rfl, ?_⟩)))) (fun hb H1 e1 => ?_) (fun hb H1 e1 => ?_)
    · have e : decide ((1 : Int) ≤ (z.cps.size : Int)) = decide (1 ≤ z.cps.size) := decide_eq_decide.mpr (by omega)
      show Q (.bl (decide ((1 : Int) ≤ (z.cps.size : Int)))) H1
      rw [e]
      exact q H1 (Ex.refl H1)
    · have e : decide ((z.cps.size : Int) ≤ 8) = decide (z.cps.size ≤ 8) := decide_eq_decide.mpr (by omega)
      show Q (.bl (decide ((z.cps.size : Int) ≤ 8))) H1
      rw [e]
      exact q H1 (Ex.refl H1)
    · refine s_ret (v := .bl (isName z)) (ev_is ev_c ?_) (fun H2 e2 => q H2 (e1.trans e2))
      have hb2 : (decide (1 ≤ z.cps.size) && decide (z.cps.size ≤ 8)) = false := by
        rw [Bool.not_eq_true'] at hb
        exact hb
      unfold isName nameL
      rw [← Bool.and_assoc, l, hb2]
      rfl
    · have hb2 : (decide (1 ≤ z.cps.size) && decide (z.cps.size ≤ 8)) = true := by
        rw [Bool.not_eq_false'] at hb
        exact hb
      rw [Bool.and_eq_true] at hb2
      have h1 : 1 ≤ z.cps.size := of_decide_eq_true hb2.1
      obtain ⟨c, r, hc⟩ : ∃ c r, z.cps.toList = c :: r := by
        cases e : z.cps.toList with
        | nil => rw [e] at l; simp at l; omega
        | cons c r => exact ⟨c, r, rfl⟩
      have c0 : z.cps[0]? = some c := by
        rw [← Array.getElem?_toList, hc]
        rfl
      refine s_ret (v := .bl (isName z)) (ev_is (ev_andV (a := ltr c) (b := z.cps.toList.all lod) (ev_op (ev_op (vz _ _ rfl) ev_c (rv_itemS (i := 0) c0 (by omega))) ev_c rv_inS) (fun _ => ev_is (ev_all (bs := z.cps.toList.map lod) ?_) ?_)) ?_) (fun H2 e2 => q H2 (e1.trans e2))
      · rw [List.map_map]
        exact el_lcS (f := fun c => V.bl (lod c)) (vz _ _ rfl) (by omega) (fun _ => rfl) (fun c H2 e2 hm => ev_op (ev_var rfl) ev_c rv_inS)
      · rw [List.all_map]
        rfl
      · unfold isName nameL
        rw [l, hb2.1, hb2.2, hc]
        rfl
/-! ### literals -/
open Evl in
theorem rv_rp {H : Hp} {te : TE} {σ : L2.St} {z : Str} (h : Ev te σ H (.str z)) (hz : z.cps.size ≤ 1000) : Ev (tBM K "str" (fun x xs H Q => ∃ a b, x = .str a ∧ xs = [.str b] ∧ a.length ≤ sizeLine ∧ Q (.str (Txt.removeprefix a b)) H) te (tCons (tC (.str "-")) tNil)) σ H (.str (bare z)) := fun H1 e Q q =>
  h H1 e _ fun H2 e2 => ⟨rfl, z, "-", rfl, rfl, sz_of (by show z.cps.size ≤ _; omega), by rw [bare_rp]; exact q H2 e2⟩
def spIsLit : Sp := fun vs H Q _ => ∃ z : Str, vs = [.str z] ∧ z.cps.size ≤ 1000 ∧ ∀ H', Evl.Ex H H' → Q (.bl (isLit z)) H'
open Evl in
theorem ok_is_literal (T : Txt P K mg) : FnOk P w K mg base CX0 2 T.f_is_literal T.d_is_literal ["text"] spIsLit := by
  refine T.F_is_literal.ok sc_is_literal (fun vs H Q E h => ?_) (fun cdv A outer s H vs Q E hr h => ?_)
  · obtain ⟨z, rfl, _⟩ := h
    rfl
  · obtain ⟨z, rfl, hz, q⟩ := h
    refine ⟨_, (pss_one (ps_ret (pe_call (ok_is_name T) (hr.mono (by decide)) rfl T.g_is_name T.F_is_name.kp T.b_is_name .nil pass0 (pa_cons (pe_bm PySem.F.plainAttrs_str PySem.F.slot_str_removeprefix PySem.F.type_str_removeprefix mt_removeprefix (pv 0) (pa_cons pe_str pa_nil)) pa_nil)))), ?_⟩
    refine s_ret (ev_call (z := .bl (isLit z)) (ea_cons (rv_rp (ev_var rfl) hz) ea_nil) (fun H1 e1 Q' q' E' => ⟨bare z, rfl, Nat.le_trans (bare_len z) hz, fun H2 e2 => q' H2 e2⟩)) (fun H1 e1 => q H1 e1)
theorem flip_dash {z : Str} (h : dash z = true) : flip z = bare z := if_pos h
theorem flip_no {z : Str} (h : dash z = false) : flip z = "-" ++ z := by
  unfold flip
  rw [h, if_neg Bool.false_ne_true]
/-- a def that takes a literal: g of it, or BadLiteral with the text -/
def spLit (C : Addr) (g : Str → V) : Sp := fun vs H Q E => ∃ z : Str, vs = [.str z] ∧ z.cps.size ≤ 50 ∧ (∀ c ∈ z.cps.toList, c < 128) ∧ (isLit z = true → ∀ H', Evl.Ex H H' → Q (g z) H') ∧
  (isLit z = false → ∀ H' d, Evl.Ex H H' → H' d = some (.xd [("text", .str z)]) → E (.ref C) (some d) H')
theorem repr_le {z : Str} (hz : z.cps.size ≤ 50) (hc : ∀ c ∈ z.cps.toList, c < 128) : (reprText z).length ≤ 1000 := by
  have h := PySem.StrLaws.reprText_len z fun c h => Nat.lt_trans (hc c h) (by decide)
  have h2 : z.length ≤ 50 := hz
  omega
theorem ok_check_literal (T : Txt P K mg) : FnOk P w K mg base (L2N.CX P w) 3 T.f_check_literal T.d_check_literal ["text"] (spLit T.C_BadLiteral fun _ => .non) := by
  refine T.F_check_literal.okN sc_check_literal (fun vs H Q E h => ?_) (fun cdv A outer s H vs Q E hr h => ?_)
  · obtain ⟨z, rfl, _⟩ := h
    rfl
  · obtain ⟨z, rfl, hz, hc, q1, q2⟩ := h
    refine ⟨_, (pss_one (ps_if (pt_not (pt_val (pe_call (ok_is_literal T) (hr.mono (by decide)) rfl T.g_is_literal T.F_is_literal.kp T.b_is_literal .nil pass0 (pa_cons (pv 0) pa_nil)))) (pss_one (L2N.ps_raise rfl (L2N.takes_of rfl rfl rfl rfl) (pmk1 T.E_BadLiteral rfl fld_text T.o_BadLiteral hr (pa_cons (pv 0) pa_nil) rfl (by decide)))) pss_nil)), ?_⟩
    refine ⟨_, rfl, z, rfl, by omega, fun H1 e1 => ⟨_, rfl, ?_⟩⟩
    cases hl : isLit z with
    | true =>
      refine iteF ?_
      exact q1 hl H1 e1
    | false =>
      refine iteT ?_
      refine ⟨_, rfl, _, rfl, fun u hu => ?_, fun d hd => q2 hl _ d (e1.trans (Evl.Ex.new hd)) upd_same⟩
      obtain ⟨t, rfl⟩ := hu
      exact msg_cr fld_text (by decide) (repr_le hz hc)
theorem ok_name_of (T : Txt P K mg) : FnOk P w K mg base (L2N.CX P w) 4 T.f_name_of T.d_name_of ["literal"] (spLit T.C_BadLiteral fun z => .str (bare z)) := by
  refine T.F_name_of.okN sc_name_of (fun vs H Q E h => ?_) (fun cdv A outer s H vs Q E hr h => ?_)
  · obtain ⟨z, rfl, _⟩ := h
    rfl
  · obtain ⟨z, rfl, hz, hc, q1, q2⟩ := h
    refine ⟨_, (pss_cons (ps_expr (pe_call (ok_check_literal T) (hr.mono (by decide)) rfl T.g_check_literal T.F_check_literal.kp T.b_check_literal .nil (L2N.passes_call (L2N.takes_of rfl rfl rfl rfl) (fun _ _ _ _ h => h)) (pa_cons (pv 0) pa_nil)))
      (pss_one (ps_ret (pe_bm PySem.F.plainAttrs_str PySem.F.slot_str_removeprefix PySem.F.type_str_removeprefix mt_removeprefix (pv 0) (pa_cons pe_str pa_nil))))), ?_⟩
    refine ⟨_, rfl, z, rfl, hz, hc, fun hl H1 e1 => ?_, q2⟩
    exact Evl.s_ret (rv_rp (Evl.ev_var rfl) (by omega)) fun H2 e2 => q1 hl H2 (e1.trans e2)
theorem ok_is_positive (T : Txt P K mg) : FnOk P w K mg base (L2N.CX P w) 5 T.f_is_positive T.d_is_positive ["literal"] (spLit T.C_BadLiteral fun z => .bl (!dash z)) := by
  refine T.F_is_positive.okN sc_is_positive (fun vs H Q E h => ?_) (fun cdv A outer s H vs Q E hr h => ?_)
  · obtain ⟨z, rfl, _⟩ := h
    rfl
  · obtain ⟨z, rfl, hz, hc, q1, q2⟩ := h
    refine ⟨_, (pss_one (ps_ret (pe_cmpR op_eq (pe_call (ok_name_of T) (hr.mono (by decide)) rfl T.g_name_of T.F_name_of.kp T.b_name_of .nil (L2N.passes_call (L2N.takes_of rfl rfl rfl rfl) (fun _ _ _ _ h => h)) (pa_cons (pv 0) pa_nil)) (pv 0) (nomark _)))), ?_⟩
    refine ⟨_, rfl, z, rfl, hz, hc, fun hl H1 e1 => ⟨_, rfl, rfl, ?_⟩, q2⟩
    have e : decide (V.str (bare z) = V.str z) = !dash z := by
      rw [← bare_same z]
      exact decide_eq_decide.mpr ⟨fun x => V.str.inj x, fun x => congrArg V.str x⟩
    rw [e]
    exact q1 hl H1 e1
theorem ok_negated (T : Txt P K mg) : FnOk P w K mg base (L2N.CX P w) 6 T.f_negated T.d_negated ["literal"] (spLit T.C_BadLiteral fun z => .str (flip z)) := by
  refine T.F_negated.okN sc_negated (fun vs H Q E h => ?_) (fun cdv A outer s H vs Q E hr h => ?_)
  · obtain ⟨z, rfl, _⟩ := h
    rfl
  · obtain ⟨z, rfl, hz, hc, q1, q2⟩ := h
    refine ⟨_, (pss_cons (ps_if (pt_val (pe_call (ok_is_positive T) (hr.mono (by decide)) rfl T.g_is_positive T.F_is_positive.kp T.b_is_positive .nil (L2N.passes_call (L2N.takes_of rfl rfl rfl rfl) (fun _ _ _ _ h => h)) (pa_cons (pv 0) pa_nil))) (pss_one (ps_ret (pe_joined (.cons pe_str (.cons (pe_fmt (pv 0)) .nil))))) pss_nil)
      (pss_one (ps_ret (pe_call (ok_name_of T) (hr.mono (by decide)) rfl T.g_name_of T.F_name_of.kp T.b_name_of .nil (L2N.passes_call (L2N.takes_of rfl rfl rfl rfl) (fun _ _ _ _ h => h)) (pa_cons (pv 0) pa_nil))))), ?_⟩
    refine ⟨_, rfl, z, rfl, hz, hc, fun hl H1 e1 => ⟨_, rfl, ?_⟩, q2⟩
    cases hd : dash z with
    | true =>
      refine iteF ?_
      refine ⟨_, rfl, z, rfl, hz, hc, fun hl2 H2 e2 => ?_, fun hl2 => by rw [hl] at hl2; cases hl2⟩
      have z3 : Q (.str (flip z)) H2 := q1 hl H2 (e1.trans e2)
      rw [flip_dash hd] at z3
      exact z3
    | false =>
      refine iteT ?_
      have zl : z.length ≤ 50 := hz
      have l1 : (Str.empty ++ ("-" : Str)).length ≤ sizeLine := line_of (by decide)
      have l2 : (Str.empty ++ ("-" : Str) ++ z).length ≤ sizeLine := line_of (Nat.le_trans (app_le (n := 1) (m := 50) (by decide) hz) (by decide))
      refine ⟨"-", rfl, l1, _, rfl, .inl ⟨z, rfl, line_of (by omega), z, rfl, l2, ?_⟩⟩
      have z2 : Q (.str (flip z)) H1 := q1 hl H1 e1
      rw [flip_no hd] at z2
      exact z2
/-! ### the law's own -/
def spPure (g : Str → V) : Sp := fun vs H Q _ => ∃ z : Str, vs = [.str z] ∧ z.cps.size ≤ 50 ∧ ∀ H', Evl.Ex H H' → Q (g z) H'
open Evl in
theorem ev_sl1 {H : Hp} {te : TE} {σ : L2.St} {z : Str} (h : Ev te σ H (.str z)) (hz : z.cps.size ≤ 1000) : Ev (tSl rSlS te tNoPart (tPart (tC (.int 1)))) σ H (.str (cutS z none (some 1))) := fun H1 e Q q =>
  h H1 e _ fun H2 e2 => ⟨1, rfl, z, rfl, sz_of (by show z.cps.size ≤ _; omega), q H2 e2⟩
open Evl in
theorem ev_sl1n {H : Hp} {te : TE} {σ : L2.St} {z : Str} (h : Ev te σ H (.str z)) (hz : z.cps.size ≤ 1000) : Ev (tSl rSlS te (tPart (tC (.int 1))) tNoPart) σ H (.str (cutS z (some 1) none)) := fun H1 e Q q =>
  h H1 e _ fun H2 e2 => ⟨1, rfl, z, rfl, sz_of (by show z.cps.size ≤ _; omega), q H2 e2⟩
/-! ### texts in order -/
def leS (a b : Str) : Prop := a.cps.toList ≤ b.cps.toList
theorem leS_of {a b : Str} (h : ltCps b.cps.toList a.cps.toList = false) : leS a b := by
  rw [ltCps_eq] at h
  exact of_decide_eq_false h
theorem leS_trans {a b c : Str} (x : leS a b) (y : leS b c) : leS a c := List.le_trans x y
theorem leS_anti {a b : Str} (x : leS a b) (y : leS b a) : a = b := str_eq (List.le_antisymm x y)
theorem pw_rising : ∀ (p : Str) (l : List Str), risingS p l = true → (p :: l).Pairwise leS
  | p, [], _ => List.pairwise_singleton _ _
  | p, x :: r, h => by
    have h2 : (!ltCps x.cps.toList p.cps.toList && risingS x r) = true := h
    rw [Bool.and_eq_true, Bool.not_eq_true'] at h2
    have t := pw_rising x r h2.2
    refine List.pairwise_cons.mpr ⟨fun y hy => ?_, t⟩
    have px := leS_of h2.1
    rcases List.mem_cons.mp hy with e | hy
    · rw [e]; exact px
    · exact leS_trans px ((List.pairwise_cons.mp t).1 y hy)
theorem pw_sorted : ∀ (l : List Str), sortedS l = true → l.Pairwise leS
  | [], _ => .nil
  | x :: r, h => pw_rising x r h
/-- in order, one way alone -/
theorem same_order : ∀ {l m : List Str}, l.Pairwise leS → m.Pairwise leS → l.Perm m → l = m
  | [], m, _, _, p => (List.Perm.eq_nil p.symm).symm
  | x :: l, [], _, _, p => absurd p.length_eq (by simp)
  | x :: l, y :: m, a, b, p => by
    obtain ⟨a1, a2⟩ := List.pairwise_cons.mp a
    obtain ⟨b1, b2⟩ := List.pairwise_cons.mp b
    have e : x = y := by
      rcases List.mem_cons.mp (p.mem_iff.mp List.mem_cons_self) with e | hx
      · exact e
      · rcases List.mem_cons.mp (p.mem_iff.mpr List.mem_cons_self) with e | hy
        · exact e.symm
        · exact leS_anti (a1 y hy) (b1 x hx)
    subst e
    rw [same_order a2 b2 ((List.perm_cons _).mp p)]
theorem perm_len_le : ∀ {l m : List Str}, l.Nodup → (∀ x ∈ l, x ∈ m) → l.length ≤ m.length
  | [], m, _, _ => Nat.zero_le _
  | x :: l, m, nd, sub => by
    obtain ⟨n1, n2⟩ := List.nodup_cons.mp nd
    have pe := List.perm_cons_erase (sub x List.mem_cons_self)
    have z := perm_len_le (m := m.erase x) n2 fun y hy => (List.mem_erase_of_ne (fun (e : y = x) => n1 (by rw [← e]; exact hy))).mpr (sub y (List.mem_cons_of_mem _ hy))
    have q := pe.length_eq
    simp only [List.length_cons] at q ⊢
    omega
/-- the names of the texts L, each once, in order -/
structure Ord (L N : List Str) : Prop where
  pw : N.Pairwise leS
  nd : N.Nodup
  mem : ∀ x, x ∈ N ↔ x ∈ L
theorem Ord.uniq {L L' N N' : List Str} (a : Ord L N) (b : Ord L' N') (h : ∀ x, x ∈ L ↔ x ∈ L') : N = N' := by
  have sub : ∀ x, x ∈ N ↔ x ∈ N' := fun x => by rw [a.mem, b.mem, h]
  exact same_order a.pw b.pw (perm_of_sub a.nd (fun x hx => (sub x).mp hx) (perm_len_le b.nd fun x hx => (sub x).mpr hx))
/-- a sorted list's texts, each once -/
def dd : List Str → List Str → List Str
  | acc, [] => acc
  | acc, x :: r => if x ∈ acc then dd acc r else dd (acc ++ [x]) r
theorem dd_spec : ∀ (l acc : List Str), acc.Nodup → (acc ++ l).Pairwise leS → (dd acc l).Pairwise leS ∧ (dd acc l).Nodup ∧ ∀ x, x ∈ dd acc l ↔ x ∈ acc ∨ x ∈ l
  | [], acc, nd, pw => ⟨by rw [List.append_nil] at pw; exact pw, nd, fun x => by simp [dd]⟩
  | y :: r, acc, nd, pw => by
    unfold dd
    by_cases h : y ∈ acc
    · rw [if_pos h]
      have pw2 : (acc ++ r).Pairwise leS := pw.sublist (List.Sublist.append (List.Sublist.refl _) (List.sublist_cons_self _ _))
      obtain ⟨a, b, c⟩ := dd_spec r acc nd pw2
      refine ⟨a, b, fun x => ?_⟩
      rw [c x, List.mem_cons]
      constructor
      · rintro (z | z)
        · exact .inl z
        · exact .inr (.inr z)
      · rintro (z | z | z)
        · exact .inl z
        · exact .inl (z ▸ h)
        · exact .inr z
    · rw [if_neg h]
      have pw2 : ((acc ++ [y]) ++ r).Pairwise leS := by rw [List.append_assoc]; exact pw
      have nd2 : (acc ++ [y]).Nodup := by
        rw [List.nodup_append]
        exact ⟨nd, by simp, fun a ha b hb e => h (by rw [List.mem_singleton] at hb; rw [← hb, ← e]; exact ha)⟩
      obtain ⟨a, b, c⟩ := dd_spec r (acc ++ [y]) nd2 pw2
      refine ⟨a, b, fun x => ?_⟩
      rw [c x, List.mem_append, List.mem_singleton, List.mem_cons, or_assoc]
theorem dd_step (acc : List Str) (l : List Str) (y : Str) : dd acc (l ++ [y]) = if y ∈ dd acc l then dd acc l else dd acc l ++ [y] := by
  induction l generalizing acc with
  | nil => by_cases h : y ∈ acc <;> simp [dd, h]
  | cons x r ih =>
    show dd acc (x :: (r ++ [y])) = _
    unfold dd
    split
    · exact ih acc
    · exact ih _
theorem dd_ord {L ys : List Str} (p : ys.Perm L) (h : sortedS ys = true) : Ord L (dd [] ys) := by
  obtain ⟨a, b, c⟩ := dd_spec ys [] .nil (pw_sorted ys h)
  exact ⟨a, b, fun x => by rw [c x, p.mem_iff]; simp⟩
theorem srt_ord {L ss : List Str} (p : ss.Perm (putL L)) (h : sortedS ss = true) : Ord L ss :=
  ⟨pw_sorted ss h, p.nodup_iff.mpr (putL_nd L), fun x => by rw [p.mem_iff, putL_mem]⟩
/-- both signs of a name, those that are in L -/
def pick (L : List Str) (n : Str) : List Str := [n, "-" ++ n].filter fun z => decide (z ∈ L)
def due (L N : List Str) : List Str := N.flatMap (pick L)
section
open Evl
/-- [e for y in a list for x in a tuple that y gives] -/
theorem el_lc2 {σ : L2.St} {H : Hp} {a : Addr} {ys : List V} {tl tu te : TE} {j j1 : Nat} {vs vs1 : List Nat} (f : V → List V) (h : Ev tl σ H (.ref a)) (hx : SqL K H a ys) (hz : (ys.flatMap f).length ≤ 40000) (hw : ∀ x, wipe ((wipe σ vs).set j (some x)) vs = wipe σ vs)
    (hw1 : ∀ y x, wipe ((wipe ((wipe σ vs).set j (some y)) vs1).set j1 (some x)) vs1 = wipe ((wipe σ vs).set j (some y)) vs1) (hi : ∀ y ∈ ys, ∀ H1, Ex H H1 → EvU tu ((wipe σ vs).set j (some y)) H1 (f y))
    (he : ∀ y ∈ ys, ∀ x ∈ f y, ∀ H1, Ex H H1 → Ev te ((wipe ((wipe σ vs).set j (some y)) vs1).set j1 (some x)) H1 x) : EvL (tLc2 (iList K tl) (gName j) tYes (iTup K tu) (gName j1) tYes te vs vs1) σ H (ys.flatMap f) := fun H0 e Q q => h H0 e _ fun H1 e1 => by
  have hx1 := ex_l (e.trans e1) hx
  refine ⟨a, rfl, ⟨ys, hx1⟩, fun D hD => ?_⟩
  have P : ∃ P : Nat → Hp → Prop, P = fun i H' => Ex H1 H' ∧ H' D = some (.lst ((ys.take i).flatMap f)) := ⟨_, rfl⟩
  obtain ⟨P, hP⟩ := P
  refine ⟨fun i m H' => m = ys.length - i ∧ i ≤ ys.length ∧ P i H', ⟨_, rfl, Nat.zero_le _, by rw [hP]; exact ⟨Ex.new hD, upd_same⟩⟩, ?_⟩
  rintro i m H2 ⟨rfl, hi', p⟩
  have pp := p
  rw [hP] at pp
  obtain ⟨p1, p2⟩ := pp
  by_cases lt : i < ys.length
  · refine .inr ⟨⟨ys, ys[i], ex_l p1 hx1, by simp [lt]⟩, P (i + 1), fun H' z => ⟨ys.length - (i + 1), by omega, rfl, lt, z⟩, fun y H3 z => ?_⟩
    obtain ⟨rfl, z⟩ := z
    have hy : ys[i]? = some y := z ys (ex_l p1 hx1)
    have my : y ∈ ys := List.mem_of_getElem? hy
    refine ⟨hw y, ?_⟩
    unfold tYes
    dsimp only
    rw [if_pos rfl]
    refine hi y my _ ((e.trans e1).trans p1) _ (Ex.refl _) _ fun t H4 nt e4 ht => ⟨t, rfl, ⟨f y, st_of ht⟩, ?_⟩
    have nD : t ≠ D := fun z => by rw [z, p2] at nt; cases nt
    refine ⟨fun k m H' => m = (f y).length - k ∧ k ≤ (f y).length ∧ Ex H1 H' ∧ H' t = some (.tup (f y)) ∧ H' D = some (.lst ((ys.take i).flatMap f ++ (f y).take k)), ⟨_, rfl, Nat.zero_le _, p1.trans e4, ht, by rw [List.take_zero, List.append_nil]; exact e4 _ _ p2⟩, ?_⟩
    rintro k m H5 ⟨rfl, hk, r1, r2, r3⟩
    have small : ((ys.take i).flatMap f).length + (f y).length ≤ 40000 := by
      have z1 : ys = ys.take i ++ y :: ys.drop (i + 1) := by
        have z2 : ys.drop i = y :: ys.drop (i + 1) := by
          rw [List.drop_eq_getElem_cons lt]
          have z3 := (List.getElem?_eq_some_iff.mp hy).2
          rw [z3]
        rw [← z2, List.take_append_drop]
      have z4 : ys.flatMap f = (ys.take i).flatMap f ++ (f y ++ (ys.drop (i + 1)).flatMap f) := by
        have z5 := congrArg (List.flatMap f) z1
        rw [List.flatMap_append, List.flatMap_cons] at z5
        exact z5
      rw [z4, List.length_append, List.length_append] at hz
      omega
    by_cases lk : k < (f y).length
    · refine .inr ⟨⟨f y, (f y)[k], st_of r2, by simp [lk]⟩, fun H' => k + 1 ≤ (f y).length ∧ Ex H1 H' ∧ H' t = some (.tup (f y)) ∧ H' D = some (.lst ((ys.take i).flatMap f ++ (f y).take (k + 1))), fun H' z => ⟨(f y).length - (k + 1), by omega, rfl, z⟩, fun x H6 z => ?_⟩
      obtain ⟨rfl, z⟩ := z
      have hxk : (f y)[k]? = some x := z (f y) (st_of r2)
      refine ⟨hw1 y x, ?_⟩
      dsimp only
      rw [if_pos rfl]
      refine he y my x (List.mem_of_getElem? hxk) _ ((e.trans e1).trans r1) _ (Ex.refl _) _ fun H7 e7 => ⟨_, e7 _ _ r3, ?_, lk, Ex.mut (r1.trans e7) hD, ?_, ?_⟩
      · rw [List.length_append]
        exact sz_lt (by have := List.length_take_le k (f y); omega)
      · rw [upd_ne nD]; exact e7 _ _ r2
      · rw [upd_same, List.take_add_one, hxk, List.append_assoc] <;> rfl
    · have ek : k = (f y).length := by omega
      refine .inl ⟨⟨f y, st_of r2, by omega⟩, ?_⟩
      rw [hP]
      refine ⟨r1, ?_⟩
      rw [r3, ek, List.take_length, List.take_add_one, hy, List.flatMap_append] <;> simp
  · have ei : i = ys.length := by omega
    refine .inl ⟨⟨ys, ex_l p1 hx1, by omega⟩, ?_⟩
    rw [ei, List.take_length] at p2
    exact q D H2 (fresh_back e1 hD) (e1.trans p1) p2
end
/-! ### both_signs, in_order -/
def twoOf (n : Str) : List Str := [n, "-" ++ n]
def twoV : V → List V
  | .str n => [.str n, .str ("-" ++ n)]
  | _ => []
theorem two_map : ∀ ns : List Str, (ns.map V.str).flatMap twoV = (ns.flatMap twoOf).map V.str
  | [] => rfl
  | n :: r => by
    rw [List.map_cons, List.flatMap_cons, List.flatMap_cons, List.map_append, two_map r]
    rfl
theorem two_len (ns : List Str) : (ns.flatMap twoOf).length = 2 * ns.length := by
  induction ns with
  | nil => rfl
  | cons n r ih => rw [List.flatMap_cons, List.length_append, ih, List.length_cons]; show 2 + 2 * r.length = _; omega
open Evl in
theorem ev_minus {σ : L2.St} {H : Hp} {j : Nat} {z : Str} (h : σ[j]? = some (some (.str z))) (hz : z.cps.size ≤ 50) : Ev (fun σ H Q => tJs [tC (.str "-"), tFmt (tVar j)] Str.empty σ H fun out H1 => Q (.str out) H1) σ H (.str ("-" ++ z)) := fun H1 e Q q => by
  have zl : z.length ≤ 50 := hz
  have l1 : (Str.empty ++ ("-" : Str)).length ≤ sizeLine := line_of (by decide)
  have l2 : (Str.empty ++ ("-" : Str) ++ z).length ≤ sizeLine := line_of (Nat.le_trans (app_le (n := 1) (m := 50) (by decide) hz) (by decide))
  exact ⟨"-", rfl, l1, _, h, .inl ⟨z, rfl, line_of (by omega), z, rfl, l2, q H1 (Ex.refl H1)⟩⟩
def spBoth : Sp := fun vs H Q _ => ∃ (a : Addr) (ns : List Str), vs = [.ref a] ∧ H a = some (.lst (ns.map V.str)) ∧ ns.length ≤ 200 ∧ (∀ z ∈ ns, z.cps.size ≤ 50) ∧ Evl.RetL ((ns.flatMap twoOf).map V.str) H Q
open Evl in
theorem ok_both_signs (T : Txt P K mg) : FnOk P w K mg base CX0 1 T.f_both_signs T.d_both_signs ["names"] spBoth := by
  refine T.F_both_signs.ok sc_both_signs (fun vs H Q E h => ?_) (fun cdv A outer s H vs Q E hr h => ?_)
  · obtain ⟨a, ns, rfl, _⟩ := h
    rfl
  · obtain ⟨a, ns, rfl, ha, few, short, q⟩ := h
    refine ⟨_, (pss_one (ps_ret (pe_lc2 (own := [("name", 1), ("literal", 2)]) (vs1 := [2]) (wi1 := iTup K (tTup (tCons (tVar 1) (tCons (fun σ H Q => tJs [tC (.str "-"), tFmt (tVar 1)] Str.empty σ H fun out H1 => Q (.str out) H1) tNil)))) (g := gName 1) (g1 := gName 2) (by rfl) sc_both_signs.nd (pi_list (pv 0)) (blkOk_by (own := [("name", 1), ("literal", 2)]) (N := N_both_signs) (sc := defScope s_both_signs) (by decide +kernel)) (by decide)
      (fun _ _ _ _ _ => pg_name (i := 1) sc_both_signs.nd rfl (Or.inl rfl)) (fun _ _ _ _ _ => pts_nil) (fun _ _ _ _ _ => pi_tup (pe_tup (pa_cons (pv 1) (pa_cons (pe_joined (.cons pe_str (.cons (pe_fmt (pv 1)) .nil))) pa_nil))))
      (fun _ _ _ _ _ => pg_name (i := 2) sc_both_signs.nd rfl (Or.inl rfl)) (fun _ _ _ _ _ => pts_nil) (fun _ _ _ _ _ => (pv 2))))), ?_⟩
    refine s_retL (xs := (ns.map V.str).flatMap twoV) (el_lc2 (K := K) (ys := ns.map V.str) twoV (ev_var rfl) (sq_of ha) ?_ (fun _ => rfl) (fun _ _ => rfl) (fun y hy H1 e1 => ?_) (fun y hy x hx H1 e1 => ev_var rfl)) (fun p H1 np e1 hp => q p H1 np e1 (by rw [hp, two_map]))
    · rw [two_map, List.length_map, two_len]; omega
    · obtain ⟨n, hn, rfl⟩ := List.mem_map.mp hy
      exact eu_tup (ea_cons (ev_var rfl) (ea_cons (ev_minus rfl (short n hn)) ea_nil)) (show 2 ≤ 100000 by decide)
theorem in_map {z : Str} {L : List Str} : inV (.str z) (L.map V.str) = decide (z ∈ L) := by
  unfold inV
  rw [List.any_map]
  induction L with
  | nil => rfl
  | cons y r ih =>
    rw [List.any_cons, ih]
    have e : (eqV (V.str y) (V.str z)) = decide (z = y) := by
      by_cases h : z = y
      · subst h; simp [eqV]
      · simp [eqV, h, Ne.symm h]
    show (eqV (V.str y) (V.str z) || decide (z ∈ r)) = _
    rw [e]
    by_cases h1 : z = y <;> by_cases h2 : z ∈ r <;> simp [h1, h2]
theorem flat_str (L : List Str) : (L.map V.str).all flatV = true := flat_strs L
open Evl in
/-- z in a list of texts -/
theorem ev_inStr {σ : L2.St} {H : Hp} {ta tb : TE} {z : Str} {p : Addr} {L : List Str} (ha : Ev ta σ H (.str z)) (hb : Ev tb σ H (.ref p)) (hp : H p = some (.lst (L.map V.str))) : Ev (tOp (rIn K false) ta tb) σ H (.bl (decide (z ∈ L))) :=
  ev_is (ev_op ha hb (rv_isL (sq_of hp) rfl (flat_str L))) (by rw [in_map])
open Evl in
theorem ev_niStr {σ : L2.St} {H : Hp} {ta tb : TE} {z : Str} {p : Addr} {L : List Str} (ha : Ev ta σ H (.str z)) (hb : Ev tb σ H (.ref p)) (hp : H p = some (.lst (L.map V.str))) : Ev (tOp (rIn K true) ta tb) σ H (.bl (!decide (z ∈ L))) :=
  ev_is (ev_op ha hb (rv_niL (sq_of hp) rfl (flat_str L))) (by rw [in_map])
theorem pick_all (L N : List Str) : (N.flatMap twoOf).filter (fun z => decide (z ∈ L)) = due L N := by
  unfold due
  induction N with
  | nil => rfl
  | cons n r ih =>
    rw [List.flatMap_cons, List.flatMap_cons, List.filter_append, ih]
    rfl
open Evl in
theorem ev_inStrT {σ : L2.St} {H : Hp} {ta tb : TE} {z : Str} {p : Addr} {L : List Str} (ha : Ev ta σ H (.str z)) (hb : Ev tb σ H (.ref p)) (hp : H p = some (.tup (L.map V.str))) : Ev (tOp (rIn K false) ta tb) σ H (.bl (decide (z ∈ L))) :=
  ev_is (ev_op ha hb (rv_isT (st_of hp) rfl (flat_str L))) (by rw [in_map])
/-- in_order(literals), literals a tuple -/
def spOrderT (C : Addr) : Sp := fun vs H Q E => ∃ (a : Addr) (L : List Str), vs = [.ref a] ∧ H a = some (.tup (L.map V.str)) ∧ L.length ≤ 100 ∧ (∀ z ∈ L, z.cps.size ≤ 50 ∧ ∀ c ∈ z.cps.toList, c < 128) ∧
  ((∀ z ∈ L, isLit z = true) → ∀ N, Ord (L.map bare) N → Evl.RetL ((due L N).map V.str) H Q) ∧
  (∀ pre z post, L = pre ++ z :: post → (∀ y ∈ pre, isLit y = true) → isLit z = false → ∀ H' d, Evl.Ex H H' → H' d = some (.xd [("text", .str z)]) → E (.ref C) (some d) H')
open Evl in
theorem okT_in_order (T : Txt P K mg) : FnOk P w K mg base (L2N.CX P w) 5 T.f_in_order T.d_in_order ["literals"] (spOrderT T.C_BadLiteral) := by
  refine T.F_in_order.okN sc_in_order (fun vs H Q E h => ?_) (fun cdv A outer s H vs Q E hr h => ?_)
  · obtain ⟨a, L, rfl, _⟩ := h
    rfl
  · obtain ⟨a, L, rfl, ha, few, short, good, bad⟩ := h
    refine ⟨_, (pss_cons (ps_setLcE (i := 1) (own := [("literal", 2)]) (g := gName 2) rfl rfl (L2N.takes_of rfl rfl rfl rfl) (by rfl) sc_in_order.nd rfl rfl (sw_true rfl rfl rfl (by decide +kernel)) (pi_tup (pv 0)) (blkOk_by (own := [("literal", 2)]) (N := N_in_order) (sc := defScope s_in_order) (by decide +kernel))
      (fun _ _ _ _ _ _ _ => pg_name (i := 2) sc_in_order.nd rfl (Or.inl rfl)) (fun _ _ _ _ _ _ _ => pts_nil) (fun _ _ _ _ _ _ pass => (pe_call (ok_name_of T) (hr.mono (by decide)) rfl T.g_name_of T.F_name_of.kp T.b_name_of .nil pass (pa_cons (pv 2) pa_nil))))
      (pss_one (ps_ret (pe_lc (own := [("literal", 2)]) (g := gName 2) (tt := tTest (tOp (rIn K false) (tVar 2) (tVar 0))) (by rfl) sc_in_order.nd (pi_list (pe_call (ok_both_signs T) (hr.mono (by decide)) rfl T.g_both_signs T.F_both_signs.kp T.b_both_signs .nil pass0 (pa_cons (pe_callB (cr_srtS rfl) (by rfl) T.n_sorted (by decide +kernel) (pa_cons (pe_callTy (cr_setS rfl) (by rfl) T.n_set (by decide +kernel) (pa_cons (pv 1) pa_nil)) pa_nil)) pa_nil))) (blkOk_by (own := [("literal", 2)]) (N := N_in_order) (sc := defScope s_in_order) (by decide +kernel)) (fun _ _ _ _ _ => pg_name (i := 2) sc_in_order.nd rfl (Or.inl rfl)) (fun _ _ _ _ _ => (pts_one (pt_cmpR op_in_seq (pv 2) (pv 0) (by rfl)))) (fun _ _ _ _ _ => (pv 2)))))), ?_⟩
    have len8 : ∀ z ∈ L, (bare z).cps.size ≤ 50 := fun z hz => Nat.le_trans (bare_len z) (short z hz).1
    refine ⟨_, rfl, a, rfl, ⟨_, st_of ha⟩, fun D nD => lc_tup (K := K) (xs := L.map V.str) (fun i H' => Ex (upd H D (.lst [])) (upd H' D (.lst [])) ∧ H' D = some (.lst (((L.take i).map bare).map V.str)) ∧ ∀ z ∈ L.take i, isLit z = true) ⟨by rw [upd_upd]; exact Ex.refl _, upd_same, fun z hz => by simp at hz⟩ ?keep ?step ?done⟩
    case keep =>
      rintro i H1 hi ⟨e1, _, _⟩
      refine st_of ?_
      have z := e1 a _ (by rw [upd_ne (ne_of_none ha nD)]; exact ha)
      rw [upd_ne (ne_of_none ha nD)] at z
      exact z
    case step =>
      rintro i x H1 hx ⟨e1, h1, yes⟩
      obtain ⟨z, hz, rfl⟩ : ∃ z, L[i]? = some z ∧ V.str z = x := by
        rw [List.getElem?_map] at hx
        cases e : L[i]? with
        | none => rw [e] at hx; cases hx
        | some z => rw [e] at hx; exact ⟨z, rfl, Option.some.inj hx⟩
      have mz : z ∈ L := List.mem_of_getElem? hz
      refine ⟨rfl, ?_⟩
      unfold tYes
      dsimp only
      rw [if_pos rfl]
      refine ⟨_, rfl, z, rfl, (short z mz).1, (short z mz).2, fun hl H2 e2 => ⟨_, e2 _ _ h1, ?_, ?_, ?_, ?_⟩, fun hl H2 d e2 hd => ?_⟩
      · rw [List.length_map, List.length_map]
        exact sz_lt (by have := List.length_take_le' i L; omega)
      · rw [upd_upd]
        intro b o hb
        by_cases hbD : b = D
        · rw [hbD, upd_same] at hb
          rw [hbD, upd_same]; exact hb
        · have z1 := e1 b o hb
          rw [upd_ne hbD] at z1 ⊢
          exact e2 b o z1
      · rw [upd_same, List.take_add_one, hz, List.map_append, List.map_append]
        rfl
      · intro y hy
        rw [List.take_add_one, hz] at hy
        rcases List.mem_append.mp hy with h | h
        · exact yes y h
        · have e : y = z := by simpa using h
          rw [e]; exact hl
      · refine bad (L.take i) z (L.drop (i + 1)) ?_ yes hl H2 d (fun b o hb => ?_) hd
        · have lt := (List.getElem?_eq_some_iff.mp hz).1
          have q := (List.getElem?_eq_some_iff.mp hz).2
          have z2 : L.drop i = z :: L.drop (i + 1) := by rw [List.drop_eq_getElem_cons lt, q]
          rw [← z2, List.take_append_drop]
        · have nb : b ≠ D := ne_of_none hb nD
          have z1 := e1 b o (by rw [upd_ne nb]; exact hb)
          rw [upd_ne nb] at z1
          exact e2 b o z1
    case done =>
      rintro H1 ⟨e1, h1, yes⟩
      rw [List.length_map, List.take_length] at h1 yes
      have eH : Ex H H1 := fun b o hb => by
        have nb : b ≠ D := ne_of_none hb nD
        have z1 := e1 b o (by rw [upd_ne nb]; exact hb)
        rw [upd_ne nb] at z1
        exact z1
      have cnt : (L.map bare).length ≤ 100 := by rw [List.length_map]; exact few
      refine ⟨_, rfl, D, L.map bare, rfl, sq_of h1, by omega, fun p np => ⟨p, putL (L.map bare), rfl, upd_same, putL_nd _, by have := putL_len (L.map bare); omega, fun ss r pm so nr => ?_⟩⟩
      have od := srt_ord pm so
      have snum : ss.length ≤ 100 := by rw [pm.length_eq]; have := putL_len (L.map bare); omega
      have shorts : ∀ z ∈ ss, z.cps.size ≤ 50 := fun z hz => by
        obtain ⟨y, hy, rfl⟩ := List.mem_map.mp ((od.mem z).mp hz)
        exact len8 y hy
      refine ⟨r, ss, rfl, upd_same, by omega, shorts, fun b H2 nb e2 hb => ?_⟩
      have e3 : Ex H1 H2 := (Ex.new np).trans ((Ex.new nr).trans e2)
      refine ⟨b, rfl, ⟨_, sq_of hb⟩, fun D2 nD2 => lc_list (K := K) (xs := (ss.flatMap twoOf).map V.str) (fun i H' => Ex H2 H' ∧ H' D2 = some (.lst ((((ss.flatMap twoOf).take i).filter fun z => decide (z ∈ L)).map V.str))) ⟨Ex.new nD2, upd_same⟩ (fun i H' _ p => ex_l p.1 (sq_of hb)) ?_ ?_⟩
      · rintro i x H3 hx ⟨q1, q2⟩
        obtain ⟨z, hz, rfl⟩ : ∃ z, (ss.flatMap twoOf)[i]? = some z ∧ V.str z = x := by
          rw [List.getElem?_map] at hx
          cases e : (ss.flatMap twoOf)[i]? with
          | none => rw [e] at hx; cases hx
          | some z => rw [e] at hx; exact ⟨z, rfl, Option.some.inj hx⟩
        refine ⟨rfl, ?_⟩
        have ha3 : H3 a = some (.tup (L.map V.str)) := q1 _ _ (e3 _ _ (eH _ _ ha))
        refine et_test (ev_inStrT (ev_var rfl) (ev_var rfl) ha3) H3 (Ex.refl _) _ fun H4 e4 => ?_
        by_cases m : z ∈ L
        · rw [decide_eq_true m, if_pos rfl]
          refine ⟨_, rfl, _, e4 _ _ q2, ?_, Ex.mut (q1.trans e4) nD2, ?_⟩
          · rw [List.length_map]
            refine sz_lt ?_
            have l1 := List.length_filter_le (fun z => decide (z ∈ L)) ((ss.flatMap twoOf).take i)
            have l2 := List.length_take_le' i (ss.flatMap twoOf)
            rw [two_len] at l2
            omega
          · rw [upd_same, List.take_add_one, hz]
            simp [m]
        · rw [decide_eq_false m, if_neg (by decide)]
          refine ⟨q1.trans e4, ?_⟩
          rw [e4 _ _ q2, List.take_add_one, hz]
          simp [m]
      · rintro H3 ⟨q1, q2⟩
        rw [List.length_map, List.take_length, pick_all] at q2
        exact good yes ss od D2 H3 (fresh_back (eH.trans e3) nD2) ((eH.trans e3).trans q1) q2
/-! ### drawn words and names -/
theorem app_codes (x y : Str) : (x ++ y).cps.toList = x.cps.toList ++ y.cps.toList := Array.toList_append ..
theorem sg_codes (c : Nat) : (⟨#[c]⟩ : Str).cps.toList = [c] := rfl
theorem take_min (l : List Nat) (i : Nat) : l.take (min i l.length) = l.take i := by
  rw [← List.take_take, List.take_length]
theorem drop_min (l : List Nat) (i : Nat) : l.drop (min i l.length) = l.drop i := by
  by_cases h : i ≤ l.length
  · rw [Nat.min_eq_left h]
  · rw [Nat.min_eq_right (by omega), List.drop_length, List.drop_eq_nil_of_le (by omega)]
theorem codes_len (z : Str) : z.cps.toList.length = z.length := Array.length_toList
theorem sIx_of (n d : Nat) {i : Int} (h : 0 ≤ i) : HT.sIx n d (some i) = min i.toNat n := by
  obtain ⟨k, rfl⟩ := Int.eq_ofNat_of_zero_le h
  exact HT.sIx_nat n d k
theorem cut_to (z : Str) {i : Int} (h : 0 ≤ i) : (cutS z none (some i)).cps.toList = z.cps.toList.take i.toNat := by
  show ((z.cps.toList.drop (HT.sIx z.length 0 none)).take (HT.sIx z.length z.length (some i) - HT.sIx z.length 0 none)).toArray.toList = _
  rw [sIx_of _ _ h, HT.sIx_none, List.drop_zero, Nat.sub_zero, ← codes_len]
  exact take_min _ _
theorem cut_mid (z : Str) {i j : Int} (h : 0 ≤ i) (h2 : 0 ≤ j) : (cutS z (some i) (some j)).cps.toList = (z.cps.toList.drop i.toNat).take (j.toNat - i.toNat) := by
  show ((z.cps.toList.drop (HT.sIx z.length 0 (some i))).take (HT.sIx z.length z.length (some j) - HT.sIx z.length 0 (some i))).toArray.toList = _
  rw [sIx_of _ _ h, sIx_of _ _ h2, ← codes_len, drop_min]
  show List.take _ _ = _
  have e := take_min (z.cps.toList.drop i.toNat) (j.toNat - i.toNat)
  rw [← e, List.length_drop]
  by_cases c : i.toNat ≤ z.cps.toList.length
  · have q : min j.toNat z.cps.toList.length - min i.toNat z.cps.toList.length = min (j.toNat - i.toNat) (z.cps.toList.length - i.toNat) := by omega
    rw [q]
  · rw [List.drop_eq_nil_of_le (by omega), List.take_nil, List.take_nil]
theorem cut_fr (z : Str) {i : Int} (h : 0 ≤ i) : (cutS z (some i) none).cps.toList = z.cps.toList.drop i.toNat := by
  show ((z.cps.toList.drop (HT.sIx z.length 0 (some i))).take (HT.sIx z.length z.length none - HT.sIx z.length 0 (some i))).toArray.toList = _
  rw [sIx_of _ _ h, HT.sIx_none, ← codes_len, drop_min]
  show List.take _ _ = _
  refine List.take_of_length_le ?_
  rw [List.length_drop]; omega
structure Wd (n : Nat) (z : Str) : Prop where
  len : z.cps.toList.length = n
  head : z.cps.toList.head?.any ltr = true
  all : z.cps.toList.all lod = true
theorem lod_small {c : Nat} (h : lod c = true) : c < 128 := by
  have q : ∀ c ∈ ("abcdefghijklmnopqrstuvwxyz0123456789" : Str).cps.toList, c < 128 := by decide
  exact q c (of_decide_eq_true h)
theorem ltr_lod {c : Nat} (h : ltr c = true) : lod c = true := by rw [lod_eq, h] <;> rfl
theorem Wd.txt {n : Nat} {z : Str} (h : Wd n z) : Txt8 n z := by
  refine ⟨?_, fun c hc => lod_small (List.all_eq_true.mp h.all c hc)⟩
  rw [← Array.length_toList, h.len]
  exact Nat.le_refl _
theorem Wd.push {n : Nat} {z : Str} {c : Nat} (h : Wd n z) (hn : 1 ≤ n) (hc : lod c = true) : Wd (n + 1) (z ++ ⟨#[c]⟩) := by
  have e := app_codes z ⟨#[c]⟩
  rw [sg_codes] at e
  refine ⟨?_, ?_, ?_⟩
  · rw [e, List.length_append, h.len] <;> rfl
  · rw [e]
    cases q : z.cps.toList with
    | nil => have z1 := h.len; rw [q] at z1; simp at z1; omega
    | cons x r => have z1 := h.head; rw [q] at z1; exact z1
  · rw [e, List.all_append, h.all]
    simp [hc]
theorem Wd.one {c : Nat} (h : ltr c = true) : Wd 1 ⟨#[c]⟩ := ⟨rfl, by rw [sg_codes]; exact h, by rw [sg_codes]; simp [ltr_lod h]⟩
/-- a letter of the alphabet; one of the 36 signs -/
theorem ltr_at {i c : Nat} (h : ("abcdefghijklmnopqrstuvwxyz" : Str).cps[i]? = some c) : ltr c = true := by
  rw [← Array.getElem?_toList] at h
  exact decide_eq_true (List.mem_of_getElem? h)
theorem lod_at {i c : Nat} (h : ("0123456789abcdefghijklmnopqrstuvwxyz" : Str).cps[i]? = some c) : lod c = true := by
  rw [← Array.getElem?_toList] at h
  have q : ∀ c ∈ ("0123456789abcdefghijklmnopqrstuvwxyz" : Str).cps.toList, lod c = true := by decide
  exact q c (List.mem_of_getElem? h)
theorem nm_of {l1 l2 : List Nat} {c : Nat} {z : Str} (e : z.cps.toList = l1 ++ [c] ++ l2) (h1 : l1 = [] ∨ l1.head?.any ltr = true) (a1 : l1.all lod = true) (a2 : l2.all lod = true) (hc : ltr c = true) (len : l1.length + 1 + l2.length ≤ 8) : isName z = true := by
  unfold isName nameL
  rw [e]
  have ln : (l1 ++ [c] ++ l2).length = l1.length + 1 + l2.length := by rw [List.length_append, List.length_append] <;> rfl
  rw [ln, decide_eq_true (show 1 ≤ l1.length + 1 + l2.length by omega), decide_eq_true len]
  have hd : (l1 ++ [c] ++ l2).head?.any ltr = true := by
    cases l1 with
    | nil => exact hc
    | cons x r => rcases h1 with h | h
                  · cases h
                  · exact h
  have al : (l1 ++ [c] ++ l2).all lod = true := by
    rw [List.all_append, List.all_append, a1, a2]
    simp [ltr_lod hc]
  rw [hd, al]
  rfl
theorem all_take {l : List Nat} (h : l.all lod = true) (n : Nat) : (l.take n).all lod = true := List.all_eq_true.mpr fun c hc => List.all_eq_true.mp h c (List.mem_of_mem_take hc)
theorem all_drop {l : List Nat} (h : l.all lod = true) (n : Nat) : (l.drop n).all lod = true := List.all_eq_true.mpr fun c hc => List.all_eq_true.mp h c (List.mem_of_mem_drop hc)
theorem head_take {l : List Nat} (h : l.head?.any ltr = true) (n : Nat) : l.take n = [] ∨ (l.take n).head?.any ltr = true := by
  cases n with
  | zero => exact .inl List.take_zero
  | succ n => cases l with
    | nil => exact .inl List.take_nil
    | cons x r => exact .inr h
theorem name_len {z : Str} (h : isName z = true) : 1 ≤ z.cps.toList.length ∧ z.cps.toList.length ≤ 8 ∧ z.cps.toList.head?.any ltr = true ∧ z.cps.toList.all lod = true := by
  unfold isName nameL at h
  simp only [Bool.and_eq_true, decide_eq_true_eq] at h
  exact ⟨h.1, h.2.1, h.2.2.1, h.2.2.2⟩
theorem name_txt {z : Str} (h : isName z = true) : Txt8 8 z := by
  obtain ⟨_, h8, _, al⟩ := name_len h
  refine ⟨?_, fun c hc => lod_small (List.all_eq_true.mp al c hc)⟩
  rw [← Array.length_toList]; exact h8
/-- _law_word(source, size) -/
def spWordL : Sp := fun vs H Q _ => ∃ (a l : Addr) (ns : List Int) (n : Int), vs = [.ref a, .int n] ∧ SrcL H a l ns ∧ 1 ≤ n ∧ n ≤ 8 ∧ ∀ H' z, Wd n.toNat z → SrcL H' a l ns → But a H H' → Q (.str z) H'
theorem okL__law_word (T : Txt P K mg) : FnOk P w K mg base CX0 2 T.f__law_word T.d__law_word ["_law_source_here", "_law_size"] spWordL := by
  refine T.F__law_word.ok sc__law_word (fun vs H Q E h => ?_) (fun cdv A outer s H vs Q E hr h => ?_)
  · obtain ⟨a, l, ns, n, rfl, _⟩ := h
    rfl
  · obtain ⟨a, l, ns, n, rfl, S, h1, h8, q⟩ := h
    refine ⟨_, (pss_cons (ps_set (i := 2) sc__law_word.nd rfl (.inl rfl) pe_str)
      (pss_cons (ps_set (i := 3) sc__law_word.nd rfl (.inl rfl) pe_str)
      (pss_cons (ps_set (i := 4) sc__law_word.nd rfl (.inl rfl) (pe_item_str (pv 2) (pe_call (okL__law_take T) (hr.mono (by decide)) rfl T.g__law_take T.F__law_take.kp T.b__law_take .nil pass0 (pa_cons (pv 0) (pa_cons pe_int pa_nil))) (fun _ _ => rfl)))
      (pss_cons (ps_set (i := 5) sc__law_word.nd rfl (.inl rfl) (pe_call (okL__law_take T) (hr.mono (by decide)) rfl T.g__law_take T.F__law_take.kp T.b__law_take .nil pass0 (pa_cons (pv 0) (pa_cons (pe_op op_pow pe_int pe_int) pa_nil))))
      (pss_cons (ps_for PassesOwn.never rfl (pi_range1 rfl T.n_range (pa_cons (pe_op op_sub (pv 1) pe_int) pa_nil)) (pg_name (i := 6) sc__law_word.nd rfl (.inl rfl)) (pss_cons (ps_set (i := 4) sc__law_word.nd rfl (.inl rfl) (pe_op op_add_str (pv 4) (pe_item_str (pv 3) (pe_op op_modN (pe_callTy call_int1 (by rfl) T.n_int (by decide +kernel) (pa_cons (pv 5) pa_nil)) pe_int) (fun _ _ => rfl))))
      (pss_one (ps_set (i := 5) sc__law_word.nd rfl (.inl rfl) (pe_op op_fdivW (pv 5) pe_int)))))
      (pss_one (ps_ret (pv 4)))))))), ?_⟩
    refine ⟨_, rfl, .ref a, rfl, a, 26, l, ns, rfl, S, by decide, by decide, fun H1 r r0 r1 S1 B1 => ?_⟩
    obtain ⟨c, hc, hl, tc⟩ := item_of (z := "abcdefghijklmnopqrstuvwxyz") r0 r1 (by decide) (by decide)
    refine ⟨_, _, c, rfl, rfl, r0, by omega, hl, hc, .ref a, rfl, _, _, rfl, rfl, ⟨by decide, by decide, by decide⟩, a, _, l, ns, rfl, S1, by decide, by decide, fun H2 r2 r20 r21 S2 B2 => ?_⟩
    refine ⟨_, rfl, _, _, rfl, rfl, n - 1, rfl, by omega, by omega, for_range (lo := 0) (n := (n - 1).toNat) (fun i σ H' => ∃ (z : Str) (y : Int) (v : Option V), σ = [some (.ref a), some (.int n), some (.str "abcdefghijklmnopqrstuvwxyz"), some (.str "0123456789abcdefghijklmnopqrstuvwxyz"), some (.str z), some (.int y), v] ∧ Wd (i + 1) z ∧ H' = H2) ⟨_, _, _, rfl, Wd.one (ltr_at hc), rfl⟩ ?_ ?_⟩
    · rintro i σ H' hi ⟨z, y, v, rfl, tz, rfl⟩
      obtain ⟨c2, hc2, hl2, tc2⟩ := item_of (z := "0123456789abcdefghijklmnopqrstuvwxyz") (fmod_lo y (m := 36) (by decide)) (fmod_hi y (m := 36) (by decide)) (by decide) (by decide)
      have f1 := fmod_lo y (m := 36) (by decide)
      have f2 := fmod_hi y (m := 36) (by decide)
      refine ⟨_, rfl, _, rfl, _, rfl, .inl ⟨_, rfl, _, _, rfl, rfl, (show (36 : Int) ≠ 0 by decide), _, _, c2, rfl, rfl, f1, by omega, hl2, hc2, _, _, rfl, rfl, line_of (by have h1 := tz.txt.1; have h2 : z.length = z.cps.size := rfl; show z.length + 1 ≤ 1000; omega), ?_⟩⟩
      refine ⟨_, rfl, _, _, rfl, rfl, wide_div (b := 64) (by decide) (by decide) (by decide) (by decide), ?_⟩
      exact ⟨_, _, _, rfl, tz.push (by omega) (lod_at hc2), rfl⟩
    · rintro σ H' ⟨z, y, v, rfl, tz, rfl⟩
      have e : (n - 1).toNat + 1 = n.toNat := by omega
      rw [e] at tz
      exact ⟨_, rfl, q _ z tz S2 (B1.trans B2)⟩
theorem srl_put {H : Hp} {u l0 l : Addr} {ns : List Int} {o : HO} (S : SrcL H u l0 ns) (h1 : l ≠ u) (h2 : l ≠ l0) : SrcL (upd H l o) u l0 ns := by
  obtain ⟨⟨i, x, k, m, h0, h⟩, hl⟩ := S
  exact ⟨⟨i, x, k, m, h0, by rw [upd_ne h1.symm]; exact h⟩, by rw [upd_ne h2.symm]; exact hl⟩
theorem srl_ex {H H' : Hp} {u l0 : Addr} {ns : List Int} (S : SrcL H u l0 ns) (e : Evl.Ex H H') : SrcL H' u l0 ns := by
  obtain ⟨⟨i, x, k, m, h0, h⟩, hl⟩ := S
  exact ⟨⟨i, x, k, m, h0, e _ _ h⟩, e _ _ hl⟩
theorem srl_at {H : Hp} {u l0 : Addr} {ns : List Int} (S : SrcL H u l0 ns) : ∃ o, H u = some o := let ⟨⟨_, _, _, _, _, h⟩, _⟩ := S; ⟨_, h⟩
theorem srl_off {H : Hp} {u l0 p : Addr} {ns : List Int} (S : SrcL H u l0 ns) (hp : H p = none) : p ≠ u ∧ p ≠ l0 := by
  obtain ⟨⟨i, x, k, m, h0, h⟩, hl⟩ := S
  exact ⟨fun e => (by rw [e, h] at hp; cases hp), fun e => (by rw [e, hl] at hp; cases hp)⟩
theorem srl_new {H : Hp} {u l0 p : Addr} {ns : List Int} {o : HO} (S : SrcL H u l0 ns) (hp : H p = none) : SrcL (upd H p o) u l0 ns := srl_put S (srl_off S hp).1 (srl_off S hp).2
theorem But.upd2 {a p : Addr} {H H1 : Hp} {o : HO} (x : But a H H1) (hp : H p = none) : But a H (L2.upd H1 p o) := fun b u n h => by
  rw [upd_ne (ne_of_none h hp)]
  exact x b u n h
theorem But.fresh {a p : Addr} {H H1 : Hp} (x : But a H H1) (S : ∃ o, H a = some o) (hp : H1 p = none) (hpa : p ≠ a) : H p = none := by
  cases e : H p with
  | none => rfl
  | some o => have z := x p o hpa e; rw [hp] at z; cases z
/-- the letter at a place of the alphabet -/
def abc (i : Int) : Option Nat := ("abcdefghijklmnopqrstuvwxyz" : Str).cps[(Int.fmod i 26).toNat]?
theorem abc_inj : ∀ i j : Fin 26, ("abcdefghijklmnopqrstuvwxyz" : Str).cps[i.val]? = ("abcdefghijklmnopqrstuvwxyz" : Str).cps[j.val]? → i = j := by decide +kernel
theorem abc_eq {i j : Int} (h : abc i = abc j) : i % 26 = j % 26 := by
  unfold abc at h
  have e1 : Int.fmod i 26 = i % 26 := Int.fmod_eq_emod_of_nonneg i (by decide)
  have e2 : Int.fmod j 26 = j % 26 := Int.fmod_eq_emod_of_nonneg j (by decide)
  rw [e1, e2] at h
  have z := abc_inj ⟨(i % 26).toNat, by omega⟩ ⟨(j % 26).toNat, by omega⟩ h
  have y := congrArg Fin.val z
  dsimp only at y
  omega
/-- different letters at one place -/
theorem apart_names {nms : List Str} {pos : Nat} {sh pc : Int} (many : nms.length ≤ 26) (hp : pc = 1 ∨ pc = 5 ∨ pc = 7 ∨ pc = 25) (h : ∀ (j : Nat) (hj : j < nms.length), (nms[j]).cps.toList[pos]? = abc (sh + pc * (j : Int))) : nms.Nodup := by
  rw [List.Nodup, List.pairwise_iff_getElem]
  intro i j hi hj lt e
  have a := h i hi
  have b := h j hj
  rw [e, b] at a
  have z := abc_eq a
  rcases hp with rfl | rfl | rfl | rfl <;> omega
theorem mid_at {l1 l2 : List Nat} {c k : Nat} (h : l1.length = k) : (l1 ++ (⟨#[c]⟩ : Str).cps.toList ++ l2)[k]? = some c := by
  subst h
  show (l1 ++ [c] ++ l2)[l1.length]? = some c
  rw [List.append_assoc, List.getElem?_append_right (Nat.le_refl _), Nat.sub_self]
  rfl
theorem len_codes (z : Str) : (z.length : Nat) = z.cps.toList.length := (codes_len z).symm
/-- _law_names(source, many) -/
def spNamesL : Sp := fun vs H Q _ => ∃ (a l : Addr) (ns : List Int) (many : Int), vs = [.ref a, .int many] ∧ SrcL H a l ns ∧ 1 ≤ many ∧ many ≤ 26 ∧ ∀ (H' : Hp) (p : Addr) (nms : List Str), H p = none → SrcL H' a l ns → But a H H' → H' p = some (.lst (nms.map V.str)) → nms.length = many.toNat → (∀ z ∈ nms, isName z = true) → nms.Nodup → Q (.ref p) H'
theorem ok__law_names (T : Txt P K mg) : FnOk P w K mg base CX0 3 T.f__law_names T.d__law_names ["_law_source_here", "_law_many"] spNamesL := by
  refine T.F__law_names.ok sc__law_names (fun vs H Q E h => ?_) (fun cdv A outer s H vs Q E hr h => ?_)
  · obtain ⟨a, l, ns, many, rfl, _⟩ := h
    rfl
  · obtain ⟨a, l, ns, many, rfl, S, m1, m14, q⟩ := h
    refine ⟨_, (pss_cons (ps_set (i := 2) sc__law_names.nd rfl (.inl rfl) pe_str)
      (pss_cons (ps_set (i := 3) sc__law_names.nd rfl (.inl rfl) (pe_call (okL__law_take T) (hr.mono (by decide)) rfl T.g__law_take T.F__law_take.kp T.b__law_take .nil pass0 (pa_cons (pv 0) (pa_cons pe_int pa_nil))))
      (pss_cons (ps_set (i := 4) sc__law_names.nd rfl (.inl rfl) (pe_op op_add pe_int (pe_call (okL__law_take T) (hr.mono (by decide)) rfl T.g__law_take T.F__law_take.kp T.b__law_take .nil pass0 (pa_cons (pv 0) (pa_cons pe_int pa_nil)))))
      (pss_cons (ps_set (i := 5) sc__law_names.nd rfl (.inl rfl) (pe_call (okL__law_take T) (hr.mono (by decide)) rfl T.g__law_take T.F__law_take.kp T.b__law_take .nil pass0 (pa_cons (pv 0) (pa_cons (pv 4) pa_nil))))
      (pss_cons (ps_set (i := 6) sc__law_names.nd rfl (.inl rfl) (pe_call (okL__law_word T) (hr.mono (by decide)) rfl T.g__law_word T.F__law_word.kp T.b__law_word .nil pass0 (pa_cons (pv 0) (pa_cons (pv 4) pa_nil))))
      (pss_cons (ps_set (i := 7) sc__law_names.nd rfl (.inl rfl) (pe_call (okL__law_take T) (hr.mono (by decide)) rfl T.g__law_take T.F__law_take.kp T.b__law_take .nil pass0 (pa_cons (pv 0) (pa_cons pe_int pa_nil))))
      (pss_cons (ps_set (i := 8) sc__law_names.nd rfl (.inl rfl) (pe_ix ix_list (pe_lst (pa_cons pe_int (pa_cons pe_int (pa_cons pe_int (pa_cons pe_int pa_nil))))) (pe_call (okL__law_take T) (hr.mono (by decide)) rfl T.g__law_take T.F__law_take.kp T.b__law_take .nil pass0 (pa_cons (pv 0) (pa_cons pe_int pa_nil))) (fun _ _ => rfl)))
      (pss_cons (ps_set (i := 9) sc__law_names.nd rfl (.inl rfl) (pe_lst pa_nil))
      (pss_cons (ps_for PassesOwn.never rfl (pi_range1 rfl T.n_range (pa_cons (pv 1) pa_nil)) (pg_name (i := 10) sc__law_names.nd rfl (.inl rfl)) (pss_cons (ps_set (i := 11) sc__law_names.nd rfl (.inl rfl) (pe_item_str (pv 2) (pe_op op_modN (pe_callTy call_int1 (by rfl) T.n_int (by decide +kernel) (pa_cons (pe_op op_add (pv 7) (pe_op op_mul (pv 8) (pv 10))) pa_nil)) pe_int) (fun _ _ => rfl)))
      (pss_one (ps_if (pt_cmpR op_eq (pv 3) pe_int (nomark _)) (pss_one (ps_expr (pe_bm PySem.F.plainAttrs_list PySem.F.slot_list_append PySem.F.type_list_append mt_append (pv 9) (pa_cons (pe_op op_add_str (pe_op op_add_str (pe_slice sl_str (pv 6) po_none (po_some (pv 5))) (pv 11)) (pe_slice sl_str (pv 6) (po_some (pe_op op_add (pv 5) pe_int)) po_none)) pa_nil)))) (pss_one (ps_if (pt_cmpR op_eq (pv 3) pe_int (nomark _)) (pss_one (ps_expr (pe_bm PySem.F.plainAttrs_list PySem.F.slot_list_append PySem.F.type_list_append mt_append (pv 9) (pa_cons (pe_op op_add_str (pv 11) (pe_slice sl_str (pv 6) (po_some pe_int) (po_some (pe_op op_add pe_int (pe_call (okL__law_take T) (hr.mono (by decide)) rfl T.g__law_take T.F__law_take.kp T.b__law_take .nil pass0 (pa_cons (pv 0) (pa_cons pe_int pa_nil))))))) pa_nil)))) (pss_one (ps_expr (pe_bm PySem.F.plainAttrs_list PySem.F.slot_list_append PySem.F.type_list_append mt_append (pv 9) (pa_cons (pe_op op_add_str (pe_op op_add_str (pe_slice sl_str (pv 6) po_none (po_some (pv 5))) (pv 11)) (pe_slice sl_str (pe_call (okL__law_word T) (hr.mono (by decide)) rfl T.g__law_word T.F__law_word.kp T.b__law_word .nil pass0 (pa_cons (pv 0) (pa_cons (pe_op op_sub pe_int (pv 5)) pa_nil))) po_none (po_some (pe_call (okL__law_take T) (hr.mono (by decide)) rfl T.g__law_take T.F__law_take.kp T.b__law_take .nil pass0 (pa_cons (pv 0) (pa_cons (pe_op op_sub pe_int (pv 5)) pa_nil)))))) pa_nil))))))))))
      (pss_one (ps_ret (pv 9)))))))))))), ?_⟩
    refine ⟨.ref a, rfl, a, 3, l, ns, rfl, S, by decide, by decide, fun H1 st st0 st1 S1 B1 => ?_⟩
    refine ⟨.ref a, rfl, a, 8, l, ns, rfl, S1, by decide, by decide, fun H2 n n0 n1 S2 B2 => ⟨_, _, rfl, rfl, ?_⟩⟩
    refine ⟨.ref a, rfl, _, rfl, a, 1 + n, l, ns, rfl, S2, by omega, by omega, fun H3 at_ t0 t1 S3 B3 => ?_⟩
    refine ⟨.ref a, rfl, _, rfl, a, l, ns, 1 + n, rfl, S3, by omega, by omega, fun H4 bs wb S4 B4 => ?_⟩
    refine ⟨.ref a, rfl, a, 26, l, ns, rfl, S4, by decide, by decide, fun H5 sh sh0 sh1 S5 B5 => ?_⟩
    refine ⟨(by show 4 ≤ sizeLine; decide), fun p0 hp0 => ⟨.ref a, rfl, a, 4, l, ns, rfl, srl_new S5 hp0, by decide, by decide, fun H6 r r0 r1 S6 B6 => ?_⟩⟩
    have B05 : But a H H5 := (((B1.trans B2).trans B3).trans B4).trans B5
    have hp06 : H6 p0 = some (.lst [.int 1, .int 5, .int 7, .int 25]) := B6 p0 _ (srl_off S5 hp0).1 upd_same
    obtain ⟨pc, hpc, pc0, pc1, pc4⟩ : ∃ pc : Int, ([V.int 1, .int 5, .int 7, .int 25] : List V)[r.toNat]? = some (.int pc) ∧ 0 ≤ pc ∧ pc ≤ 25 ∧ (pc = 1 ∨ pc = 5 ∨ pc = 7 ∨ pc = 25) := by
      have h2 : r = 0 ∨ r = 1 ∨ r = 2 ∨ r = 3 := by omega
      rcases h2 with rfl | rfl | rfl | rfl
      · exact ⟨1, rfl, by decide, by decide, by decide⟩
      · exact ⟨5, rfl, by decide, by decide, by decide⟩
      · exact ⟨7, rfl, by decide, by decide, by decide⟩
      · exact ⟨25, rfl, by decide, by decide, by decide⟩
    have B06 : But a H H6 := B05.trans fun b o n e => B6 b o n (by rw [upd_ne (ne_of_none e hp0)]; exact e)
    refine ⟨p0, _, r, _, rfl, rfl, SqL.of hp06, at_of (by omega) hpc, ?_⟩
    refine ⟨(by show 0 ≤ sizeLine; decide), fun p np => ?_⟩
    have offp := srl_off S6 np
    have np0 : H p = none := B06.fresh (srl_at S) np offp.1
    have wl : bs.cps.toList.length = (1 + n).toNat := wb.len
    have wt := wb.txt
    have wz : bs.length ≤ 8 := by rw [len_codes, wl]; omega
    refine ⟨_, rfl, many, rfl, by omega, by omega, for_range (lo := 0) (n := many.toNat) (fun i σ H' => ∃ (nms : List Str) (v10 v11 : Option V), σ = [some (.ref a), some (.int many), some (.str "abcdefghijklmnopqrstuvwxyz"), some (.int st), some (.int (1 + n)), some (.int at_), some (.str bs), some (.int sh), some (.int pc), some (.ref p), v10, v11] ∧
      SrcL H' a l ns ∧ But a H H' ∧ H' p = some (.lst (nms.map V.str)) ∧ nms.length = i ∧ (∀ z ∈ nms, isName z = true) ∧ ∀ (j : Nat) (hj : j < nms.length), (nms[j]).cps.toList[(if st = 1 then 0 else at_.toNat)]? = abc (sh + pc * (j : Int))) ⟨[], _, _, rfl, srl_new S6 np, B06.upd2 np0, upd_same, rfl, (fun z hz => (by cases hz)), fun j hj => absurd hj (by simp)⟩ ?_ ?_⟩
    · rintro i σ H7 hi ⟨nms, v10, v11, rfl, S7, B7, h7, cnt, ok, key⟩
      obtain ⟨c, hc, hl, tc⟩ := item_of (z := "abcdefghijklmnopqrstuvwxyz") (fmod_lo (sh + pc * (0 + (i : Int))) (m := 26) (by decide)) (fmod_hi (sh + pc * (0 + (i : Int))) (m := 26) (by decide)) (by decide) (by decide)
      have f1 := fmod_lo (sh + pc * (0 + (i : Int))) (m := 26) (by decide)
      have f2 := fmod_hi (sh + pc * (0 + (i : Int))) (m := 26) (by decide)
      have lc := ltr_at hc
      refine ⟨_, rfl, _, rfl, _, rfl, _, rfl, _, _, rfl, rfl, .inl ⟨by omega, by omega⟩, _, _, rfl, rfl, .inl ⟨_, rfl, _, _, rfl, rfl, (show (26 : Int) ≠ 0 by decide), _, _, c, rfl, rfl, f1, by omega, hl, hc, ?_⟩⟩
      -- the end of a turn
      have fin : ∀ H8 (z : Str), SrcL H8 a l ns → But a H H8 → H8 p = some (.lst (nms.map V.str)) → isName z = true → z.cps.toList[(if st = 1 then 0 else at_.toNat)]? = some c → ∃ (nms' : List Str) (v10 v11 : Option V), [some (V.ref a), some (.int many), some (.str "abcdefghijklmnopqrstuvwxyz"), some (.int st), some (.int (1 + n)), some (.int at_), some (.str bs), some (.int sh), some (.int pc), some (.ref p), some (V.int (0 + (i : Int))), some (V.str ⟨#[c]⟩)] = [some (.ref a), some (.int many), some (.str "abcdefghijklmnopqrstuvwxyz"), some (.int st), some (.int (1 + n)), some (.int at_), some (.str bs), some (.int sh), some (.int pc), some (.ref p), v10, v11] ∧
          SrcL (upd H8 p (.lst (nms.map V.str ++ [.str z]))) a l ns ∧ But a H (upd H8 p (.lst (nms.map V.str ++ [.str z]))) ∧ (upd H8 p (.lst (nms.map V.str ++ [.str z]))) p = some (.lst (nms'.map V.str)) ∧ nms'.length = i + 1 ∧ (∀ z ∈ nms', isName z = true) ∧ ∀ (j : Nat) (hj : j < nms'.length), (nms'[j]).cps.toList[(if st = 1 then 0 else at_.toNat)]? = abc (sh + pc * (j : Int)) :=
        fun H8 z S8 B8 h8 hz hk => ⟨nms ++ [z], _, _, rfl, srl_put S8 offp.1 offp.2, B8.upd2 np0, by rw [upd_same, List.map_append] <;> rfl, by rw [List.length_append, cnt] <;> rfl, (fun y hy => by
          rcases List.mem_append.mp hy with h | h
          · exact ok y h
          · have e : y = z := by simpa using h
            rw [e]; exact hz), fun j hj => by
          by_cases c1 : j < nms.length
          · rw [List.getElem_append_left c1]; exact key j c1
          · rw [List.length_append, List.length_singleton] at hj
            have e : j = i := by omega
            subst e
            rw [List.getElem_append_right (by omega)]
            simp only [cnt, Nat.sub_self, List.getElem_singleton]
            rw [hk, ← hc]
            unfold abc
            rw [Int.zero_add]⟩
      have few : (nms.map V.str).length < sizeLine := by rw [List.length_map, cnt]; exact Evl.sz_lt (by omega)
      refine ⟨_, rfl, rfl, _, rfl, ite2 (fun e => ?_) (fun e => ?_)⟩
      · refine ⟨.ref p, rfl, Or.inl ⟨rfl, _, SqL.of h7⟩, ?_⟩
        refine ⟨_, rfl, _, rfl, _, rfl, _, rfl, line_of (by omega), _, rfl, _, _, rfl, rfl, line_of ?_, _, rfl, _, rfl, _, _, rfl, rfl, _, rfl, _, rfl, line_of (by omega), _, _, rfl, rfl, line_of ?_, ?_⟩
        · have := len_codes (cutS bs none (some at_)); have := congrArg List.length (cut_to bs t0); rw [List.length_take] at this; show _ + 1 ≤ _; omega
        · have := len_codes (cutS bs none (some at_) ++ ⟨#[c]⟩); have e1 := congrArg List.length (app_codes (cutS bs none (some at_)) ⟨#[c]⟩); rw [List.length_append, cut_to bs t0, List.length_take] at e1
          have := len_codes (cutS bs (some (at_ + 1)) none); have e2 := congrArg List.length (cut_fr bs (i := at_ + 1) (by omega)); rw [List.length_drop] at e2
          have e3 : (⟨#[c]⟩ : Str).cps.toList.length = 1 := rfl
          omega
        · refine ⟨p, _, _, rfl, rfl, h7, few, fin H7 _ S7 B7 h7 ?_ ?_⟩
          · refine nm_of (l1 := bs.cps.toList.take at_.toNat) (l2 := bs.cps.toList.drop (at_ + 1).toNat) (c := c) ?_ (head_take wb.head _) (all_take wb.all _) (all_drop wb.all _) lc ?_
            · rw [app_codes, app_codes, cut_to bs t0, cut_fr bs (by omega)] <;> rfl
            · rw [List.length_take, List.length_drop]; omega
          · have st0 : st = 0 := V.int.inj (of_decide_eq_true e)
            rw [if_neg (by omega), app_codes, app_codes, cut_to bs t0]
            exact mid_at (by rw [List.length_take]; omega)
      · refine ⟨_, rfl, rfl, _, rfl, ite2 (fun e2 => ?_) (fun e2 => ?_)⟩
        · refine ⟨.ref p, rfl, Or.inl ⟨rfl, _, SqL.of h7⟩, ?_⟩
          refine ⟨_, rfl, _, rfl, 1, rfl, .ref a, rfl, a, 8, l, ns, rfl, S7, by decide, by decide, fun H8 tt t0' t1' S8 B8 => ⟨_, _, rfl, rfl, _, rfl, bs, rfl, line_of (by omega), _, _, rfl, rfl, line_of ?_, ?_⟩⟩
          · have := len_codes (cutS bs (some 1) (some (1 + tt))); have e3 := congrArg List.length (cut_mid bs (i := 1) (j := 1 + tt) (by decide) (by omega)); rw [List.length_take, List.length_drop] at e3
            show 1 + _ ≤ _; omega
          · refine ⟨p, _, _, rfl, rfl, B8 p _ offp.1 h7, few, fin H8 _ S8 (B7.trans B8) (B8 p _ offp.1 h7) ?_ ?_⟩
            · refine nm_of (l1 := []) (l2 := (bs.cps.toList.drop (1 : Int).toNat).take ((1 + tt).toNat - (1 : Int).toNat)) (c := c) ?_ (.inl rfl) rfl (all_take (all_drop wb.all _) _) lc ?_
              · rw [app_codes, cut_mid bs (by decide) (by omega)] <;> rfl
              · rw [List.length_take, List.length_drop]; show 0 + 1 + _ ≤ _; omega
            · rw [if_pos (V.int.inj (of_decide_eq_true e2)), app_codes]
              rfl
        · refine ⟨.ref p, rfl, Or.inl ⟨rfl, _, SqL.of h7⟩, ?_⟩
          refine ⟨_, rfl, _, rfl, _, rfl, _, rfl, line_of (by omega), _, rfl, _, _, rfl, rfl, line_of ?_, .ref a, rfl, _, rfl, _, _, rfl, rfl, a, l, ns, 8 - at_, rfl, S7, by omega, by omega, fun H8 wd ww S8 B8 => ?_⟩
          · have := len_codes (cutS bs none (some at_)); have := congrArg List.length (cut_to bs t0); rw [List.length_take] at this; show _ + 1 ≤ _; omega
          · have wwl := ww.len
            refine ⟨.ref a, rfl, _, rfl, _, _, rfl, rfl, a, 8 - at_, l, ns, rfl, S8, by omega, by omega, fun H9 tt t0' t1' S9 B9 => ⟨_, rfl, wd, rfl, line_of (by rw [len_codes]; omega), _, _, rfl, rfl, line_of ?_, ?_⟩⟩
            · have := len_codes (cutS bs none (some at_) ++ ⟨#[c]⟩); have e1 := congrArg List.length (app_codes (cutS bs none (some at_)) ⟨#[c]⟩); rw [List.length_append, cut_to bs t0, List.length_take] at e1
              have := len_codes (cutS wd none (some tt)); have e2 := congrArg List.length (cut_to wd t0'); rw [List.length_take] at e2
              have e3 : (⟨#[c]⟩ : Str).cps.toList.length = 1 := rfl
              omega
            · have h9 := B9 p _ offp.1 (B8 p _ offp.1 h7)
              refine ⟨p, _, _, rfl, rfl, h9, few, fin H9 _ S9 ((B7.trans B8).trans B9) h9 ?_ ?_⟩
              · refine nm_of (l1 := bs.cps.toList.take at_.toNat) (l2 := wd.cps.toList.take tt.toNat) (c := c) ?_ (head_take wb.head _) (all_take wb.all _) (all_take ww.all _) lc ?_
                · rw [app_codes, app_codes, cut_to bs t0, cut_to wd t0'] <;> rfl
                · rw [List.length_take, List.length_take]; omega
              · have st1 : st ≠ 1 := fun h => e2 (decide_eq_true (by rw [h]))
                rw [if_neg st1, app_codes, app_codes, cut_to bs t0]
                exact mid_at (by rw [List.length_take]; omega)
    · rintro σ H7 ⟨nms, v10, v11, rfl, S7, B7, h7, cnt, ok, key⟩
      exact ⟨_, rfl, q H7 p nms np0 S7 B7 h7 cnt ok (apart_names (by omega) pc4 key)⟩
section
open Evl
/-- [g(z) for z in a list of texts if p(z)] -/
theorem el_fmS {σ : L2.St} {H : Hp} {a : Addr} {L : List Str} {tl te : TE} {tt : TT} {j : Nat} {vs : List Nat} (p : Str → Bool) (g : Str → Str) (h : Ev tl σ H (.ref a)) (hx : H a = some (.lst (L.map V.str))) (hz : L.length ≤ 40000) (hw : ∀ x, wipe ((wipe σ vs).set j (some x)) vs = wipe σ vs)
    (ht : ∀ z ∈ L, ∀ H1, Ex H H1 → EvT tt ((wipe σ vs).set j (some (.str z))) H1 (p z)) (he : ∀ z ∈ L, p z = true → ∀ H1, Ex H H1 → Ev te ((wipe σ vs).set j (some (.str z))) H1 (.str (g z))) :
    EvL (tLc (iList K tl) (gName j) tt te vs) σ H (((L.filter p).map g).map V.str) := fun H0 e Q q => h H0 e _ fun H1 e1 => by
  have e01 := e.trans e1
  refine ⟨a, rfl, ⟨_, sq_of (e01 _ _ hx)⟩, fun D nD => lc_list (K := K) (xs := L.map V.str) (fun i H' => Ex H1 H' ∧ H' D = some (.lst ((((L.take i).filter p).map g).map V.str))) ⟨Ex.new nD, upd_same⟩ (fun i H' _ x => sq_of (x.1 _ _ (e01 _ _ hx))) ?_ ?_⟩
  · rintro i x H3 hi ⟨q1, q2⟩
    obtain ⟨z, hz', rfl⟩ : ∃ z, L[i]? = some z ∧ V.str z = x := by
      rw [List.getElem?_map] at hi
      cases e : L[i]? with
      | none => rw [e] at hi; cases hi
      | some z => rw [e] at hi; exact ⟨z, rfl, Option.some.inj hi⟩
    have m := List.mem_of_getElem? hz'
    refine ⟨hw _, ?_⟩
    refine ht z m H3 (e01.trans q1) H3 (Ex.refl _) _ fun H4 e4 => ?_
    cases c : p z with
    | true =>
      rw [if_pos rfl]
      refine he z m c H4 ((e01.trans q1).trans e4) H4 (Ex.refl _) _ fun H5 e5 => ⟨_, e5 _ _ (e4 _ _ q2), ?_, Ex.mut ((q1.trans e4).trans e5) nD, ?_⟩
      · rw [List.length_map, List.length_map]
        have l1 := List.length_filter_le p (L.take i)
        have l2 := List.length_take_le' i L
        exact sz_lt (by omega)
      · rw [upd_same, List.take_add_one, hz']
        simp [c]
    | false =>
      rw [if_neg (by decide)]
      refine ⟨q1.trans e4, ?_⟩
      rw [e4 _ _ q2, List.take_add_one, hz']
      simp [c]
  · rintro H3 ⟨q1, q2⟩
    rw [List.length_map, List.take_length] at q2
    exact q D H3 (fresh_back e1 nD) (e1.trans q1) q2
theorem et_yes {σ : L2.St} {H : Hp} : EvT tYes σ H true := fun H1 e Q q => q H1 (Ex.refl H1)
theorem el_mpS {σ : L2.St} {H : Hp} {a : Addr} {L : List Str} {tl te : TE} {j : Nat} {vs : List Nat} (g : Str → Str) (h : Ev tl σ H (.ref a)) (hx : H a = some (.lst (L.map V.str))) (hz : L.length ≤ 40000) (hw : ∀ x, wipe ((wipe σ vs).set j (some x)) vs = wipe σ vs)
    (he : ∀ z ∈ L, ∀ H1, Ex H H1 → Ev te ((wipe σ vs).set j (some (.str z))) H1 (.str (g z))) : EvL (tLc (iList K tl) (gName j) tYes te vs) σ H ((L.map g).map V.str) := by
  have z := el_fmS (K := K) (tt := tYes) (te := te) (fun _ => true) g h hx hz hw (fun _ _ _ _ => et_yes) (fun z m _ => he z m)
  rw [List.filter_eq_self.mpr (fun _ _ => rfl)] at z
  exact z
theorem q_forCBL {te : TE} {r : List V → Hp → VK → Prop} {xs : List V} {g : TG} {tb tz : TS} {D : Ends} {σ : L2.St} {H : Hp} (h : EvL te σ H xs) (k : ∀ p H1, H p = none → Ex H H1 → H1 p = some (.lst xs) → tFor (iList K (fun _ H Q => r [.ref p] H Q)) g tb { D with nx := tz D } σ H1) :
    tSeq (tFor (iList K (tCB r (tCons te tNil))) g tb) tz D σ H := h H (Ex.refl H) _ fun p H1 a b c => k p H1 a b c
theorem q_forCL {te : TE} {sp : Sp} {E : XK} {xs : List V} {g : TG} {tb tz : TS} {D : Ends} {σ : L2.St} {H : Hp} (h : EvL te σ H xs) (k : ∀ p H1, H p = none → Ex H H1 → H1 p = some (.lst xs) → tFor (iList K (fun _ H Q => sp [.ref p] H Q E)) g tb { D with nx := tz D } σ H1) :
    tSeq (tFor (iList K (tCall sp [] E (tCons te tNil))) g tb) tz D σ H := h H (Ex.refl H) _ fun p H1 a b c => k p H1 a b c
/-- _law_sorted(names) -/
def spSorted : Sp := fun vs H Q _ => ∃ (a : Addr) (L : List Str), vs = [.ref a] ∧ H a = some (.lst (L.map V.str)) ∧ L.length ≤ 40 ∧ ∀ N, Ord L N → RetL (N.map V.str) H Q
theorem ok__law_sorted (T : Txt P K mg) : FnOk P w K mg base CX0 1 T.f__law_sorted T.d__law_sorted ["_law_names_here"] spSorted := by
  refine T.F__law_sorted.ok sc__law_sorted (fun vs H Q E h => ?_) (fun cdv A outer s H vs Q E hr h => ?_)
  · obtain ⟨a, L, rfl, _⟩ := h
    rfl
  · obtain ⟨a, L, rfl, ha, few, q⟩ := h
    refine ⟨_, (pss_cons (ps_set (i := 1) sc__law_sorted.nd rfl (.inl rfl) (pe_lst pa_nil))
      (pss_cons (ps_for PassesOwn.never rfl (pi_list (pe_callB cr_sortedS (by rfl) T.n_sorted (by decide +kernel) (pa_cons (pe_lc (own := [("_law_each", 3)]) (g := gName 3) (by rfl) sc__law_sorted.nd (pi_list (pv 0)) (blkOk_by (own := [("_law_each", 3)]) (N := N__law_sorted) (sc := defScope s__law_sorted) (by decide +kernel)) (fun _ _ _ _ _ => pg_name (i := 3) sc__law_sorted.nd rfl (Or.inl rfl)) (fun _ _ _ _ _ => pts_nil) (fun _ _ _ _ _ => (pe_callTy SkE.call_str_str (by rfl) T.n_str (by decide +kernel) (pa_cons (pv 3) pa_nil)))) pa_nil))) (pg_name (i := 2) sc__law_sorted.nd rfl (.inl rfl)) (pss_one (ps_if (pt_cmpR op_notIn_seq (pv 2) (pv 1) (by rfl)) (pss_one (ps_expr (pe_bm PySem.F.plainAttrs_list PySem.F.slot_list_append PySem.F.type_list_append mt_append (pv 1) (pa_cons (pv 2) pa_nil)))) pss_nil)))
      (pss_one (ps_ret (pv 1))))), ?_⟩
    refine q_asgL (xs := []) (el_lst ea_nil (by decide)) (fun p H0 np e0 hp0 => ?_)
    have ha1 := e0 _ _ ha
    have copy : EvL (tLc (iList K (tVar 0)) (gName 3) tYes (tCB (fun xs H Q => ∃ a, xs = [V.str a] ∧ Q (.str a) H) (tCons (tVar 3) tNil)) [3]) [some (V.ref a), some (.ref p), none, none] H0 ((L.map fun z => z).map V.str) :=
      el_mpS (K := K) (fun z => z) (ev_var rfl) ha1 (by omega) (fun _ => rfl) (fun z m H1 e1 => ev_cb (ea_cons (ev_var rfl) ea_nil) fun H2 e2 Q q => ⟨z, rfl, q H2 (Ex.refl H2)⟩)
    rw [List.map_id'] at copy
    refine q_forCBL copy fun D H1 nD e1 hD => ⟨D, L, rfl, sq_of hD, by omega, fun ys r pm so nr => ?_⟩
    have od := dd_ord pm so
    have hp1 : H1 p = some (.lst []) := e1 _ _ hp0
    have rp : r ≠ p := fun z => by rw [z, hp1] at nr; cases nr
    have eH : Ex H (upd H1 r (.lst (ys.map V.str))) := (e0.trans e1).trans (Ex.new nr)
    refine ⟨r, rfl, ⟨_, sq_of upd_same⟩, for_list (K := K) (xs := ys.map V.str) (fun i σ H' => ∃ v2 : Option V, σ = [some (V.ref a), some (.ref p), v2, none] ∧ Ex H H' ∧ H' r = some (.lst (ys.map V.str)) ∧ H' p = some (.lst ((dd [] (ys.take i)).map V.str)))
      ⟨none, rfl, eH, upd_same, by rw [upd_ne rp.symm]; exact hp1⟩ (fun i σ H' _ ⟨_, _, _, h, _⟩ => sq_of h) ?_ ?_⟩
    · rintro i x σ H2 hi ⟨v2, rfl, e2, hr2, hp2⟩
      obtain ⟨z, hz, rfl⟩ : ∃ z, ys[i]? = some z ∧ V.str z = x := by
        rw [List.getElem?_map] at hi
        cases e : ys[i]? with
        | none => rw [e] at hi; cases hi
        | some z => rw [e] at hi; exact ⟨z, rfl, Option.some.inj hi⟩
      have step : dd [] (ys.take (i + 1)) = if z ∈ dd [] (ys.take i) then dd [] (ys.take i) else dd [] (ys.take i) ++ [z] := by
        rw [List.take_add_one, hz]; exact dd_step [] _ z
      have dl : (dd [] (ys.take i)).length ≤ 40 := by
        have so2 := pw_sorted ys so
        obtain ⟨_, nd, mm⟩ := dd_spec (ys.take i) [] .nil (so2.sublist (List.take_sublist i ys))
        have l1 := perm_len_le (m := ys.take i) nd fun x hx => by simpa using (mm x).mp hx
        have l2 := List.length_take_le' i ys
        have l3 := pm.length_eq
        omega
      refine s_when (et_test (ev_niStr (ev_var rfl) (ev_var rfl) hp2)) (fun c H3 e3 => ?_) (fun c H3 e3 => ?_)
      · have c2 : z ∉ dd [] (ys.take i) := by simpa using c
        refine s_app (K := K) (e3 _ _ hp2) (ev_var rfl) (ev_var rfl) (by rw [List.length_map]; omega) fun H4 e4 => ⟨_, rfl, Ex.mut ((e2.trans e3).trans e4) np, ?_, ?_⟩
        · rw [upd_ne rp]; exact e4 _ _ (e3 _ _ hr2)
        · rw [upd_same, step, if_neg c2, List.map_append] <;> rfl
      · have c2 : z ∈ dd [] (ys.take i) := by simpa using c
        exact ⟨_, rfl, e2.trans e3, e3 _ _ hr2, by rw [step, if_pos c2]; exact e3 _ _ hp2⟩
    · rintro σ H2 ⟨v2, rfl, e2, hr2, hp2⟩
      rw [List.length_map, List.take_length] at hp2
      exact ⟨_, rfl, q _ od p H2 np e2 hp2⟩
theorem minus_len {n : Str} (h : n.cps.size ≤ 50) : ("-" : Str).length + n.length ≤ 1000 := by
  have h1 : ("-" : Str).length = 1 := by decide
  have h2 : n.length = n.cps.size := rfl
  omega
end
theorem name_dash {z : Str} (h : isName z = true) : dash z = false := by
  obtain ⟨_, _, hd, _⟩ := name_len h
  unfold dash dashL
  cases e : z.cps.toList with
  | nil => rfl
  | cons c r =>
    rw [e] at hd
    have z1 : ltr c = true := hd
    cases q : ((c :: r).head? == some 45) with
    | false => rfl
    | true =>
      have e2 : c = 45 := by simpa using q
      rw [e2] at z1
      exact absurd z1 (by decide)
theorem name_lit {z : Str} (h : isName z = true) : isLit z = true := by unfold isLit; rw [bare_no (name_dash h)]; exact h
theorem minus_codes (z : Str) : ("-" ++ z).cps.toList = 45 :: z.cps.toList := by rw [app_codes]; rfl
theorem bare_minus (z : Str) : bare ("-" ++ z) = z := by
  have hd : dash ("-" ++ z) = true := by unfold dash; rw [minus_codes]; rfl
  unfold bare
  rw [if_pos hd, minus_codes]
  rfl
theorem minus_lit {z : Str} (h : isName z = true) : isLit ("-" ++ z) = true := by unfold isLit; rw [bare_minus]; exact h
theorem lit_form {z : Str} : z = bare z ∨ z = "-" ++ bare z := by
  cases h : dash z with
  | false => exact .inl (bare_no h).symm
  | true =>
    refine .inr (str_eq ?_)
    rw [minus_codes]
    unfold bare
    rw [if_pos h]
    show z.cps.toList = 45 :: z.cps.toList.drop 1
    unfold dash dashL at h
    cases e : z.cps.toList with
    | nil => rw [e] at h; cases h
    | cons c r =>
      rw [e] at h
      have e2 : c = 45 := by simpa using h
      rw [e2]
      rfl
theorem due_mem {L N : List Str} (od : Ord (L.map bare) N) (z : Str) : z ∈ due L N ↔ z ∈ L := by
  unfold due pick
  rw [List.mem_flatMap]
  constructor
  · rintro ⟨n, _, h⟩
    exact of_decide_eq_true (List.mem_filter.mp h).2
  · intro h
    refine ⟨bare z, (od.mem _).mpr (List.mem_map.mpr ⟨z, h, rfl⟩), List.mem_filter.mpr ⟨?_, decide_eq_true h⟩⟩
    rcases lit_form (z := z) with e | e
    · rw [← e]; exact List.mem_cons_self
    · exact List.mem_cons_of_mem _ (List.mem_singleton.mpr e)
/-! ### Clause.__init__ -/
/-- the name n stands in L in both signs -/
def bothIn (L : List Str) (n : Str) : Bool := decide (n ∈ L) && decide ("-" ++ n ∈ L)
theorem bare_pick {L : List Str} {n z : Str} (hn : dash n = false) (h : z ∈ pick L n) : bare z = n ∧ z ∈ L := by
  obtain ⟨h1, h2⟩ := List.mem_filter.mp h
  refine ⟨?_, of_decide_eq_true h2⟩
  rcases List.mem_cons.mp h1 with e | e
  · rw [e]; exact bare_no hn
  · rw [List.mem_singleton.mp e]; exact bare_minus n
/-- the first name in both signs, found among the literals -/
theorem find_both {L : List Str} : ∀ {N : List Str}, (∀ n ∈ N, dash n = false) → (due L N).find? (fun z => bothIn L (bare z)) = N.find? (bothIn L)
  | [], _ => rfl
  | n :: r, h => by
    have ih := find_both (L := L) (N := r) fun m hm => h m (List.mem_cons_of_mem _ hm)
    have hd := h n List.mem_cons_self
    show ((n :: r).flatMap (pick L)).find? _ = _
    rw [List.flatMap_cons, List.find?_append, List.find?_cons]
    cases b : bothIn L n with
    | true =>
      have hn : n ∈ L := by unfold bothIn at b; simp at b; exact b.1
      have e : (pick L n).find? (fun z => bothIn L (bare z)) = some n := by
        unfold pick
        rw [List.filter_cons, if_pos (decide_eq_true hn), List.find?_cons, bare_no hd, b]
      rw [e]
      rfl
    | false =>
      have e : (pick L n).find? (fun z => bothIn L (bare z)) = none := List.find?_eq_none.mpr fun z hz => by
        rw [(bare_pick hd hz).1, b]; decide
      rw [e]
      exact ih
theorem flip_in {L : List Str} {z : Str} (hz : z ∈ L) (hd : dash (bare z) = false) : decide (flip z ∈ L) = bothIn L (bare z) := by
  unfold bothIn
  cases h : dash z with
  | false =>
    rw [flip_no h]
    have e := bare_no h
    rw [e]
    simp [hz]
  | true =>
    rw [flip_dash h]
    have e : "-" ++ bare z = z := by
      rcases lit_form (z := z) with q | q
      · rw [← q, h] at hd; cases hd
      · exact q.symm
    rw [e]
    simp [hz]
/-- Clause.__init__(self, *literals) -/
def spCl (C CB CS CT : Addr) : Sp := fun vs H Q E => ∃ (x dx t : Addr) (L : List Str), vs = [.ref x, .ref t] ∧ H x = some (.ins C dx []) ∧ H t = some (.tup (L.map V.str)) ∧ L.length ≤ 30 ∧ (∀ z ∈ L, Txt8 20 z) ∧
  (∀ pre z post, L = pre ++ z :: post → (∀ y ∈ pre, isLit y = true) → isLit z = false → ∀ H' d, Evl.Ex H H' → H' d = some (.xd [("text", .str z)]) → E (.ref CB) (some d) H') ∧
  ((∀ z ∈ L, isLit z = true) → ∀ N, Ord (L.map bare) N →
    (∀ n, N.find? (bothIn L) = some n → ∀ H' d, Evl.Ex H H' → H' d = some (.xd [("name", .str n)]) → E (.ref CS) (some d) H') ∧
    (N.find? (bothIn L) = none → 6 < (due L N).length → ∀ H' d, Evl.Ex H H' → H' d = some (.xd [("limit", .int 6)]) → E (.ref CT) (some d) H') ∧
    (N.find? (bothIn L) = none → (due L N).length ≤ 6 → ∀ H' p, (∀ c o, c ≠ x → H c = some o → H' c = some o) → H p = none → H' x = some (.ins C dx [("literals", .ref p)]) → H' p = some (.tup ((due L N).map V.str)) → Q .non H'))
theorem lit_bare {z : Str} (h : isLit z = true) : isName (bare z) = true := h
theorem name_bare {z : Str} (h : isName z = true) : bare z = z := bare_no (name_dash h)
theorem find_cong {f g : Str → Bool} : ∀ {D : List Str}, (∀ z ∈ D, f z = g z) → D.find? f = D.find? g
  | [], _ => rfl
  | z :: r, h => by
    rw [List.find?_cons, List.find?_cons, h z List.mem_cons_self, find_cong fun y hy => h y (List.mem_cons_of_mem _ hy)]
/-- check_signs(ordered) -/
def spSigns (CS : Addr) : Sp := fun vs H Q E => ∃ (b : Addr) (D : List Str), vs = [.ref b] ∧ H b = some (.lst (D.map V.str)) ∧ (∀ z ∈ D, isLit z = true ∧ z.cps.size ≤ 50 ∧ ∀ c ∈ z.cps.toList, c < 128) ∧
  (∀ z, D.find? (fun z => decide (flip z ∈ D)) = some z → ∀ H' d, Evl.Ex H H' → H' d = some (.xd [("name", .str (bare z))]) → E (.ref CS) (some d) H') ∧
  (D.find? (fun z => decide (flip z ∈ D)) = none → ∀ H', Evl.Ex H H' → Q .non H')
theorem pick_str {D : List Str} {i : Nat} {y : V} (hi : (D.map V.str)[i]? = some y) : ∃ z, D[i]? = some z ∧ V.str z = y := by
  rw [List.getElem?_map] at hi
  cases e : D[i]? with
  | none => rw [e] at hi; cases hi
  | some z => rw [e] at hi; exact ⟨z, rfl, Option.some.inj hi⟩
/-- the first one that meets a test, when all before it do not -/
theorem find_at1 {D : List Str} {f : Str → Bool} {i : Nat} {z : Str} (hz : D[i]? = some z) (no : ∀ y ∈ D.take i, f y = false) (yes : f z = true) : D.find? f = some z := by
  have lt := (List.getElem?_eq_some_iff.mp hz).1
  have q := (List.getElem?_eq_some_iff.mp hz).2
  have z2 : D.drop i = z :: D.drop (i + 1) := by rw [List.drop_eq_getElem_cons lt, q]
  have e0 : D = D.take i ++ z :: D.drop (i + 1) := by rw [← z2, List.take_append_drop]
  rw [e0, List.find?_append, List.find?_eq_none.mpr (fun y hy => by rw [no y hy]; decide), List.find?_cons, yes]
  rfl
open Evl in
theorem ok_check_signs (T : Txt P K mg) : FnOk P w K mg base (L2N.CX P w) 7 T.f_check_signs T.d_check_signs ["ordered"] (spSigns T.C_BothSigns) := by
  refine T.F_check_signs.okN sc_check_signs (fun vs H Q E h => ?_) (fun cdv A outer s H vs Q E hr h => ?_)
  · obtain ⟨b, D, rfl, _⟩ := h
    rfl
  · obtain ⟨b, D, rfl, hb, lits, bad, good⟩ := h
    refine ⟨_, (pss_one (ps_for PassesOwn.leaving rfl (pi_list (pv 0)) (pg_name (i := 1) sc_check_signs.nd rfl (.inl rfl)) (pss_one (ps_if (pt_cmpR op_in_seq (pe_call (ok_negated T) (hr.mono (by decide)) rfl T.g_negated T.F_negated.kp T.b_negated .nil (L2N.passes_call (L2N.takes_of rfl rfl rfl rfl) (fun _ _ _ _ h => h)) (pa_cons (pv 1) pa_nil)) (pv 0) (by rfl))
      (pss_one (L2N.ps_raise rfl (L2N.takes_of rfl rfl rfl rfl) (pmk1 T.E_BothSigns rfl fld_name T.o_BothSigns hr (pa_cons (pe_call (ok_name_of T) (hr.mono (by decide)) rfl T.g_name_of T.F_name_of.kp T.b_name_of .nil (L2N.passes_call (L2N.takes_of rfl rfl rfl rfl) (fun _ _ _ _ h => h)) (pa_cons (pv 1) pa_nil)) pa_nil) rfl (by decide)))) pss_nil)))), ?_⟩
    refine ⟨_, rfl, b, rfl, ⟨_, sq_of hb⟩, for_list (K := K) (xs := D.map V.str) (fun i σ H' => ∃ v1 : Option V, σ = [some (V.ref b), v1] ∧ Ex H H' ∧ ∀ z ∈ D.take i, decide (flip z ∈ D) = false)
      ⟨_, rfl, Ex.refl _, fun z hz => by simp at hz⟩ (fun i σ H' _ ⟨_, _, e, _⟩ => sq_of (e _ _ hb)) ?_ ?_⟩
    · rintro i y σ H2 hi ⟨v1, rfl, e2, no⟩
      obtain ⟨z, hz, rfl⟩ := pick_str hi
      have zD : z ∈ D := List.mem_of_getElem? hz
      obtain ⟨zl, zs, zc⟩ := lits z zD
      refine ⟨_, rfl, z, rfl, zs, zc, fun _ H3 e3 => ⟨_, rfl, (rv_isL (K := K) (sq_of (e3 _ _ (e2 _ _ hb))) rfl (flat_str _)) H3 (Ex.refl _) _ fun H4 e4 => ?_⟩, fun no => absurd zl (by rw [no]; decide)⟩
      rw [in_map]
      cases bz : decide (flip z ∈ D) with
      | true =>
        refine ⟨_, rfl, iteT ?_⟩
        refine ⟨_, rfl, z, rfl, zs, zc, fun _ H5 e5 => ⟨_, rfl, fun u hu => ?_, fun d nd => ?_⟩, fun no => absurd zl (by rw [no]; decide)⟩
        · obtain ⟨tk, rfl⟩ := hu
          refine msg_sc fld_name (by decide) ?_
          have h8 := (name_txt (lit_bare zl)).1
          have e : (bare z).length = (bare z).cps.size := rfl
          omega
        · exact bad z (find_at1 hz no bz) _ d ((((e2.trans e3).trans e4).trans e5).trans (Ex.new nd)) upd_same
      | false =>
        refine ⟨_, rfl, iteF ?_⟩
        refine ⟨_, rfl, (e2.trans e3).trans e4, fun y hy => ?_⟩
        rw [List.take_add_one, hz] at hy
        rcases List.mem_append.mp hy with h | h
        · exact no y h
        · have e : y = z := by simpa using h
          rw [e]; exact bz
    · rintro σ H2 ⟨v1, rfl, e2, no⟩
      rw [List.length_map, List.take_length] at no
      exact good (List.find?_eq_none.mpr fun z hz => by rw [no z hz]; decide) H2 e2
open Evl in
theorem okR_Clause_init (T : Txt P K mg) : FnR P w K mg base (L2N.CX P w) 8 T.f_Clause_init (fun vs H Q E => ∃ ws rest, vs = ws ++ rest ∧ ws.length = ["self"].length ∧ rest.length ≤ sizeLine ∧ ∀ p, H p = none → spCl T.C_Clause T.C_BadLiteral T.C_BothSigns T.C_TooMany (ws ++ [V.ref p]) (upd H p (.tup rest)) Q E) := by
  refine T.F_Clause_init.okStar (ps := ["self"]) sc_Clause_init (fun kV doc pm an cdv ct => StX.bind_star1 (B := fun us => bindArgs (PySem.W.fnOf "__init__" "Clause.__init__" (defArgs s_Clause_init) (defBody s_Clause_init) (defScope s_Clause_init) .none kV doc pm an cdv ct) ⟨us, []⟩) (p1 := "self") (pv := "literals") (fun a => rfl) (fun a r rs => rfl)) (fun cdv A outer s H vs Q E hr h => ?_)
  obtain ⟨x, dx, t, L, rfl, hx, ht, few, txt, bad, good⟩ := h
  obtain ⟨u6, cv6⟩ := T.V_Clause_LIMIT
  refine ⟨_, (pss_cons (ps_set (i := 2) sc_Clause_init.nd rfl (.inl rfl) (pe_call (okT_in_order T) (hr.mono (by decide)) rfl T.g_in_order T.F_in_order.kp T.b_in_order .nil (L2N.passes_call (L2N.takes_of rfl rfl rfl rfl) (fun _ _ _ _ h => h)) (pa_cons (pv 1) pa_nil)))
    (pss_cons (ps_expr (pe_call (ok_check_signs T) (hr.mono (by decide)) rfl T.g_check_signs T.F_check_signs.kp T.b_check_signs .nil (L2N.passes_call (L2N.takes_of rfl rfl rfl rfl) (fun _ _ _ _ h => h)) (pa_cons (pv 2) pa_nil)))
    (pss_cons (ps_if (pt_cmpR op_gt (pe_callB call_len_seq (by rfl) T.n_len PySem.boot_len (pa_cons (pv 2) pa_nil)) (ClX.pe_cval (pe_glob (v := .ref T.C_Clause) rfl T.g_Clause rfl)) (nomark _))
      (pss_one (L2N.ps_raise rfl (L2N.takes_of rfl rfl rfl rfl) (pmk1 T.E_TooMany rfl fld_limit T.o_TooMany hr (pa_cons (ClX.pe_cval (pe_glob (v := .ref T.C_Clause) rfl T.g_Clause rfl)) pa_nil) rfl (by decide)))) pss_nil)
    (pss_one (ps_fld (pv 0) (pe_callTy call_tuple_of (by rfl) T.n_tuple (by decide +kernel) (pa_cons (pv 2) pa_nil)) rfl))))), ?_⟩
  have short : ∀ z ∈ L, z.cps.size ≤ 50 ∧ ∀ c ∈ z.cps.toList, c < 128 := fun z hz => ⟨Nat.le_trans (txt z hz).1 (by decide), (txt z hz).2⟩
  refine ⟨_, rfl, t, L, rfl, ht, by omega, short, fun lits N od b H1 nb e1 hb => ?_, bad⟩
  obtain ⟨sign, many, fin⟩ := good lits N od
  have ndash : ∀ n ∈ N, dash n = false := fun n hn => by
    obtain ⟨z, hz, rfl⟩ := List.mem_map.mp ((od.mem n).mp hn)
    exact name_dash (lit_bare (lits z hz))
  have dmem := due_mem od
  have found : (due L N).find? (fun z => decide (flip z ∈ due L N)) = N.find? (bothIn L) := by
    rw [← find_both (L := L) ndash]
    refine find_cong fun z hz => ?_
    have zL := (dmem z).mp hz
    rw [← flip_in zL (name_dash (lit_bare (lits z zL)))]
    exact decide_eq_decide.mpr (dmem _)
  refine ⟨_, rfl, b, due L N, rfl, hb, fun z hz => ⟨lits z ((dmem z).mp hz), short z ((dmem z).mp hz)⟩, fun z fz H' d e hd => ?_, fun none H2 e2 => ?_⟩
  · rw [found] at fz
    have zn : z ∈ N := List.mem_of_find?_eq_some fz
    rw [bare_no (ndash z zn)] at hd
    exact sign z fz H' d (e1.trans e) hd
  · rw [found] at none
    have hx2 := e2 _ _ (e1 _ _ hx)
    have hb2 := e2 _ _ hb
    refine ⟨_, rfl, b, _, rfl, .inl (SqL.of hb2), T.C_Clause, .type "type", .int 6, u6, rfl, T.R_Clause, cv6, _, _, rfl, rfl, _, rfl, ite2 (fun big => ?_) (fun big => ?_)⟩
    · have big2 : 6 < (due L N).length := by
        have z := of_decide_eq_true big
        rw [List.length_map] at z
        omega
      refine ⟨T.C_Clause, .type "type", .int 6, u6, rfl, T.R_Clause, cv6, _, rfl, fun u hu => ?_, fun d nd => many none big2 _ d ((e1.trans e2).trans (Ex.new nd)) upd_same⟩
      obtain ⟨tk, rfl⟩ := hu
      exact msg_ci fld_limit (by decide) (by decide) (by decide)
    · have big2 : (due L N).length ≤ 6 := Nat.le_of_not_lt fun h => big (decide_eq_true (by rw [List.length_map]; omega))
      refine ⟨_, rfl, b, _, rfl, .inl ⟨SqL.of hb2, fun p np => ⟨.ref x, rfl, x, _, dx, _, rfl, (by rw [upd_ne (ne_of_none hx2 np)]; exact hx2), T.cl_Clause, T.na_Clause_literals, (by show 0 < 1000; decide), ?_⟩⟩⟩
      have xp : p ≠ x := fun e => by rw [e, hx2] at np; cases np
      refine fin none big2 _ p (fun c o nc hc => ?_) (fresh_back (e1.trans e2) np) upd_same (by rw [upd_ne xp, upd_same])
      rw [upd_ne nc, upd_ne (ne_of_none (e2 _ _ (e1 _ _ hc)) np)]
      exact e2 _ _ (e1 _ _ hc)
/-! ### Clause(..) of 0 to 8 strings -/
section
open Evl
theorem pe_makeR0 {X : Cx} {CX : CXT} {k : Nat} {f C : Addr} {sp : Sp} {E : XK} {x : Str} {p pos : Pos} (M : Mk X.K C f) (F : FnR X.prog X.w X.K X.mg X.base CX k f sp) (hr : Room (k + 1) X.A) (hg : Gl X x) (hm : X.mg x = some (.ref C)) (hx : Passes CX X E) (hdb : (x == ("__debug__" : Str)) = false := by decide) :
    PE X (.Call (.Name x p) [] [] pos) (StX.tMakeR C sp E tNil) := by
  refine ⟨fun pins s σ H Q I h => ?_⟩
  refine wpAny_Call_Name_kw (ld_glob I hg hm (PySem.W.callWith_K0 I.kIn M.kp ?_) hdb)
  exact StX.run_makeR (us := []) M F hr hx I .nil h
theorem mkC (T : Txt P K mg) : Mk K T.C_Clause T.f_Clause_init := ⟨T.mi_Clause, T.m_Clause_init, T.i_Clause_init, T.kc_Clause⟩
end
section
open Evl
theorem given_true (n : Nat) : given n (fun _ => true) (fun _ => V.bl true) = (List.replicate n true).map V.bl := by
  have e : List.filter (fun _ => true) (List.range n) = List.range n := List.filter_eq_self.mpr fun _ _ => rfl
  unfold given
  rw [e]
  simp [List.map_const']
theorem given_eq {te : TE} {σ : L2.St} {H : Hp} {n : Nat} (h : EvL te σ H (given n (fun _ => true) (fun _ => V.bl true))) : EvL te σ H ((List.replicate n true).map V.bl) := by
  rw [given_true] at h
  exact h
end
section
open Evl
theorem FnOk_or {CX : CXT} {k : Nat} {f : Addr} {fd : FuncData} {ps : List Str} {sp1 sp2 : Sp} (F1 : FnOk P w K mg base CX k f fd ps sp1) (F2 : FnOk P w K mg base CX k f fd ps sp2) : FnOk P w K mg base CX k f fd ps (fun vs H Q E => sp1 vs H Q E ∨ sp2 vs H Q E) :=
  ⟨fun vs H Q E h => h.elim (F1.len vs H Q E) (F2.len vs H Q E), fun A outer s H args us vs Q E hr e0 b v h => h.elim (F1.run A outer s H args us vs Q E hr e0 b v) (F2.run A outer s H args us vs Q E hr e0 b v)⟩
/-- _law_same(one, other) of two tuples, each item the same as the other's by spR -/
def spSameG (spR : Sp) : Sp := fun vs H Q _ => ∃ (a b : Addr) (xs ys : List V), vs = [.ref a, .ref b] ∧ H a = some (.tup xs) ∧ H b = some (.tup ys) ∧ xs.length = ys.length ∧ xs.length ≤ 100 ∧ (∀ (i : Nat) (x y : V), xs[i]? = some x → ys[i]? = some y → SpV spR [x, y] H (.bl true)) ∧ ∀ H', Ex H H' → Q (.bl true) H'
theorem ev_isU {σ : L2.St} {H : Hp} {ta : TE} {a : Addr} {xs : List V} {c : String} {b : Bool} (h : Ev ta σ H (.ref a)) (ha : H a = some (.tup xs)) (hk : kitB "tuple" c = some b) : Ev (tCB (rIsi K) (tCons ta (tCons (tC (.ty c)) tNil))) σ H (.bl b) :=
  ev_cb (ea_cons h (ea_cons ev_c ea_nil)) fun H1 e Q q => ⟨.ref a, .ty c, .type "tuple", .type c, b, rfl, .ty c, .base (.tup (e _ _ ha)), kit_ty hk, q H1 (Ex.refl H1)⟩
theorem okG__law_same (T : Txt P K mg) {kR : Nat} {spR : Sp} (FR : FnOk P w K mg base CX0 kR T.f__law_same T.d__law_same ["_law_one", "_law_other"] spR) : FnOk P w K mg base CX0 (kR + 1) T.f__law_same T.d__law_same ["_law_one", "_law_other"] (spSameG spR) := by
  refine T.F__law_same.ok sc__law_same (fun vs H Q E h => ?_) (fun cdv A outer s H vs Q E hr h => ?_)
  · obtain ⟨a, b, xs, ys, rfl, _⟩ := h
    rfl
  · obtain ⟨a, b, xs, ys, rfl, ha, hb, ln, hl, each, k⟩ := h
    refine ⟨_, (pss_cons (ps_if (PW.pt (pw_or (pt_val (pe_callB call_isi (by rfl) T.n_isinstance (by decide +kernel) (pa_cons (pv 0) (pa_cons (pe_bltn (v := .ty "bool") (u := .type "bool") (by rfl) T.n_bool (by decide +kernel) rfl) pa_nil)))) (pw_or1 (pt_val (pe_callB call_isi (by rfl) T.n_isinstance (by decide +kernel) (pa_cons (pv 1) (pa_cons (pe_bltn (v := .ty "bool") (u := .type "bool") (by rfl) T.n_bool (by decide +kernel) rfl) pa_nil))))))) (pss_one (ps_ret (pe_and (pe_callB call_isi (by rfl) T.n_isinstance (by decide +kernel) (pa_cons (pv 0) (pa_cons (pe_bltn (v := .ty "bool") (u := .type "bool") (by rfl) T.n_bool (by decide +kernel) rfl) pa_nil))) (pe_and (pe_callB call_isi (by rfl) T.n_isinstance (by decide +kernel) (pa_cons (pv 1) (pa_cons (pe_bltn (v := .ty "bool") (u := .type "bool") (by rfl) T.n_bool (by decide +kernel) rfl) pa_nil))) (pe_one (pe_cmpR op_eq (pv 0) (pv 1) (nomark _))))))) pss_nil)
      (pss_cons (ps_if (PW.pt (pw_or (pt_val (pe_callB call_isi (by rfl) T.n_isinstance (by decide +kernel) (pa_cons (pv 0) (pa_cons (pe_bltn (v := .ty "int") (u := .type "int") (by rfl) T.n_int (by decide +kernel) rfl) pa_nil)))) (pw_or1 (pt_val (pe_callB call_isi (by rfl) T.n_isinstance (by decide +kernel) (pa_cons (pv 1) (pa_cons (pe_bltn (v := .ty "int") (u := .type "int") (by rfl) T.n_int (by decide +kernel) rfl) pa_nil))))))) (pss_one (ps_ret (pe_and (pe_callB call_isi (by rfl) T.n_isinstance (by decide +kernel) (pa_cons (pv 0) (pa_cons (pe_bltn (v := .ty "int") (u := .type "int") (by rfl) T.n_int (by decide +kernel) rfl) pa_nil))) (pe_and (pe_callB call_isi (by rfl) T.n_isinstance (by decide +kernel) (pa_cons (pv 1) (pa_cons (pe_bltn (v := .ty "int") (u := .type "int") (by rfl) T.n_int (by decide +kernel) rfl) pa_nil))) (pe_one (pe_cmpR op_eq (pv 0) (pv 1) (nomark _))))))) pss_nil)
      (pss_cons (ps_if (PW.pt (pw_or (pt_val (pe_callB call_isi (by rfl) T.n_isinstance (by decide +kernel) (pa_cons (pv 0) (pa_cons (pe_bltn (v := .ty "str") (u := .type "str") (by rfl) T.n_str (by decide +kernel) rfl) pa_nil)))) (pw_or1 (pt_val (pe_callB call_isi (by rfl) T.n_isinstance (by decide +kernel) (pa_cons (pv 1) (pa_cons (pe_bltn (v := .ty "str") (u := .type "str") (by rfl) T.n_str (by decide +kernel) rfl) pa_nil))))))) (pss_one (ps_ret (pe_and (pe_callB call_isi (by rfl) T.n_isinstance (by decide +kernel) (pa_cons (pv 0) (pa_cons (pe_bltn (v := .ty "str") (u := .type "str") (by rfl) T.n_str (by decide +kernel) rfl) pa_nil))) (pe_and (pe_callB call_isi (by rfl) T.n_isinstance (by decide +kernel) (pa_cons (pv 1) (pa_cons (pe_bltn (v := .ty "str") (u := .type "str") (by rfl) T.n_str (by decide +kernel) rfl) pa_nil))) (pe_one (pe_cmpR op_eq (pv 0) (pv 1) (nomark _))))))) pss_nil)
      (pss_cons (ps_set (i := 2) sc__law_same.nd rfl (.inl rfl) (pe_and (pe_callB call_isi (by rfl) T.n_isinstance (by decide +kernel) (pa_cons (pv 0) (pa_cons (pe_bltn (v := .ty "list") (u := .type "list") (by rfl) T.n_list (by decide +kernel) rfl) pa_nil))) (pe_one (pe_callB call_isi (by rfl) T.n_isinstance (by decide +kernel) (pa_cons (pv 1) (pa_cons (pe_bltn (v := .ty "list") (u := .type "list") (by rfl) T.n_list (by decide +kernel) rfl) pa_nil))))))
      (pss_cons (ps_if (PW.pt (pw_and (pt_not (pt_val (pv 2))) (pw_and1 (pt_not (PW.pt (pw_and (pt_val (pe_callB call_isi (by rfl) T.n_isinstance (by decide +kernel) (pa_cons (pv 0) (pa_cons (pe_bltn (v := .ty "tuple") (u := .type "tuple") (by rfl) T.n_tuple (by decide +kernel) rfl) pa_nil)))) (pw_and1 (pt_val (pe_callB call_isi (by rfl) T.n_isinstance (by decide +kernel) (pa_cons (pv 1) (pa_cons (pe_bltn (v := .ty "tuple") (u := .type "tuple") (by rfl) T.n_tuple (by decide +kernel) rfl) pa_nil))))))))))) (pss_one (ps_ret (pe_and (pe_cmpR op_isN (pv 0) pe_non (nomark _)) (pe_one (pe_cmpR op_isN (pv 1) pe_non (nomark _)))))) pss_nil)
      (pss_one (ps_ret (pe_and (pe_cmpR op_eq (pe_callB call_len_seq (by rfl) T.n_len PySem.boot_len (pa_cons (pv 0) pa_nil)) (pe_callB call_len_seq (by rfl) T.n_len PySem.boot_len (pa_cons (pv 1) pa_nil)) (nomark _)) (pe_one (pe_callB (cr_all rfl) (by rfl) T.n_all (by decide +kernel) (pa_cons (pe_lc (own := [("_law_k", 3)]) (g := gName 3) (by rfl) sc__law_same.nd (pi_range1 rfl T.n_range (pa_cons (pe_callB call_len_seq (by rfl) T.n_len PySem.boot_len (pa_cons (pv 0) pa_nil)) pa_nil)) (blkOk_by (own := [("_law_k", 3)]) (N := N__law_same) (sc := defScope s__law_same) (by decide +kernel)) (fun _ _ _ _ _ => pg_name (i := 3) sc__law_same.nd rfl (Or.inl rfl)) (fun _ _ _ _ _ => pts_nil) (fun _ _ _ _ _ => (pe_call FR hr rfl T.g__law_same T.F__law_same.kp T.b__law_same .nil pass0 (pa_cons (pe_ix (r := rIxT K) ix_tup (pv 0) (pv 3) (fun _ _ => rfl)) (pa_cons (pe_ix (r := rIxT K) ix_tup (pv 1) (pv 3) (fun _ _ => rfl)) pa_nil))))) pa_nil))))))))))), ?_⟩
    have kb : kitB "tuple" "bool" = some false := by decide +kernel
    have ki : kitB "tuple" "int" = some false := by decide +kernel
    have ks : kitB "tuple" "str" = some false := by decide +kernel
    have kl : kitB "tuple" "list" = some false := by decide +kernel
    have kt : kitB "tuple" "tuple" = some true := by decide +kernel
    refine q_when (b := false) (et_is (et_or (et_B (ev_isU (ev_var rfl) ha kb)) (fun _ => et_B (ev_isU (ev_var rfl) hb kb))) rfl) (fun z => by cases z) (fun _ H1 e1 => ?_)
    have ha := e1 _ _ ha
    have hb := e1 _ _ hb
    refine q_when (b := false) (et_is (et_or (et_B (ev_isU (ev_var rfl) ha ki)) (fun _ => et_B (ev_isU (ev_var rfl) hb ki))) rfl) (fun z => by cases z) (fun _ H2 e2 => ?_)
    have ha := e2 _ _ ha
    have hb := e2 _ _ hb
    refine q_when (b := false) (et_is (et_or (et_B (ev_isU (ev_var rfl) ha ks)) (fun _ => et_B (ev_isU (ev_var rfl) hb ks))) rfl) (fun z => by cases z) (fun _ H3 e3 => ?_)
    have ha := e3 _ _ ha
    have hb := e3 _ _ hb
    refine q_asg (v := .bl false) (ev_is (ev_andV (b := false) (ev_isU (ev_var rfl) ha kl) (fun z => by cases z)) rfl) (fun H4 e4 => ?_)
    have ha := e4 _ _ ha
    have hb := e4 _ _ hb
    refine q_when (b := false) (et_is (et_and (a := true) (b := false) (et_is (et_not (et_B (ev_var rfl))) rfl) (fun _ => et_is (et_not (et_and (et_B (ev_isU (ev_var rfl) ha kt)) (fun _ => et_B (ev_isU (ev_var rfl) hb kt)))) rfl)) rfl) (fun z => by cases z) (fun _ H5 e5 => ?_)
    have ha := e5 _ _ ha
    have hb := e5 _ _ hb
    have e05 := (((e1.trans e2).trans e3).trans e4).trans e5
    refine s_ret (v := .bl true) (ev_is (ev_andV (a := true) (b := true) (ev_is (ev_op (x := .int (xs.length : Int)) (y := .int (xs.length : Int)) (ev_cb (ea_cons (ev_var rfl) ea_nil) fun H7 e7 Q q => ?_) (ev_cb (ea_cons (ev_var rfl) ea_nil) fun H7 e7 Q q => ?_) (rv_eq rfl)) (by simp)) (fun _ => ?_)) rfl) (fun H6 e6 => k H6 (e05.trans e6))
    · exact ⟨a, _, rfl, .inr (Evl.st_of (e7 _ _ ha)), q H7 (Ex.refl H7)⟩
    · exact ⟨b, _, rfl, .inr (Evl.st_of (e7 _ _ hb)), (by rw [← ln]; exact q H7 (Ex.refl H7))⟩
    · refine ev_is (ev_all (bs := List.replicate xs.length true) (given_eq (el_lcR1 (n := (xs.length : Int)) (fun _ => true) (fun _ => V.bl true) (ea_cons (ev_cb (ea_cons (ev_var rfl) ea_nil) fun H7 e7 Q q => ⟨a, _, rfl, .inr (Evl.st_of (e7 _ _ ha)), q H7 (Ex.refl H7)⟩) ea_nil) ⟨by omega, by omega⟩ (fun _ => rfl) (fun i H4 _ _ H5 _ Q q => q H5 (Ex.refl H5)) (fun i H6 e hi _ => ?_)))) (by simp)
      have hi2 : i < xs.length := by omega
      have hx : xs[i]? = some xs[i] := List.getElem?_eq_getElem hi2
      have hy : ys[i]? = some (ys[i]'(by omega)) := List.getElem?_eq_getElem (by omega)
      exact ev_call (ea_cons (ev_op (ev_var rfl) (ev_var rfl) (rv_ixT (Evl.st_of (e _ _ ha)) (atI_nat (j := i) hx))) (ea_cons (ev_op (ev_var rfl) (ev_var rfl) (rv_ixT (Evl.st_of (e _ _ hb)) (atI_nat (j := i) hy))) ea_nil)) fun H7 e7 => each i _ _ hx hy H7 ((e05.trans e).trans e7)
/-- _law_same(one, other) of two lists, each item the same as the other's by spR -/
def spSameLG (spR : Sp) : Sp := fun vs H Q _ => ∃ (a b : Addr) (xs ys : List V), vs = [.ref a, .ref b] ∧ H a = some (.lst xs) ∧ H b = some (.lst ys) ∧ xs.length = ys.length ∧ xs.length ≤ 100 ∧ (∀ (i : Nat) (x y : V), xs[i]? = some x → ys[i]? = some y → SpV spR [x, y] H (.bl true)) ∧ ∀ H', Ex H H' → Q (.bl true) H'
theorem ev_isL {σ : L2.St} {H : Hp} {ta : TE} {a : Addr} {xs : List V} {c : String} {b : Bool} (h : Ev ta σ H (.ref a)) (ha : H a = some (.lst xs)) (hk : kitB "list" c = some b) : Ev (tCB (rIsi K) (tCons ta (tCons (tC (.ty c)) tNil))) σ H (.bl b) :=
  ev_cb (ea_cons h (ea_cons ev_c ea_nil)) fun H1 e Q q => ⟨.ref a, .ty c, .type "list", .type c, b, rfl, .ty c, .base (.lst (e _ _ ha)), kit_ty hk, q H1 (Ex.refl H1)⟩
theorem okLG__law_same (T : Txt P K mg) {kR : Nat} {spR : Sp} (FR : FnOk P w K mg base CX0 kR T.f__law_same T.d__law_same ["_law_one", "_law_other"] spR) : FnOk P w K mg base CX0 (kR + 1) T.f__law_same T.d__law_same ["_law_one", "_law_other"] (spSameLG spR) := by
  refine T.F__law_same.ok sc__law_same (fun vs H Q E h => ?_) (fun cdv A outer s H vs Q E hr h => ?_)
  · obtain ⟨a, b, xs, ys, rfl, _⟩ := h
    rfl
  · obtain ⟨a, b, xs, ys, rfl, ha, hb, ln, hl, each, k⟩ := h
    refine ⟨_, (pss_cons (ps_if (PW.pt (pw_or (pt_val (pe_callB call_isi (by rfl) T.n_isinstance (by decide +kernel) (pa_cons (pv 0) (pa_cons (pe_bltn (v := .ty "bool") (u := .type "bool") (by rfl) T.n_bool (by decide +kernel) rfl) pa_nil)))) (pw_or1 (pt_val (pe_callB call_isi (by rfl) T.n_isinstance (by decide +kernel) (pa_cons (pv 1) (pa_cons (pe_bltn (v := .ty "bool") (u := .type "bool") (by rfl) T.n_bool (by decide +kernel) rfl) pa_nil))))))) (pss_one (ps_ret (pe_and (pe_callB call_isi (by rfl) T.n_isinstance (by decide +kernel) (pa_cons (pv 0) (pa_cons (pe_bltn (v := .ty "bool") (u := .type "bool") (by rfl) T.n_bool (by decide +kernel) rfl) pa_nil))) (pe_and (pe_callB call_isi (by rfl) T.n_isinstance (by decide +kernel) (pa_cons (pv 1) (pa_cons (pe_bltn (v := .ty "bool") (u := .type "bool") (by rfl) T.n_bool (by decide +kernel) rfl) pa_nil))) (pe_one (pe_cmpR op_eq (pv 0) (pv 1) (nomark _))))))) pss_nil)
      (pss_cons (ps_if (PW.pt (pw_or (pt_val (pe_callB call_isi (by rfl) T.n_isinstance (by decide +kernel) (pa_cons (pv 0) (pa_cons (pe_bltn (v := .ty "int") (u := .type "int") (by rfl) T.n_int (by decide +kernel) rfl) pa_nil)))) (pw_or1 (pt_val (pe_callB call_isi (by rfl) T.n_isinstance (by decide +kernel) (pa_cons (pv 1) (pa_cons (pe_bltn (v := .ty "int") (u := .type "int") (by rfl) T.n_int (by decide +kernel) rfl) pa_nil))))))) (pss_one (ps_ret (pe_and (pe_callB call_isi (by rfl) T.n_isinstance (by decide +kernel) (pa_cons (pv 0) (pa_cons (pe_bltn (v := .ty "int") (u := .type "int") (by rfl) T.n_int (by decide +kernel) rfl) pa_nil))) (pe_and (pe_callB call_isi (by rfl) T.n_isinstance (by decide +kernel) (pa_cons (pv 1) (pa_cons (pe_bltn (v := .ty "int") (u := .type "int") (by rfl) T.n_int (by decide +kernel) rfl) pa_nil))) (pe_one (pe_cmpR op_eq (pv 0) (pv 1) (nomark _))))))) pss_nil)
      (pss_cons (ps_if (PW.pt (pw_or (pt_val (pe_callB call_isi (by rfl) T.n_isinstance (by decide +kernel) (pa_cons (pv 0) (pa_cons (pe_bltn (v := .ty "str") (u := .type "str") (by rfl) T.n_str (by decide +kernel) rfl) pa_nil)))) (pw_or1 (pt_val (pe_callB call_isi (by rfl) T.n_isinstance (by decide +kernel) (pa_cons (pv 1) (pa_cons (pe_bltn (v := .ty "str") (u := .type "str") (by rfl) T.n_str (by decide +kernel) rfl) pa_nil))))))) (pss_one (ps_ret (pe_and (pe_callB call_isi (by rfl) T.n_isinstance (by decide +kernel) (pa_cons (pv 0) (pa_cons (pe_bltn (v := .ty "str") (u := .type "str") (by rfl) T.n_str (by decide +kernel) rfl) pa_nil))) (pe_and (pe_callB call_isi (by rfl) T.n_isinstance (by decide +kernel) (pa_cons (pv 1) (pa_cons (pe_bltn (v := .ty "str") (u := .type "str") (by rfl) T.n_str (by decide +kernel) rfl) pa_nil))) (pe_one (pe_cmpR op_eq (pv 0) (pv 1) (nomark _))))))) pss_nil)
      (pss_cons (ps_set (i := 2) sc__law_same.nd rfl (.inl rfl) (pe_and (pe_callB call_isi (by rfl) T.n_isinstance (by decide +kernel) (pa_cons (pv 0) (pa_cons (pe_bltn (v := .ty "list") (u := .type "list") (by rfl) T.n_list (by decide +kernel) rfl) pa_nil))) (pe_one (pe_callB call_isi (by rfl) T.n_isinstance (by decide +kernel) (pa_cons (pv 1) (pa_cons (pe_bltn (v := .ty "list") (u := .type "list") (by rfl) T.n_list (by decide +kernel) rfl) pa_nil))))))
      (pss_cons (ps_if (PW.pt (pw_and (pt_not (pt_val (pv 2))) (pw_and1 (pt_not (PW.pt (pw_and (pt_val (pe_callB call_isi (by rfl) T.n_isinstance (by decide +kernel) (pa_cons (pv 0) (pa_cons (pe_bltn (v := .ty "tuple") (u := .type "tuple") (by rfl) T.n_tuple (by decide +kernel) rfl) pa_nil)))) (pw_and1 (pt_val (pe_callB call_isi (by rfl) T.n_isinstance (by decide +kernel) (pa_cons (pv 1) (pa_cons (pe_bltn (v := .ty "tuple") (u := .type "tuple") (by rfl) T.n_tuple (by decide +kernel) rfl) pa_nil))))))))))) (pss_one (ps_ret (pe_and (pe_cmpR op_isN (pv 0) pe_non (nomark _)) (pe_one (pe_cmpR op_isN (pv 1) pe_non (nomark _)))))) pss_nil)
      (pss_one (ps_ret (pe_and (pe_cmpR op_eq (pe_callB call_len_seq (by rfl) T.n_len PySem.boot_len (pa_cons (pv 0) pa_nil)) (pe_callB call_len_seq (by rfl) T.n_len PySem.boot_len (pa_cons (pv 1) pa_nil)) (nomark _)) (pe_one (pe_callB (cr_all rfl) (by rfl) T.n_all (by decide +kernel) (pa_cons (pe_lc (own := [("_law_k", 3)]) (g := gName 3) (by rfl) sc__law_same.nd (pi_range1 rfl T.n_range (pa_cons (pe_callB call_len_seq (by rfl) T.n_len PySem.boot_len (pa_cons (pv 0) pa_nil)) pa_nil)) (blkOk_by (own := [("_law_k", 3)]) (N := N__law_same) (sc := defScope s__law_same) (by decide +kernel)) (fun _ _ _ _ _ => pg_name (i := 3) sc__law_same.nd rfl (Or.inl rfl)) (fun _ _ _ _ _ => pts_nil) (fun _ _ _ _ _ => (pe_call FR hr rfl T.g__law_same T.F__law_same.kp T.b__law_same .nil pass0 (pa_cons (pe_ix (r := rIxL K) ix_list (pv 0) (pv 3) (fun _ _ => rfl)) (pa_cons (pe_ix (r := rIxL K) ix_list (pv 1) (pv 3) (fun _ _ => rfl)) pa_nil))))) pa_nil))))))))))), ?_⟩
    have kb : kitB "list" "bool" = some false := by decide +kernel
    have ki : kitB "list" "int" = some false := by decide +kernel
    have ks : kitB "list" "str" = some false := by decide +kernel
    have kl : kitB "list" "list" = some true := by decide +kernel
    refine q_when (b := false) (et_is (et_or (et_B (ev_isL (ev_var rfl) ha kb)) (fun _ => et_B (ev_isL (ev_var rfl) hb kb))) rfl) (fun z => by cases z) (fun _ H1 e1 => ?_)
    have ha := e1 _ _ ha
    have hb := e1 _ _ hb
    refine q_when (b := false) (et_is (et_or (et_B (ev_isL (ev_var rfl) ha ki)) (fun _ => et_B (ev_isL (ev_var rfl) hb ki))) rfl) (fun z => by cases z) (fun _ H2 e2 => ?_)
    have ha := e2 _ _ ha
    have hb := e2 _ _ hb
    refine q_when (b := false) (et_is (et_or (et_B (ev_isL (ev_var rfl) ha ks)) (fun _ => et_B (ev_isL (ev_var rfl) hb ks))) rfl) (fun z => by cases z) (fun _ H3 e3 => ?_)
    have ha := e3 _ _ ha
    have hb := e3 _ _ hb
    refine q_asg (v := .bl true) (ev_is (ev_andV (ev_isL (ev_var rfl) ha kl) (fun _ => ev_isL (ev_var rfl) hb kl)) rfl) (fun H4 e4 => ?_)
    have ha := e4 _ _ ha
    have hb := e4 _ _ hb
    refine q_when (b := false) (et_is (et_and (a := false) (b := false) (et_is (et_not (et_B (ev_var rfl))) rfl) (fun z => by cases z)) rfl) (fun z => by cases z) (fun _ H5 e5 => ?_)
    have ha := e5 _ _ ha
    have hb := e5 _ _ hb
    have e05 := (((e1.trans e2).trans e3).trans e4).trans e5
    refine s_ret (v := .bl true) (ev_is (ev_andV (a := true) (b := true) (ev_is (ev_op (x := .int (xs.length : Int)) (y := .int (xs.length : Int)) (ev_cb (ea_cons (ev_var rfl) ea_nil) fun H7 e7 Q q => ?_) (ev_cb (ea_cons (ev_var rfl) ea_nil) fun H7 e7 Q q => ?_) (rv_eq rfl)) (by simp)) (fun _ => ?_)) rfl) (fun H6 e6 => k H6 (e05.trans e6))
    · exact ⟨a, _, rfl, .inl (SqL.of (e7 _ _ ha)), q H7 (Ex.refl H7)⟩
    · exact ⟨b, _, rfl, .inl (SqL.of (e7 _ _ hb)), (by rw [← ln]; exact q H7 (Ex.refl H7))⟩
    · refine ev_is (ev_all (bs := List.replicate xs.length true) (given_eq (el_lcR1 (n := (xs.length : Int)) (fun _ => true) (fun _ => V.bl true) (ea_cons (ev_cb (ea_cons (ev_var rfl) ea_nil) fun H7 e7 Q q => ⟨a, _, rfl, .inl (SqL.of (e7 _ _ ha)), q H7 (Ex.refl H7)⟩) ea_nil) ⟨by omega, by omega⟩ (fun _ => rfl) (fun i H4 _ _ H5 _ Q q => q H5 (Ex.refl H5)) (fun i H6 e hi _ => ?_)))) (by simp)
      have hi2 : i < xs.length := by omega
      have hx : xs[i]? = some xs[i] := List.getElem?_eq_getElem hi2
      have hy : ys[i]? = some (ys[i]'(by omega)) := List.getElem?_eq_getElem (by omega)
      exact ev_call (ea_cons (ev_op (ev_var rfl) (ev_var rfl) (rv_ixL (SqL.of (e _ _ ha)) (atI_nat (j := i) hx))) (ea_cons (ev_op (ev_var rfl) (ev_var rfl) (rv_ixL (SqL.of (e _ _ hb)) (atI_nat (j := i) hy))) ea_nil)) fun H7 e7 => each i _ _ hx hy H7 ((e05.trans e).trans e7)
/-- the same data: flat things, lists and tuples of the same data, at most n deep -/
inductive SameV (H : Hp) : Nat → V → V → Prop
  | flat {n : Nat} {x : V} : flat4 x = true → SameV H n x x
  | lst {n : Nat} {a b : Addr} {xs ys : List V} : H a = some (.lst xs) → H b = some (.lst ys) → xs.length = ys.length → xs.length ≤ 100 → (∀ (i : Nat) (x y : V), xs[i]? = some x → ys[i]? = some y → SameV H n x y) → SameV H (n + 1) (.ref a) (.ref b)
  | tup {n : Nat} {a b : Addr} {xs ys : List V} : H a = some (.tup xs) → H b = some (.tup ys) → xs.length = ys.length → xs.length ≤ 100 → (∀ (i : Nat) (x y : V), xs[i]? = some x → ys[i]? = some y → SameV H n x y) → SameV H (n + 1) (.ref a) (.ref b)
theorem SameV.mono {H H' : Hp} {n : Nat} {x y : V} (s : SameV H n x y) (e : Ex H H') : SameV H' n x y := by
  induction s with
  | flat h => exact .flat h
  | lst a b c d _ ih => exact .lst (e _ _ a) (e _ _ b) c d ih
  | tup a b c d _ ih => exact .tup (e _ _ a) (e _ _ b) c d ih
theorem SameV.txts {H : Hp} {n : Nat} {a b : Addr} {L : List Str} (ha : H a = some (.lst (L.map V.str))) (hb : H b = some (.lst (L.map V.str))) (few : L.length ≤ 100) : SameV H (n + 1) (.ref a) (.ref b) :=
  .lst ha hb rfl (by rw [List.length_map]; exact few) fun i x y hx hy => by
    rw [hx] at hy
    cases hy
    rw [List.getElem?_map] at hx
    cases c : L[i]? with
    | none => rw [c] at hx; cases hx
    | some z => rw [c] at hx; obtain rfl : V.str z = x := Option.some.inj hx; exact .flat rfl
theorem SameV.txtT {H : Hp} {n : Nat} {a b : Addr} {L : List Str} (ha : H a = some (.tup (L.map V.str))) (hb : H b = some (.tup (L.map V.str))) (few : L.length ≤ 100) : SameV H (n + 1) (.ref a) (.ref b) :=
  .tup ha hb rfl (by rw [List.length_map]; exact few) fun i x y hx hy => by
    rw [hx] at hy
    cases hy
    rw [List.getElem?_map] at hx
    cases c : L[i]? with
    | none => rw [c] at hx; cases hx
    | some z => rw [c] at hx; obtain rfl : V.str z = x := Option.some.inj hx; exact .flat rfl
theorem SameV.bools {H : Hp} {n : Nat} {a b : Addr} {L : List Bool} (ha : H a = some (.lst (L.map V.bl))) (hb : H b = some (.lst (L.map V.bl))) (few : L.length ≤ 100) : SameV H (n + 1) (.ref a) (.ref b) :=
  .lst ha hb rfl (by rw [List.length_map]; exact few) fun i x y hx hy => by
    rw [hx] at hy
    cases hy
    rw [List.getElem?_map] at hx
    cases c : L[i]? with
    | none => rw [c] at hx; cases hx
    | some z => rw [c] at hx; obtain rfl : V.bl z = x := Option.some.inj hx; exact .flat rfl
/-- _law_same(one, other) of the same data -/
def spSameN (n : Nat) : Sp := fun vs H Q _ => ∃ x y : V, vs = [x, y] ∧ SameV H n x y ∧ ∀ H', Ex H H' → Q (.bl true) H'
theorem FnOk.imp {CX : CXT} {k : Nat} {f : Addr} {fd : FuncData} {ps : List Str} {sp1 sp2 : Sp} (F : FnOk P w K mg base CX k f fd ps sp1) (h : ∀ vs H Q E, sp2 vs H Q E → sp1 vs H Q E) : FnOk P w K mg base CX k f fd ps sp2 :=
  ⟨fun vs H Q E z => F.len vs H Q E (h _ _ _ _ z), fun A outer s H args us vs Q E hr e0 b v z => F.run A outer s H args us vs Q E hr e0 b v (h _ _ _ _ z)⟩
theorem okN__law_same (T : Txt P K mg) : ∀ n : Nat, FnOk P w K mg base CX0 (n + 1) T.f__law_same T.d__law_same ["_law_one", "_law_other"] (spSameN n)
  | 0 => FnOk.imp (ok__law_same T) fun vs H Q E h => by
    obtain ⟨x, y, rfl, s, q⟩ := h
    cases s with
    | flat f => exact ⟨x, x, rfl, f, f, fun H2 e2 => by rw [decide_eq_true rfl]; exact q H2 e2⟩
  | n + 1 => FnOk.imp (FnOk_or ((ok__law_same T).mono (by omega)) (FnOk_or (okLG__law_same T (okN__law_same T n)) (okG__law_same T (okN__law_same T n)))) fun vs H Q E h => by
    obtain ⟨x, y, rfl, s, q⟩ := h
    cases s with
    | flat f => exact .inl ⟨x, x, rfl, f, f, fun H2 e2 => by rw [decide_eq_true rfl]; exact q H2 e2⟩
    | lst a b c d each => exact .inr (.inl ⟨_, _, _, _, rfl, a, b, c, d, fun i x y hx hy H2 e2 Q' q' E' => ⟨x, y, rfl, (each i x y hx hy).mono e2, q'⟩, q⟩)
    | tup a b c d each => exact .inr (.inr ⟨_, _, _, _, rfl, a, b, c, d, fun i x y hx hy H2 e2 Q' q' E' => ⟨x, y, rfl, (each i x y hx hy).mono e2, q'⟩, q⟩)
end
section
open Evl
/-! ### comprehensions over texts -/
/-- [g(z) for z in a list of texts if p(z)] -/
theorem el_fmV {σ : L2.St} {H : Hp} {a : Addr} {L : List Str} {tl te : TE} {tt : TT} {j : Nat} {vs : List Nat} (p : Str → Bool) (g : Str → V) (h : Ev tl σ H (.ref a)) (hx : H a = some (.lst (L.map V.str))) (hz : L.length ≤ 40000) (hw : ∀ x, wipe ((wipe σ vs).set j (some x)) vs = wipe σ vs)
    (ht : ∀ z ∈ L, ∀ H1, Ex H H1 → EvT tt ((wipe σ vs).set j (some (.str z))) H1 (p z)) (he : ∀ z ∈ L, p z = true → ∀ H1, Ex H H1 → Ev te ((wipe σ vs).set j (some (.str z))) H1 (g z)) :
    EvL (tLc (iList K tl) (gName j) tt te vs) σ H ((L.filter p).map g) := fun H0 e Q q => h H0 e _ fun H1 e1 => by
  have e01 := e.trans e1
  refine ⟨a, rfl, ⟨_, sq_of (e01 _ _ hx)⟩, fun D nD => lc_list (K := K) (xs := L.map V.str) (fun i H' => Ex H1 H' ∧ H' D = some (.lst (((L.take i).filter p).map g))) ⟨Ex.new nD, upd_same⟩ (fun i H' _ x => sq_of (x.1 _ _ (e01 _ _ hx))) ?_ ?_⟩
  · rintro i x H3 hi ⟨q1, q2⟩
    obtain ⟨z, hz', rfl⟩ := pick_str hi
    have m := List.mem_of_getElem? hz'
    refine ⟨hw _, ?_⟩
    refine ht z m H3 (e01.trans q1) H3 (Ex.refl _) _ fun H4 e4 => ?_
    cases c : p z with
    | true =>
      rw [if_pos rfl]
      refine he z m c H4 ((e01.trans q1).trans e4) H4 (Ex.refl _) _ fun H5 e5 => ⟨_, e5 _ _ (e4 _ _ q2), ?_, Ex.mut ((q1.trans e4).trans e5) nD, ?_⟩
      · rw [List.length_map]
        have l1 := List.length_filter_le p (L.take i)
        have l2 := List.length_take_le' i L
        exact sz_lt (by omega)
      · rw [upd_same, List.take_add_one, hz']
        simp [c]
    | false =>
      rw [if_neg (by decide)]
      refine ⟨q1.trans e4, ?_⟩
      rw [e4 _ _ q2, List.take_add_one, hz']
      simp [c]
  · rintro H3 ⟨q1, q2⟩
    rw [List.length_map, List.take_length] at q2
    exact q D H3 (fresh_back e1 nD) (e1.trans q1) q2
/-- .. in a tuple of texts -/
theorem el_fmT {σ : L2.St} {H : Hp} {a : Addr} {L : List Str} {tl te : TE} {tt : TT} {j : Nat} {vs : List Nat} (p : Str → Bool) (g : Str → V) (h : Ev tl σ H (.ref a)) (hx : H a = some (.tup (L.map V.str))) (hz : L.length ≤ 40000) (hw : ∀ x, wipe ((wipe σ vs).set j (some x)) vs = wipe σ vs)
    (ht : ∀ z ∈ L, ∀ H1, Ex H H1 → EvT tt ((wipe σ vs).set j (some (.str z))) H1 (p z)) (he : ∀ z ∈ L, p z = true → ∀ H1, Ex H H1 → Ev te ((wipe σ vs).set j (some (.str z))) H1 (g z)) :
    EvL (tLc (iTup K tl) (gName j) tt te vs) σ H ((L.filter p).map g) := fun H0 e Q q => h H0 e _ fun H1 e1 => by
  have e01 := e.trans e1
  refine ⟨a, rfl, ⟨_, st_of (e01 _ _ hx)⟩, fun D nD => lc_tup (K := K) (xs := L.map V.str) (fun i H' => Ex H1 H' ∧ H' D = some (.lst (((L.take i).filter p).map g))) ⟨Ex.new nD, upd_same⟩ (fun i H' _ x => st_of (x.1 _ _ (e01 _ _ hx))) ?_ ?_⟩
  · rintro i x H3 hi ⟨q1, q2⟩
    obtain ⟨z, hz', rfl⟩ := pick_str hi
    have m := List.mem_of_getElem? hz'
    refine ⟨hw _, ?_⟩
    refine ht z m H3 (e01.trans q1) H3 (Ex.refl _) _ fun H4 e4 => ?_
    cases c : p z with
    | true =>
      rw [if_pos rfl]
      refine he z m c H4 ((e01.trans q1).trans e4) H4 (Ex.refl _) _ fun H5 e5 => ⟨_, e5 _ _ (e4 _ _ q2), ?_, Ex.mut ((q1.trans e4).trans e5) nD, ?_⟩
      · rw [List.length_map]
        have l1 := List.length_filter_le p (L.take i)
        have l2 := List.length_take_le' i L
        exact sz_lt (by omega)
      · rw [upd_same, List.take_add_one, hz']
        simp [c]
    | false =>
      rw [if_neg (by decide)]
      refine ⟨q1.trans e4, ?_⟩
      rw [e4 _ _ q2, List.take_add_one, hz']
      simp [c]
  · rintro H3 ⟨q1, q2⟩
    rw [List.length_map, List.take_length] at q2
    exact q D H3 (fresh_back e1 nD) (e1.trans q1) q2
theorem filter_yes (L : List Str) : L.filter (fun _ => true) = L := List.filter_eq_self.mpr fun _ _ => rfl
/-- all([p(z) for z in ..]) -/
theorem all_map (L : List Str) (p : Str → Bool) : ((L.filter (fun _ => true)).map fun z => V.bl (p z)) = (L.map p).map V.bl := by
  rw [filter_yes, List.map_map]
  rfl
theorem ev_allV {σ : L2.St} {H : Hp} {tl : TE} {bs : List Bool} {b : Bool} (h : EvL tl σ H (bs.map V.bl)) (e : bs.all id = b) : Ev (tCB (rAll K) (tCons tl tNil)) σ H (.bl b) := by
  rw [← e]
  exact ev_all h
theorem ev_fld {C a dx : Addr} {f : Str} {fs : List (Str × V)} {v : V} {σ : L2.St} {H : Hp} {ta : TE} (h : Ev ta σ H (.ref a)) (hx : H a = some (.ins C dx fs)) (cl : Cls K C) (na : NoAttr K C f) (hl : List.lookup f fs = some v) : Ev (tFld K ta f) σ H v :=
  fun H1 e Q q => h H1 e _ fun H2 e2 => ⟨a, C, dx, fs, v, rfl, e2 _ _ (e _ _ hx), cl, na, hl, q H2 e2⟩
/-! ### Clause's own methods -/
/-- a clause at a, its literals -/
def ClAt (C : Addr) (H : Hp) (a : Addr) (D : List Str) : Prop := ∃ dx p, H a = some (.ins C dx [("literals", .ref p)]) ∧ H p = some (.tup (D.map V.str))
theorem ClAt.mono {C : Addr} {H H' : Hp} {a : Addr} {D : List Str} (c : ClAt C H a D) (e : Ex H H') : ClAt C H' a D := by
  obtain ⟨dx, p, h1, h2⟩ := c
  exact ⟨dx, p, e _ _ h1, e _ _ h2⟩
theorem ty_clause (T : Txt P K mg) {H : Hp} {x dx : Addr} {fs : List (Str × V)} (h : H x = some (.ins T.C_Clause dx fs)) : TyX K H (.ref x) (.ref T.C_Clause) := .base (.ins h T.cl_Clause T.ins_Clause.ha T.ins_Clause.hn T.ins_Clause.htk T.ins_Clause.hm)
/-- isinstance(o, Clause) of a clause -/
theorem ev_isC (T : Txt P K mg) {σ : L2.St} {H : Hp} {te : TE} {a dx : Addr} {fs : List (Str × V)} (h : Ev te σ H (.ref a)) (hx : H a = some (.ins T.C_Clause dx fs)) : Ev (tCB (rIsi K) (tCons te (tCons (tC (.ref T.C_Clause)) tNil))) σ H (.bl true) :=
  ev_cb (ea_cons h (ea_cons ev_c ea_nil)) fun H1 e Q q => ⟨.ref a, .ref T.C_Clause, .ref T.C_Clause, .ref T.C_Clause, true, rfl, .own _, ty_clause T (e _ _ hx), T.ins_Clause.me, q H1 (Ex.refl H1)⟩
/-- o.literals of a clause -/
theorem ev_lts (T : Txt P K mg) {σ : L2.St} {H : Hp} {te : TE} {a dx p : Addr} (h : Ev te σ H (.ref a)) (hx : H a = some (.ins T.C_Clause dx [("literals", .ref p)])) : Ev (tFld K te "literals") σ H (.ref p) := ev_fld h hx T.cl_Clause T.na_Clause_literals rfl
end
section
open Evl
theorem fresh_of {H H' : Hp} {p : Addr} (e : Ex H H') (h : H' p = none) : H p = none := fresh_back e h
/-- the same flat thing -/
theorem ev_sN {σ : L2.St} {H : Hp} {ta tb : TE} {n : Nat} {x : V} {E : XK} (ha : Ev ta σ H x) (hb : Ev tb σ H x) (f : flat4 x = true) : Ev (tCall (spSameN n) [] E (tCons ta (tCons tb tNil))) σ H (.bl true) :=
  ev_call (ea_cons ha (ea_cons hb ea_nil)) fun H1 _ Q q E => ⟨x, x, rfl, .flat f, q⟩
/-- a tuple of texts and a new one -/
theorem ev_sNU {σ : L2.St} {H : Hp} {ta tb : TE} {n : Nat} {p : Addr} {L : List Str} {E : XK} (ha : Ev ta σ H (.ref p)) (hp : H p = some (.tup (L.map V.str))) (hb : EvU tb σ H (L.map V.str)) (few : L.length ≤ 100) : Ev (tCall (spSameN (n + 1)) [] E (tCons ta (tCons tb tNil))) σ H (.bl true) := fun H1 e1 Q q =>
  ha H1 e1 _ fun H2 e2 => hb H2 (e1.trans e2) _ fun r H3 nr e3 hr => ⟨_, _, rfl, .txtT (e3 _ _ (e2 _ _ (e1 _ _ hp))) hr few, fun H4 e4 => q H4 ((e2.trans e3).trans e4)⟩
/-- two new lists of texts -/
theorem ev_sNLL {σ : L2.St} {H : Hp} {ta tb : TE} {n : Nat} {L : List Str} {E : XK} (ha : EvL ta σ H (L.map V.str)) (hb : EvL tb σ H (L.map V.str)) (few : L.length ≤ 100) : Ev (tCall (spSameN (n + 1)) [] E (tCons ta (tCons tb tNil))) σ H (.bl true) := fun H1 e1 Q q =>
  ha H1 e1 _ fun p H2 np e2 hp => hb H2 (e1.trans e2) _ fun r H3 nr e3 hr => ⟨_, _, rfl, .txts (e3 _ _ hp) hr few, fun H4 e4 => q H4 ((e2.trans e3).trans e4)⟩
/-- two new lists of True and False -/
theorem ev_sNBB {σ : L2.St} {H : Hp} {ta tb : TE} {n : Nat} {L : List Bool} {E : XK} (ha : EvL ta σ H (L.map V.bl)) (hb : EvL tb σ H (L.map V.bl)) (few : L.length ≤ 100) : Ev (tCall (spSameN (n + 1)) [] E (tCons ta (tCons tb tNil))) σ H (.bl true) := fun H1 e1 Q q =>
  ha H1 e1 _ fun p H2 np e2 hp => hb H2 (e1.trans e2) _ fun r H3 nr e3 hr => ⟨_, _, rfl, .bools (e3 _ _ hp) hr few, fun H4 e4 => q H4 ((e2.trans e3).trans e4)⟩
theorem eu_tupL {σ : L2.St} {H : Hp} {te : TE} {xs : List V} (h : EvL te σ H xs) : EvU (tCB (fun xs H Q => ∃ p ys, xs = [.ref p] ∧ ((SqL K H p ys ∧ ∀ l, H l = none → Q (.ref l) (upd H l (.tup ys))) ∨ (SqT K H p ys ∧ Q (.ref p) H))) (tCons te tNil)) σ H xs := fun H1 e1 Q q =>
  h H1 e1 _ fun p H2 np e2 hp => ⟨p, xs, rfl, .inl ⟨SqL.of hp, fun l nl => q l _ (fresh_back e2 nl) (e2.trans (Ex.new nl)) upd_same⟩⟩
end
theorem ord_any (L : List Str) : ∃ N, Ord L N := by
  have perm := List.mergeSort_perm L (fun a b => decide (a.cps.toList ≤ b.cps.toList))
  have srt : (L.mergeSort (fun a b => decide (a.cps.toList ≤ b.cps.toList))).Pairwise leS := by
    have z := List.pairwise_mergeSort (le := fun a b => decide (a.cps.toList ≤ b.cps.toList)) (fun a b c h1 h2 => by
      simp only [decide_eq_true_eq] at h1 h2 ⊢
      exact leS_trans h1 h2) (fun a b => by
      simp only [Bool.or_eq_true, decide_eq_true_eq]
      exact List.le_total _ _) L
    exact z.imp fun h => of_decide_eq_true h
  obtain ⟨a, b, c⟩ := dd_spec (L.mergeSort (fun a b => decide (a.cps.toList ≤ b.cps.toList))) [] .nil srt
  exact ⟨_, a, b, fun x => by rw [c x, perm.mem_iff]; simp⟩
section
open Evl
theorem passN0 {X : Cx} : Passes (L2N.CX X.prog X.w) X E0 := fun _ _ _ _ _ _ _ h => by
  obtain ⟨a, B, H', cls, d, _, _, _, _, _, _, _, he⟩ := h
  exact he.elim
end
theorem Ord.cong {A B N : List Str} (od : Ord A N) (h : ∀ x, x ∈ A ↔ x ∈ B) : Ord B N := ⟨od.pw, od.nd, fun x => (od.mem x).trans (h x)⟩
section
open Evl
/-! ### names in order, few of them -/
/-- check_name(text) -/
def spName (C : Addr) : Sp := fun vs H Q E => ∃ z : Str, vs = [.str z] ∧ z.cps.size ≤ 50 ∧ (∀ c ∈ z.cps.toList, c < 128) ∧ (isName z = true → ∀ H', Ex H H' → Q .non H') ∧
  (isName z = false → ∀ H' d, Ex H H' → H' d = some (.xd [("text", .str z)]) → E (.ref C) (some d) H')
theorem ok_check_name (T : Txt P K mg) : FnOk P w K mg base (L2N.CX P w) 3 T.f_check_name T.d_check_name ["text"] (spName T.C_BadName) := by
  refine T.F_check_name.okN sc_check_name (fun vs H Q E h => ?_) (fun cdv A outer s H vs Q E hr h => ?_)
  · obtain ⟨z, rfl, _⟩ := h
    rfl
  · obtain ⟨z, rfl, hz, hc, q1, q2⟩ := h
    refine ⟨_, (pss_one (ps_if (pt_not (pt_val (pe_call (ok_is_name T) (hr.mono (by decide)) rfl T.g_is_name T.F_is_name.kp T.b_is_name .nil pass0 (pa_cons (pv 0) pa_nil)))) (pss_one (L2N.ps_raise rfl (L2N.takes_of rfl rfl rfl rfl) (pmk1 T.E_BadName rfl fld_text T.o_BadName hr (pa_cons (pv 0) pa_nil) rfl (by decide)))) pss_nil)), ?_⟩
    refine ⟨_, rfl, z, rfl, by omega, fun H1 e1 => ⟨_, rfl, ?_⟩⟩
    cases hl : isName z with
    | true =>
      refine iteF ?_
      exact q1 hl H1 e1
    | false =>
      refine iteT ?_
      refine ⟨_, rfl, _, rfl, fun u hu => ?_, fun d hd => q2 hl _ d (e1.trans (Evl.Ex.new hd)) upd_same⟩
      obtain ⟨t, rfl⟩ := hu
      exact msg_cr fld_text (by decide) (repr_le hz hc)
/-- names_in_order(names), names a tuple -/
def spNio (C : Addr) : Sp := fun vs H Q E => ∃ (a : Addr) (L : List Str), vs = [.ref a] ∧ H a = some (.tup (L.map V.str)) ∧ L.length ≤ 100 ∧ (∀ z ∈ L, z.cps.size ≤ 50 ∧ ∀ c ∈ z.cps.toList, c < 128) ∧
  ((∀ z ∈ L, isName z = true) → ∀ N, Ord L N → RetL (N.map V.str) H Q) ∧
  (∀ pre z post, L = pre ++ z :: post → (∀ y ∈ pre, isName y = true) → isName z = false → ∀ H' d, Ex H H' → H' d = some (.xd [("text", .str z)]) → E (.ref C) (some d) H')
theorem ok_names_in_order (T : Txt P K mg) : FnOk P w K mg base (L2N.CX P w) 4 T.f_names_in_order T.d_names_in_order ["names"] (spNio T.C_BadName) := by
  refine T.F_names_in_order.okN sc_names_in_order (fun vs H Q E h => ?_) (fun cdv A outer s H vs Q E hr h => ?_)
  · obtain ⟨a, L, rfl, _⟩ := h
    rfl
  · obtain ⟨a, L, rfl, ha, few, short, good, bad⟩ := h
    refine ⟨_, (pss_cons (ps_for PassesOwn.leaving rfl (pi_tup (pv 0)) (pg_name (i := 1) sc_names_in_order.nd rfl (.inl rfl)) (pss_one (ps_expr (pe_call (ok_check_name T) (hr.mono (by decide)) rfl T.g_check_name T.F_check_name.kp T.b_check_name .nil (L2N.passes_call (L2N.takes_of rfl rfl rfl rfl) (fun _ _ _ _ h => h)) (pa_cons (pv 1) pa_nil)))))
      (pss_one (ps_ret (pe_callB (cr_srtS rfl) (by rfl) T.n_sorted (by decide +kernel) (pa_cons (pe_callTy (cr_setST rfl) (by rfl) T.n_set (by decide +kernel) (pa_cons (pv 0) pa_nil)) pa_nil))))), ?_⟩
    refine ⟨_, rfl, a, rfl, ⟨_, st_of ha⟩, for_tup (K := K) (xs := L.map V.str) (fun i σ H' => ∃ v1 : Option V, σ = [some (V.ref a), v1] ∧ Ex H H' ∧ ∀ z ∈ L.take i, isName z = true)
      ⟨_, rfl, Ex.refl _, fun z hz => by simp at hz⟩ (fun i σ H' _ ⟨_, _, e, _⟩ => st_of (e _ _ ha)) ?_ ?_⟩
    · rintro i y σ H2 hi ⟨v1, rfl, e2, yes⟩
      obtain ⟨z, hz, rfl⟩ := pick_str hi
      have zL := List.mem_of_getElem? hz
      refine ⟨_, rfl, z, rfl, (short z zL).1, (short z zL).2, fun hn H3 e3 => ⟨_, rfl, e2.trans e3, fun y hy => ?_⟩, fun hn H3 d e3 hd => ?_⟩
      · rw [List.take_add_one, hz] at hy
        rcases List.mem_append.mp hy with h | h
        · exact yes y h
        · have e : y = z := by simpa using h
          rw [e]; exact hn
      · refine bad (L.take i) z (L.drop (i + 1)) ?_ yes hn H3 d (e2.trans e3) hd
        have lt := (List.getElem?_eq_some_iff.mp hz).1
        have q := (List.getElem?_eq_some_iff.mp hz).2
        have z2 : L.drop i = z :: L.drop (i + 1) := by rw [List.drop_eq_getElem_cons lt, q]
        rw [← z2, List.take_append_drop]
    · rintro σ H2 ⟨v1, rfl, e2, yes⟩
      rw [List.length_map, List.take_length] at yes
      refine ⟨_, rfl, a, L, rfl, st_of (e2 _ _ ha), by omega, fun p np => ⟨p, putL L, rfl, upd_same, putL_nd _, by have := putL_len L; omega, fun ss r pm so nr => ?_⟩⟩
      exact good yes ss (srt_ord pm so) r _ (fresh_back (e2.trans (Ex.new np)) nr) ((e2.trans (Ex.new np)).trans (Ex.new nr)) upd_same
/-- few_names(names, limit) -/
def spFew (C CT : Addr) : Sp := fun vs H Q E => ∃ (a : Addr) (L : List Str) (k : Nat), vs = [.ref a, .int (k : Int)] ∧ k ≤ 99 ∧ H a = some (.tup (L.map V.str)) ∧ L.length ≤ 100 ∧ (∀ z ∈ L, z.cps.size ≤ 50 ∧ ∀ c ∈ z.cps.toList, c < 128) ∧
  ((∀ z ∈ L, isName z = true) → ∀ N, Ord L N → (N.length ≤ k → RetL (N.map V.str) H Q) ∧ (k < N.length → ∀ H' d, Ex H H' → H' d = some (.xd [("limit", .int (k : Int))]) → E (.ref CT) (some d) H')) ∧
  (∀ pre z post, L = pre ++ z :: post → (∀ y ∈ pre, isName y = true) → isName z = false → ∀ H' d, Ex H H' → H' d = some (.xd [("text", .str z)]) → E (.ref C) (some d) H')
theorem small_int : ∀ k : Nat, k < 100 → (k : Int).natAbs.log2 < 1920 ∧ (toString (k : Int) : Str).length ≤ 1000 := by decide
theorem ok_few_names (T : Txt P K mg) : FnOk P w K mg base (L2N.CX P w) 5 T.f_few_names T.d_few_names ["names", "limit"] (spFew T.C_BadName T.C_TooMany) := by
  refine T.F_few_names.okN sc_few_names (fun vs H Q E h => ?_) (fun cdv A outer s H vs Q E hr h => ?_)
  · obtain ⟨a, L, k, rfl, _⟩ := h
    rfl
  · obtain ⟨a, L, k, rfl, k99, ha, few, short, good, bad⟩ := h
    refine ⟨_, (pss_cons (ps_set (i := 2) sc_few_names.nd rfl (.inl rfl) (pe_call (ok_names_in_order T) (hr.mono (by decide)) rfl T.g_names_in_order T.F_names_in_order.kp T.b_names_in_order .nil (L2N.passes_call (L2N.takes_of rfl rfl rfl rfl) (fun _ _ _ _ h => h)) (pa_cons (pv 0) pa_nil)))
      (pss_cons (ps_if (pt_cmpR op_gt (pe_callB call_len_seq (by rfl) T.n_len PySem.boot_len (pa_cons (pv 2) pa_nil)) (pv 1) (nomark _))
      (pss_one (L2N.ps_raise rfl (L2N.takes_of rfl rfl rfl rfl) (pmk1 T.E_TooMany rfl fld_limit T.o_TooMany hr (pa_cons (pv 1) pa_nil) rfl (by decide)))) pss_nil)
      (pss_one (ps_ret (pv 2))))), ?_⟩
    refine ⟨_, rfl, a, L, rfl, ha, few, short, fun nm N od b H1 nb e1 hb => ?_, bad⟩
    obtain ⟨fin, many⟩ := good nm N od
    refine ⟨_, rfl, b, _, rfl, .inl (SqL.of hb), _, rfl, _, _, rfl, rfl, _, rfl, ite2 (fun big => ?_) (fun big => ?_)⟩
    · have big2 : k < N.length := by
        have z := of_decide_eq_true big
        rw [List.length_map] at z
        omega
      refine ⟨_, rfl, _, rfl, fun u hu => ?_, fun d nd => many big2 _ d (e1.trans (Ex.new nd)) upd_same⟩
      obtain ⟨tk, rfl⟩ := hu
      exact msg_ci fld_limit (by decide) (small_int k (by omega)).1 (small_int k (by omega)).2
    · have big2 : N.length ≤ k := Nat.le_of_not_lt fun h => big (decide_eq_true (by rw [List.length_map]; omega))
      exact ⟨_, rfl, fin big2 b H1 nb e1 hb⟩
/-- a turning at a, its names -/
def TnAt (C : Addr) (H : Hp) (a : Addr) (N : List Str) : Prop := ∃ dx p, H a = some (.ins C dx [("turned", .ref p)]) ∧ H p = some (.tup (N.map V.str))
theorem TnAt.mono {C : Addr} {H H' : Hp} {a : Addr} {D : List Str} (c : TnAt C H a D) (e : Ex H H') : TnAt C H' a D := by
  obtain ⟨dx, p, h1, h2⟩ := c
  exact ⟨dx, p, e _ _ h1, e _ _ h2⟩
/-- Turning.__init__(self, *names) -/
def spTn (C CB CT : Addr) : Sp := fun vs H Q E => ∃ (x dx t : Addr) (L : List Str), vs = [.ref x, .ref t] ∧ H x = some (.ins C dx []) ∧ H t = some (.tup (L.map V.str)) ∧ L.length ≤ 40 ∧ (∀ z ∈ L, Txt8 20 z) ∧
  (∀ pre z post, L = pre ++ z :: post → (∀ y ∈ pre, isName y = true) → isName z = false → ∀ H' d, Ex H H' → H' d = some (.xd [("text", .str z)]) → E (.ref CB) (some d) H') ∧
  ((∀ z ∈ L, isName z = true) → ∀ N, Ord L N →
    (12 < N.length → ∀ H' d, Ex H H' → H' d = some (.xd [("limit", .int 12)]) → E (.ref CT) (some d) H') ∧
    (N.length ≤ 12 → ∀ H' p, (∀ c o, c ≠ x → H c = some o → H' c = some o) → H p = none → H' x = some (.ins C dx [("turned", .ref p)]) → H' p = some (.tup (N.map V.str)) → Q .non H'))
theorem okR_Turning_init (T : Txt P K mg) : FnR P w K mg base (L2N.CX P w) 6 T.f_Turning_init (fun vs H Q E => ∃ ws rest, vs = ws ++ rest ∧ ws.length = ["self"].length ∧ rest.length ≤ sizeLine ∧ ∀ p, H p = none → spTn T.C_Turning T.C_BadName T.C_TooMany (ws ++ [V.ref p]) (upd H p (.tup rest)) Q E) := by
  refine T.F_Turning_init.okStar (ps := ["self"]) sc_Turning_init (fun kV doc pm an cdv ct => StX.bind_star1 (B := fun us => bindArgs (PySem.W.fnOf "__init__" "Turning.__init__" (defArgs s_Turning_init) (defBody s_Turning_init) (defScope s_Turning_init) .none kV doc pm an cdv ct) ⟨us, []⟩) (p1 := "self") (pv := "names") (fun a => rfl) (fun a r rs => rfl)) (fun cdv A outer s H vs Q E hr h => ?_)
  obtain ⟨x, dx, t, L, rfl, hx, ht, few, txt, bad, good⟩ := h
  obtain ⟨u12, cv12⟩ := T.V_Turning_LIMIT
  refine ⟨_, (pss_one (ps_fld (pv 0) (pe_callTy call_tuple_of (by rfl) T.n_tuple (by decide +kernel) (pa_cons (pe_call (ok_few_names T) (hr.mono (by decide)) rfl T.g_few_names T.F_few_names.kp T.b_few_names .nil (L2N.passes_call (L2N.takes_of rfl rfl rfl rfl) (fun _ _ _ _ h => h)) (pa_cons (pv 1) (pa_cons (ClX.pe_cval (pe_glob (v := .ref T.C_Turning) rfl T.g_Turning rfl)) pa_nil))) pa_nil)) rfl)), ?_⟩
  have short : ∀ z ∈ L, z.cps.size ≤ 50 ∧ ∀ c ∈ z.cps.toList, c < 128 := fun z hz => ⟨Nat.le_trans (txt z hz).1 (by decide), (txt z hz).2⟩
  refine ⟨_, rfl, T.C_Turning, .type "type", .int 12, u12, rfl, T.R_Turning, cv12, t, L, 12, rfl, by decide, ht, by omega, short, fun nm N od => ⟨fun le b H1 nb e1 hb => ?_, fun big => (good nm N od).1 big⟩, bad⟩
  have hx1 := e1 _ _ hx
  refine ⟨b, _, rfl, .inl ⟨SqL.of hb, fun p np => ⟨.ref x, rfl, x, _, dx, _, rfl, (by rw [upd_ne (ne_of_none hx1 np)]; exact hx1), T.cl_Turning, T.na_Turning_turned, (by show 0 < 1000; decide), ?_⟩⟩⟩
  have xp : p ≠ x := fun e => by rw [e, hx1] at np; cases np
  refine (good nm N od).2 le _ p (fun c o nc hc => ?_) (fresh_back e1 np) upd_same (by rw [upd_ne xp, upd_same])
  rw [upd_ne nc, upd_ne (ne_of_none (e1 _ _ hc) np)]
  exact e1 _ _ hc
end
section
open Evl
structure MkT (C CB CT : Addr) (L : List Str) (H : Hp) (Q : VK) (E : XK) : Prop where
  bad : ∀ pre z post, L = pre ++ z :: post → (∀ y ∈ pre, isName y = true) → isName z = false → ∀ H' d, Ex H H' → H' d = some (.xd [("text", .str z)]) → E (.ref CB) (some d) H'
  many : (∀ z ∈ L, isName z = true) → ∀ N, Ord L N → 12 < N.length → ∀ H' d, Ex H H' → H' d = some (.xd [("limit", .int 12)]) → E (.ref CT) (some d) H'
  good : (∀ z ∈ L, isName z = true) → ∀ N, Ord L N → N.length ≤ 12 → ∀ H' x, Ex H H' → TnAt C H' x N → Q (.ref x) H'
theorem MkT.mono {C CB CT : Addr} {L : List Str} {H H1 : Hp} {Q : VK} {E : XK} (m : MkT C CB CT L H Q E) (e : Ex H H1) : MkT C CB CT L H1 Q E :=
  ⟨fun a b c d f g H' x y => m.bad a b c d f g H' x (e.trans y), fun a N b c H' d x => m.many a N b c H' d (e.trans x), fun a N b c H' x y => m.good a N b c H' x (e.trans y)⟩
def spInitT (C CB CT : Addr) : Sp := fun vs H Q E => ∃ ws rest, vs = ws ++ rest ∧ ws.length = ["self"].length ∧ rest.length ≤ sizeLine ∧ ∀ p, H p = none → spTn C CB CT (ws ++ [V.ref p]) (upd H p (.tup rest)) Q E
theorem mkTn (T : Txt P K mg) : Mk K T.C_Turning T.f_Turning_init := ⟨T.mi_Turning, T.m_Turning_init, T.i_Turning_init, T.kc_Turning⟩
theorem mkT_core {C CB CT : Addr} {L : List Str} {H1 : Hp} {Q : VK} {E : XK} (few : L.length ≤ 40) (txt : ∀ z ∈ L, Txt8 20 z) (m : MkT C CB CT L H1 Q E) (x dx : Addr) (hx : H1 x = Option.none) (hd : H1 dx = Option.none) (ne : dx ≠ x) :
    spInitT C CB CT (V.ref x :: L.map V.str) (upd (upd H1 dx (.own x)) x (.ins C dx [])) (fun v H2 => v = .non ∧ Q (.ref x) H2) E :=
  ⟨[.ref x], L.map V.str, rfl, rfl, by rw [List.length_map]; exact sz_of (by omega), fun p np => by
    have px : p ≠ x := fun e => by rw [e, upd_same] at np; cases np
    have pd : p ≠ dx := fun e => by rw [e, upd_ne ne, upd_same] at np; cases np
    have np1 : H1 p = none := by rw [upd_ne px, upd_ne pd] at np; exact np
    have e0 : Ex H1 (upd (upd (upd H1 dx (.own x)) x (.ins C dx [])) p (.tup (L.map V.str))) := fun c o hc => by rw [upd_ne (ne_of_none hc np1), upd_ne (ne_of_none hc hx), upd_ne (ne_of_none hc hd)]; exact hc
    exact ⟨x, dx, p, L, rfl, by rw [upd_ne px.symm, upd_same], upd_same, few, txt, fun pre z post a b c H' d e => m.bad pre z post a b c H' d (e0.trans e), fun nm N od => ⟨fun l H' d e => m.many nm N od l H' d (e0.trans e), fun l H' q k nq hx' hq => ⟨rfl, m.good nm N od l H' x (fun c o hc => k c o (ne_of_none hc hx) (e0 c o hc)) ⟨dx, q, hx', hq⟩⟩⟩⟩⟩
theorem mkT_args {C CB CT : Addr} {L : List Str} {σ : L2.St} {H : Hp} {Q : VK} {E : XK} {ta : TA} (few : L.length ≤ 40) (txt : ∀ z ∈ L, Txt8 20 z) (hA : EvA ta σ H (L.map V.str)) (go : MkT C CB CT L H Q E) : StX.tMakeR C (spInitT C CB CT) E ta σ H Q :=
  hA H (Ex.refl H) _ fun H1 e1 x dx hx hd ne => mkT_core few txt (go.mono e1) x dx hx hd ne
/-- T(*xs), xs a tuple or a list of texts -/
theorem mkTS_at {C CB CT : Addr} {L : List Str} {H H1 : Hp} {Q : VK} {E : XK} {p : Addr} (few : L.length ≤ 40) (txt : ∀ z ∈ L, Txt8 20 z) (e1 : Ex H H1) (hp : SqT K H1 p (L.map V.str) ∨ SqL K H1 p (L.map V.str)) (go : MkT C CB CT L H Q E) :
    ∃ a xs, V.ref p = V.ref a ∧ (SqT K H1 a xs ∨ SqL K H1 a xs) ∧ ∀ x dx, H1 x = Option.none → H1 dx = Option.none → dx ≠ x → spInitT C CB CT (V.ref x :: xs) (upd (upd H1 dx (.own x)) x (.ins C dx [])) (fun v H2 => v = .non ∧ Q (.ref x) H2) E :=
  ⟨p, L.map V.str, rfl, hp, fun x dx hx hd ne => mkT_core few txt (go.mono e1) x dx hx hd ne⟩
/-- a turning somewhere -/
def EvTn (C : Addr) (te : TE) (σ : L2.St) (H : Hp) (N : List Str) : Prop := ∀ H1, Ex H H1 → ∀ Q : VK, (∀ x H2, Ex H1 H2 → TnAt C H2 x N → Q (.ref x) H2) → te σ H1 Q
theorem q_asgT {C : Addr} {te : TE} {σ : L2.St} {H : Hp} {D : List Str} {i : Nat} {tz : TS} {En : Ends} (h : EvTn C te σ H D) (k : ∀ x H1, Ex H H1 → TnAt C H1 x D → tz En (σ.set i (some (.ref x))) H1) : tSeq (tAsg te (gName i)) tz En σ H := h H (Ex.refl H) _ fun x H1 e c => k x H1 e c
/-- a turning of the texts of L is made, where these are names, few of them -/
theorem mkt_row {C CB CT : Addr} {L N : List Str} {H : Hp} {Q : VK} {E : XK} (nm : ∀ z ∈ L, isName z = true) (od : Ord L N) (few : N.length ≤ 12) (k : ∀ x H', Ex H H' → TnAt C H' x N → Q (.ref x) H') : MkT C CB CT L H Q E where
  bad pre z post e yes no := absurd (nm z (by rw [e]; simp)) (by rw [no]; decide)
  many _ N' od' big := by
    rw [od'.uniq od fun _ => Iff.rfl] at big
    omega
  good _ N' od' small H' x e t := by
    rw [od'.uniq od fun _ => Iff.rfl] at t
    exact k x H' e t
theorem en_make {C CB CT : Addr} {σ : L2.St} {H : Hp} {ta : TA} {L N : List Str} (l40 : L.length ≤ 40) (nm : ∀ z ∈ L, isName z = true) (od : Ord L N) (few : N.length ≤ 12) (hA : EvA ta σ H (L.map V.str)) : EvTn C (StX.tMakeR C (spInitT C CB CT) E0 ta) σ H N := fun H1 e1 Q q =>
  mkT_args l40 (fun z hz => (name_txt (nm z hz)).mono (by decide)) (fun H2 e2 => hA H2 (e1.trans e2)) (mkt_row nm od few fun x H2 e2 t => q x H2 e2 t)
theorem ord_one (n : Str) : Ord [n] [n] := ⟨by simp, by simp, fun _ => Iff.rfl⟩
end
section
open Evl
theorem ev_trd (T : Txt P K mg) {σ : L2.St} {H : Hp} {te : TE} {a dx p : Addr} (h : Ev te σ H (.ref a)) (hx : H a = some (.ins T.C_Turning dx [("turned", .ref p)])) : Ev (tFld K te "turned") σ H (.ref p) := ev_fld h hx T.cl_Turning T.na_Turning_turned rfl
end
section
open Evl
theorem ev_niStrT {σ : L2.St} {H : Hp} {ta tb : TE} {z : Str} {p : Addr} {L : List Str} (ha : Ev ta σ H (.str z)) (hb : Ev tb σ H (.ref p)) (hp : H p = some (.tup (L.map V.str))) : Ev (tOp (rIn K true) ta tb) σ H (.bl (!decide (z ∈ L))) :=
  ev_is (ev_op ha hb (rv_niT (st_of hp) rfl (flat_str L))) (by rw [in_map])
/-- the names of one of the two only -/
def sym (N M : List Str) : List Str := (N.filter fun z => !decide (z ∈ M)) ++ (M.filter fun z => !decide (z ∈ N))
theorem sym_mem (N M : List Str) (x : Str) : x ∈ sym N M ↔ (x ∈ N ∧ x ∉ M) ∨ (x ∈ M ∧ x ∉ N) := by
  unfold sym
  rw [List.mem_append, List.mem_filter, List.mem_filter]
  simp
theorem sym_sub {N M : List Str} {x : Str} (h : x ∈ sym N M) : x ∈ N ∨ x ∈ M := by
  rcases (sym_mem N M x).mp h with h | h
  · exact .inl h.1
  · exact .inr h.1
/-- names_apart(one, other) -/
def spApart (C : Addr) : Sp := fun vs H Q _ => ∃ (a b : Addr) (N M : List Str), vs = [.ref a, .ref b] ∧ TnAt C H a N ∧ TnAt C H b M ∧ N.length ≤ 40 ∧ M.length ≤ 40 ∧ ∀ R, Ord (sym N M) R → RetL (R.map V.str) H Q
theorem ok_names_apart (T : Txt P K mg) : FnOk P w K mg base CX0 1 T.f_names_apart T.d_names_apart ["one", "other"] (spApart T.C_Turning) := by
  refine T.F_names_apart.ok sc_names_apart (fun vs H Q E h => ?_) (fun cdv A outer s H vs Q E hr h => ?_)
  · obtain ⟨a, b, N, M, rfl, _⟩ := h
    rfl
  · obtain ⟨a, b, N, M, rfl, ⟨dx, p, ha, hp⟩, ⟨dy, r, hb, hr2⟩, l1, l2, q⟩ := h
    refine ⟨_, (pss_cons (ps_setLc (i := 2) (own := [("name", 4)]) (g := gName 4) (tt := tTest (tOp (rIn K true) (tVar 4) (tFld K (tVar 1) "turned"))) (by rfl) sc_names_apart.nd rfl rfl (sw_true rfl rfl rfl (by decide +kernel)) (pi_tup (pe_fld (pv 0) rfl)) (blkOk_by (own := [("name", 4)]) (N := N_names_apart) (sc := defScope s_names_apart) (by decide +kernel)) (fun _ _ _ _ _ => pg_name (i := 4) sc_names_apart.nd rfl (Or.inl rfl)) (fun _ _ _ _ _ => (pts_one (pt_cmpR op_notIn_seq (pv 4) (pe_fld (pv 1) rfl) (by rfl)))) (fun _ _ _ _ _ => (pv 4)))
      (pss_cons (ps_setLc (i := 3) (own := [("name", 4)]) (g := gName 4) (tt := tTest (tOp (rIn K true) (tVar 4) (tFld K (tVar 0) "turned"))) (by rfl) sc_names_apart.nd rfl rfl (sw_true rfl rfl rfl (by decide +kernel)) (pi_tup (pe_fld (pv 1) rfl)) (blkOk_by (own := [("name", 4)]) (N := N_names_apart) (sc := defScope s_names_apart) (by decide +kernel)) (fun _ _ _ _ _ => pg_name (i := 4) sc_names_apart.nd rfl (Or.inl rfl)) (fun _ _ _ _ _ => (pts_one (pt_cmpR op_notIn_seq (pv 4) (pe_fld (pv 0) rfl) (by rfl)))) (fun _ _ _ _ _ => (pv 4)))
      (pss_one (ps_ret (pe_callB (cr_srtS rfl) (by rfl) T.n_sorted (by decide +kernel) (pa_cons (pe_callTy (cr_setS rfl) (by rfl) T.n_set (by decide +kernel) (pa_cons (pe_op op_cat (pv 2) (pv 3)) pa_nil)) pa_nil)))))), ?_⟩
    refine q_asgL (el_fmT (K := K) (fun z => !decide (z ∈ M)) V.str (ev_trd T (ev_var rfl) ha) hp (by omega) (fun _ => rfl) (fun z _ H3 e3 => et_test (ev_niStrT (ev_var rfl) (ev_trd T (ev_var rfl) (e3 _ _ hb)) (e3 _ _ hr2))) fun z _ _ H3 e3 => ev_var rfl) fun u H1 nu e1 hu => ?_
    refine q_asgL (el_fmT (K := K) (fun z => !decide (z ∈ N)) V.str (ev_trd T (ev_var rfl) (e1 _ _ hb)) (e1 _ _ hr2) (by omega) (fun _ => rfl) (fun z _ H3 e3 => et_test (ev_niStrT (ev_var rfl) (ev_trd T (ev_var rfl) (e3 _ _ (e1 _ _ ha))) (e3 _ _ (e1 _ _ hp)))) fun z _ _ H3 e3 => ev_var rfl) fun x H2 nx e2 hx => ?_
    have f1 : (N.filter fun z => !decide (z ∈ M)).length ≤ 40 := Nat.le_trans (List.length_filter_le _ _) l1
    have f2 : (M.filter fun z => !decide (z ∈ N)).length ≤ 40 := Nat.le_trans (List.length_filter_le _ _) l2
    have f3 : (sym N M).length ≤ 80 := by unfold sym; rw [List.length_append]; omega
    refine ⟨_, rfl, _, rfl, u, x, _, _, rfl, rfl, e2 _ _ hu, hx, (by rw [List.length_map, List.length_map]; exact sz_of (by omega)), fun l nl => ?_⟩
    refine ⟨l, sym N M, rfl, sq_of (by rw [upd_same]; unfold sym; rw [List.map_append]), by omega, fun t nt => ⟨t, putL (sym N M), rfl, upd_same, putL_nd _, by have := putL_len (sym N M); omega, fun ss o pm so no => ?_⟩⟩
    exact q ss (srt_ord pm so) o _ (fresh_back (((e1.trans e2).trans (Ex.new nl)).trans (Ex.new nt)) no) ((((e1.trans e2).trans (Ex.new nl)).trans (Ex.new nt)).trans (Ex.new no)) upd_same
theorem ord_self {L N : List Str} (od : Ord L N) : Ord N N := ⟨od.pw, od.nd, fun _ => Iff.rfl⟩
theorem ord_len {L N : List Str} (nd : L.Nodup) (od : Ord L N) : N.length = L.length := Nat.le_antisymm (perm_len_le od.nd fun x hx => (od.mem x).mp hx) (perm_len_le nd fun x hx => (od.mem x).mpr hx)
theorem ord_nil : Ord [] [] := ⟨.nil, .nil, fun _ => Iff.rfl⟩
/-- what comes of a turning of the names of L -/
structure TnR (C CT : Addr) (L : List Str) (H : Hp) (Q : VK) (E : XK) : Prop where
  many : ∀ R, Ord L R → 12 < R.length → ∀ H' d, Ex H H' → H' d = some (.xd [("limit", .int 12)]) → E (.ref CT) (some d) H'
  good : ∀ R, Ord L R → R.length ≤ 12 → ∀ x H', Ex H H' → TnAt C H' x R → Q (.ref x) H'
theorem TnR.mono {C CT : Addr} {L : List Str} {H H1 : Hp} {Q : VK} {E : XK} (m : TnR C CT L H Q E) (e : Ex H H1) : TnR C CT L H1 Q E :=
  ⟨fun R od b H' d x y => m.many R od b H' d (e.trans x) y, fun R od s x H' y t => m.good R od s x H' (e.trans y) t⟩
theorem TnR.mk_ {C CB CT : Addr} {L L' : List Str} {H : Hp} {Q : VK} {E : XK} (m : TnR C CT L H Q E) (nm : ∀ z ∈ L, isName z = true) (e : ∀ z, z ∈ L' ↔ z ∈ L) : MkT C CB CT L' H Q E where
  bad pre z post eL yes no := absurd (nm z ((e z).mp (by rw [eL]; simp))) (by rw [no]; decide)
  many _ N od big H' d ex hd := m.many N (od.cong e) big H' d ex hd
  good _ N od small H' x ex t := m.good N (od.cong e) small x H' ex t
/-- an operator of two turnings: f of the two rows of names -/
def spT2 (C CT : Addr) (f : List Str → List Str → List Str) : Sp := fun vs H Q E => ∃ (a b : Addr) (N M : List Str), vs = [.ref a, .ref b] ∧ TnAt C H a N ∧ TnAt C H b M ∧ N.length ≤ 12 ∧ M.length ≤ 12 ∧ (∀ z ∈ N, isName z = true) ∧ (∀ z ∈ M, isName z = true) ∧ TnR C CT (f N M) H Q E
theorem ok_Turning_xor (T : Txt P K mg) : FnOk P w K mg base (L2N.CX P w) 8 T.f_Turning_xor T.d_Turning_xor ["self", "other"] (spT2 T.C_Turning T.C_TooMany sym) := by
  refine T.F_Turning_xor.okN sc_Turning_xor (fun vs H Q E h => ?_) (fun cdv A outer s H vs Q E hr h => ?_)
  · obtain ⟨a, b, N, M, rfl, _⟩ := h
    rfl
  · obtain ⟨a, b, N, M, rfl, ta, tb, l1, l2, n1, n2, go⟩ := h
    refine ⟨_, (pss_cons (ps_set (i := 2) sc_Turning_xor.nd rfl (.inl rfl) (pe_call (ok_names_apart T) (hr.mono (by decide)) rfl T.g_names_apart T.F_names_apart.kp T.b_names_apart .nil pass0 (pa_cons (pv 0) (pa_cons (pv 1) pa_nil))))
      (pss_one (ps_ret (pe_makeS (mkTn T) (okR_Turning_init T) (hr.mono (by decide)) rfl T.g_Turning (L2N.passes_call (L2N.takes_of rfl rfl rfl rfl) (fun _ _ _ _ h => h)) (pv 2))))), ?_⟩
    obtain ⟨R, od⟩ := ord_any (sym N M)
    refine ⟨_, rfl, _, rfl, a, b, N, M, rfl, ta, tb, by omega, by omega, fun R' od' u H1 nu e1 hu => ?_⟩
    rw [od'.uniq od fun _ => Iff.rfl] at hu
    have nmS : ∀ z ∈ sym N M, isName z = true := fun z hz => (sym_sub hz).elim (n1 z) (n2 z)
    have nm : ∀ z ∈ R, isName z = true := fun z hz => nmS z ((od.mem z).mp hz)
    have lenR : R.length ≤ 24 := by
      have q := perm_len_le od.nd fun z hz => (od.mem z).mp hz
      have f1 := List.length_filter_le (fun z => !decide (z ∈ M)) N
      have f2 := List.length_filter_le (fun z => !decide (z ∈ N)) M
      unfold sym at q
      rw [List.length_append] at q
      omega
    exact ⟨_, rfl, mkTS_at (by omega) (fun z hz => (name_txt (nm z hz)).mono (by decide)) e1 (.inr (SqL.of hu)) (go.mk_ nmS od.mem)⟩
end
section
open Evl
/-- a list somewhere -/
def EvLs (te : TE) (σ : L2.St) (H : Hp) (xs : List V) : Prop := ∀ H1, Ex H H1 → ∀ Q : VK, (∀ p H2, Ex H1 H2 → H2 p = some (.lst xs) → Q (.ref p) H2) → te σ H1 Q
theorem els_new {te : TE} {σ : L2.St} {H : Hp} {xs : List V} (h : EvL te σ H xs) : EvLs te σ H xs := fun H1 e1 Q q => h H1 e1 Q fun p H2 _ e2 hp => q p H2 e2 hp
theorem els_at {te : TE} {σ : L2.St} {H : Hp} {xs : List V} {p : Addr} (h : Ev te σ H (.ref p)) (hp : H p = some (.lst xs)) : EvLs te σ H xs := fun H1 e1 Q q => h H1 e1 Q fun H2 e2 => q p H2 e2 (e2 _ _ (e1 _ _ hp))
theorem el_cat {ta tb : TE} {σ : L2.St} {H : Hp} {xs ys : List V} (h1 : EvLs ta σ H xs) (h2 : EvLs tb σ H ys) (len : xs.length + ys.length ≤ 100000) : EvL (tOp rCat ta tb) σ H (xs ++ ys) := fun H1 e1 Q q =>
  h1 H1 e1 _ fun p H2 e2 hp => h2 H2 (e1.trans e2) _ fun r H3 e3 hr => ⟨p, r, xs, ys, rfl, rfl, e3 _ _ hp, hr, sz_of len, fun l nl => q l _ (fresh_back (e2.trans e3) nl) ((e2.trans e3).trans (Ex.new nl)) upd_same⟩
end
section
open Evl
theorem same3 {H : Hp} {n : Nat} {p p' : Addr} {a b c a' b' c' : V} (hp : H p = some (.tup [a, b, c])) (hp' : H p' = some (.tup [a', b', c'])) (sa : SameV H n a a') (sb : SameV H n b b') (sc : SameV H n c c') : SameV H (n + 1) (.ref p) (.ref p') :=
  .tup hp hp' rfl (show 3 ≤ 100 by decide) fun i u v hu hv => by
    match i, hu, hv with
    | 0, hu, hv => cases hu; cases hv; exact sa
    | 1, hu, hv => cases hu; cases hv; exact sb
    | 2, hu, hv => cases hu; cases hv; exact sc
/-- what _law_joined and _law_joined_due give; R the names in order -/
inductive Jt (H : Hp) (R : List Str) : V → Prop
  | mny (p : Addr) : 12 < R.length → H p = some (.tup [.str "many", .int 12, .bl true]) → Jt H R (.ref p)
  | trn (p q : Addr) : R.length ≤ 12 → H p = some (.tup [.str "turning", .ref q, .bl true]) → H q = some (.tup (R.map V.str)) → Jt H R (.ref p)
theorem Jt.mono {H H' : Hp} {R : List Str} {x : V} (t : Jt H R x) (e : Ex H H') : Jt H' R x := by
  cases t with
  | mny p b c => exact .mny p b (e _ _ c)
  | trn p q b c d => exact .trn p q b (e _ _ c) (e _ _ d)
theorem same_jt {R : List Str} {H : Hp} {x y : V} (tx : Jt H R x) (ty : Jt H R y) : SameV H 2 x y := by
  cases tx with
  | mny p b c => cases ty with
    | mny p' b' c' => exact same3 c c' (.flat rfl) (.flat rfl) (.flat rfl)
    | trn p' q' b' => omega
  | trn p q b c d => cases ty with
    | mny p' b' c' => omega
    | trn p' q' b' c' d' => exact same3 c c' (.flat rfl) (.txtT d d' (by omega)) (.flat rfl)
theorem ty_turning (T : Txt P K mg) {H : Hp} {x dx : Addr} {fs : List (Str × V)} (h : H x = some (.ins T.C_Turning dx fs)) : TyX K H (.ref x) (.ref T.C_Turning) := .base (.ins h T.cl_Turning T.ins_Turning.ha T.ins_Turning.hn T.ins_Turning.htk T.ins_Turning.hm)
/-- isinstance(o, Turning) of a turning -/
theorem ev_isTn (T : Txt P K mg) {σ : L2.St} {H : Hp} {te : TE} {a dx : Addr} {fs : List (Str × V)} (h : Ev te σ H (.ref a)) (hx : H a = some (.ins T.C_Turning dx fs)) : Ev (tCB (rIsi K) (tCons te (tCons (tC (.ref T.C_Turning)) tNil))) σ H (.bl true) :=
  ev_cb (ea_cons h (ea_cons ev_c ea_nil)) fun H1 e Q q => ⟨.ref a, .ref T.C_Turning, .ref T.C_Turning, .ref T.C_Turning, true, rfl, .own _, ty_turning T (e _ _ hx), T.ins_Turning.me, q H1 (Ex.refl H1)⟩
theorem el_sortV {σ : L2.St} {H : Hp} {te : TE} {L N : List Str} {E : XK} (h : EvLs te σ H (L.map V.str)) (few : L.length ≤ 40) (od : Ord L N) : EvL (tCall spSorted [] E (tCons te tNil)) σ H (N.map V.str) := fun H1 e1 Q q =>
  h H1 e1 _ fun p H2 e2 hp => ⟨p, L, rfl, hp, few, fun N' od' r H3 nr e3 hr => by
    rw [od'.uniq od fun _ => Iff.rfl] at hr
    exact q r H3 (fresh_back e2 nr) (e2.trans e3) hr⟩
theorem tn_var {C : Addr} {σ : L2.St} {H : Hp} {te : TE} {a : Addr} {N : List Str} (h : Ev te σ H (.ref a)) (t : TnAt C H a N) : EvTn C te σ H N := fun H1 e1 Q q => h H1 e1 Q fun H2 e2 => q a H2 e2 ((t.mono e1).mono e2)
/-- an operator of two turnings, few names -/
theorem en_T2 {E : XK} {C CT : Addr} {f : List Str → List Str → List Str} {σ : L2.St} {H : Hp} {ta tb : TE} {N M R : List Str} (h1 : EvTn C ta σ H N) (h2 : EvTn C tb σ H M) (l1 : N.length ≤ 12) (l2 : M.length ≤ 12) (n1 : ∀ z ∈ N, isName z = true) (n2 : ∀ z ∈ M, isName z = true) (od : Ord (f N M) R) (small : R.length ≤ 12) :
    EvTn C (tOp (rOO C (spT2 C CT f) E) ta tb) σ H R := fun H1 e1 Q q => h1 H1 e1 _ fun a H2 e2 ta => h2 H2 (e1.trans e2) _ fun b H3 e3 tb => by
  have ta := ta.mono e3
  obtain ⟨dx, p, ha, _⟩ := id ta
  obtain ⟨dy, r, hb, _⟩ := id tb
  exact ⟨a, dx, _, b, dy, _, rfl, rfl, ha, hb, a, b, N, M, rfl, ta, tb, l1, l2, n1, n2, ⟨fun R' od' big => by rw [od'.uniq od fun _ => Iff.rfl] at big; omega, fun R' od' _ x H4 e4 t => by
    rw [od'.uniq od fun _ => Iff.rfl] at t
    exact q x H4 ((e2.trans e3).trans e4) t⟩⟩
/-- _law_turning(names) -/
def spTng (C : Addr) : Sp := fun vs H Q _ => ∃ (l : Addr) (L N : List Str), vs = [.ref l] ∧ H l = some (.lst (L.map V.str)) ∧ L.Nodup ∧ L.length ≤ 12 ∧ (∀ z ∈ L, isName z = true) ∧ Ord L N ∧ ∀ x H', Ex H H' → TnAt C H' x N → Q (.ref x) H'
theorem ok__law_turning (T : Txt P K mg) : FnOk P w K mg base CX0 10 T.f__law_turning T.d__law_turning ["_law_names_here"] (spTng T.C_Turning) := by
  refine T.F__law_turning.ok sc__law_turning (fun vs H Q E h => ?_) (fun cdv A outer s H vs Q E hr h => ?_)
  · obtain ⟨l, L, N, rfl, _⟩ := h
    rfl
  · obtain ⟨l, L, N, rfl, hl, nd, few, nm, od, q⟩ := h
    refine ⟨_, (pss_cons (ps_set (i := 1) sc__law_turning.nd rfl (.inl rfl) (pe_makeR0 (mkTn T) (okR_Turning_init T) (hr.mono (by decide)) rfl T.g_Turning passN0))
      (pss_cons (ps_for PassesOwn.never rfl (pi_list (pv 0)) (pg_name (i := 2) sc__law_turning.nd rfl (.inl rfl)) (pss_one (ps_set (i := 1) sc__law_turning.nd rfl (.inl rfl) (pe_op (op_OO ⟨T.om_Turning, T.m_Turning_xor, T.i_Turning_xor⟩ (ok_Turning_xor T) (hr.mono (by decide)) T.b_Turning_xor passN0) (pv 1) (StX.pe_makeR (mkTn T) (okR_Turning_init T) (hr.mono (by decide)) rfl T.g_Turning passN0 (pa_cons (pv 2) pa_nil))))))
      (pss_one (ps_ret (pv 1))))), ?_⟩
    refine q_asgT (en_make (L := []) (N := []) (by show 0 ≤ 40; decide) (fun z hz => by cases hz) ord_nil (by show 0 ≤ 12; decide) ea_nil) fun x0 H1 e1 t0 => ?_
    refine q_forLn (K := K) (a := l) (xs := L.map V.str) (j := 2) (ev_var rfl) (sq_of (e1 _ _ hl)) (fun i σ H' => ∃ (x : Addr) (v2 : Option V) (M : List Str), σ = [some (V.ref l), some (.ref x), v2] ∧ Ex H H' ∧ TnAt T.C_Turning H' x M ∧ Ord (L.take i) M)
      (fun H2 e2 => ⟨x0, none, [], rfl, e1.trans e2, t0.mono e2, by rw [List.take_zero]; exact ord_nil⟩) (fun i σ H' _ ⟨_, _, _, _, e, _⟩ => sq_of (e _ _ hl)) ?_ ?_
    · rintro i y σ H2 hi ⟨x, v2, M, rfl, e2, t, odM⟩
      obtain ⟨z, hz, rfl⟩ := pick_str hi
      have zL := List.mem_of_getElem? hz
      have lt := (List.getElem?_eq_some_iff.mp hz).1
      have zn := nm z zL
      have ndi : (L.take (i + 1)).Nodup := nd.sublist (List.take_sublist _ _)
      have tk : L.take (i + 1) = L.take i ++ [z] := by rw [List.take_add_one, hz]; rfl
      have fr : z ∉ L.take i := fun m => by
        rw [tk] at ndi
        exact (List.nodup_append.mp ndi).2.2 z m z List.mem_cons_self rfl
      obtain ⟨R, odR⟩ := ord_any (L.take (i + 1))
      have odX : Ord (sym M [z]) R := odR.cong fun y => by
        rw [sym_mem, tk, List.mem_append, List.mem_singleton, odM.mem]
        by_cases c : y = z
        · subst c; simp [fr]
        · simp [c]
      have lenR : R.length ≤ 12 := by rw [ord_len ndi odR, List.length_take]; omega
      have lenM : M.length ≤ 12 := by rw [ord_len (nd.sublist (List.take_sublist _ _)) odM, List.length_take]; omega
      refine (en_T2 (f := sym) (tn_var (ev_var rfl) t) (en_make (L := [z]) (N := [z]) (by show 1 ≤ 40; decide) (fun y hy => by rw [List.mem_singleton.mp hy]; exact zn) (ord_one z) (by show 1 ≤ 12; decide) (ea_cons (ev_var rfl) ea_nil)) lenM (by show 1 ≤ 12; decide) (fun y hy => nm y (List.mem_of_mem_take ((odM.mem y).mp hy))) (fun y hy => by rw [List.mem_singleton.mp hy]; exact zn) odX lenR) H2 (Ex.refl H2) _ fun x2 H3 e3 t3 => ?_
      exact ⟨x2, _, R, rfl, e2.trans e3, t3, odR⟩
    · rintro σ H2 ⟨x, v2, M, rfl, e2, t, odM⟩
      rw [List.length_map, List.take_length] at odM
      rw [odM.uniq od fun _ => Iff.rfl] at t
      exact ⟨_, rfl, q x H2 e2 t⟩
theorem en_turning {C : Addr} {σ : L2.St} {H : Hp} {te : TE} {l : Addr} {L N : List Str} {E : XK} (h : Ev te σ H (.ref l)) (hl : H l = some (.lst (L.map V.str))) (nd : L.Nodup) (few : L.length ≤ 12) (nm : ∀ z ∈ L, isName z = true) (od : Ord L N) : EvTn C (tCall (spTng C) [] E (tCons te tNil)) σ H N := fun H1 e1 Q q =>
  h H1 e1 _ fun H2 e2 => ⟨l, L, N, rfl, e2 _ _ (e1 _ _ hl), nd, few, nm, od, fun x H3 e3 t => q x H3 (e2.trans e3) t⟩
end
section
open Evl
/-- up to 12 names -/
def NamesOk (D : List Str) : Prop := D.length ≤ 12 ∧ ∀ z ∈ D, isName z = true
/-- a turning's text -/
def ttext (D : List Str) : Str := if D = [] then "0" else Txt.join " " D
def spTIter (C : Addr) : Sp := fun vs H Q _ => ∃ (a : Addr) (D : List Str), vs = [.ref a] ∧ TnAt C H a D ∧ ∀ it t H', Ex H H' → H it = none → H' it = some (TItO t it 0) → H' t = some (.tup (D.map V.str)) → Q (.ref it) H'
theorem ok_Turning_iter (T : Txt P K mg) : FnOk P w K mg base CX0 1 T.f_Turning_iter T.d_Turning_iter ["self"] (spTIter T.C_Turning) := by
  refine T.F_Turning_iter.ok sc_Turning_iter (fun vs H Q E h => ?_) (fun cdv A outer s H vs Q E hr h => ?_)
  · obtain ⟨a, D, rfl, _⟩ := h
    rfl
  · obtain ⟨a, D, rfl, ⟨dx, p, ha, hp⟩, q⟩ := h
    refine ⟨_, (pss_one (ps_ret (pe_callB call_iterT (by rfl) T.n_iter (by decide +kernel) (pa_cons (pe_fld (pv 0) rfl) pa_nil)))), ?_⟩
    refine ⟨_, rfl, a, T.C_Turning, dx, _, .ref p, rfl, ha, T.cl_Turning, T.na_Turning_turned, rfl, p, _, rfl, st_of hp, fun it ni => q it p _ (Ex.new ni) ni upd_same (by rw [upd_ne (ne_of_none hp ni)]; exact hp)⟩
def spTLen (C : Addr) : Sp := fun vs H Q _ => ∃ (a : Addr) (D : List Str), vs = [.ref a] ∧ TnAt C H a D ∧ ∀ H', Ex H H' → Q (.int (D.length : Int)) H'
theorem ok_Turning_len (T : Txt P K mg) : FnOk P w K mg base CX0 1 T.f_Turning_len T.d_Turning_len ["self"] (spTLen T.C_Turning) := by
  refine T.F_Turning_len.ok sc_Turning_len (fun vs H Q E h => ?_) (fun cdv A outer s H vs Q E hr h => ?_)
  · obtain ⟨a, D, rfl, _⟩ := h
    rfl
  · obtain ⟨a, D, rfl, ⟨dx, p, ha, hp⟩, q⟩ := h
    refine ⟨_, (pss_one (ps_ret (pe_callB call_len_seq (by rfl) T.n_len PySem.boot_len (pa_cons (pe_fld (pv 0) rfl) pa_nil)))), ?_⟩
    refine ⟨_, rfl, a, T.C_Turning, dx, _, .ref p, rfl, ha, T.cl_Turning, T.na_Turning_turned, rfl, p, _, rfl, .inr (st_of hp), ?_⟩
    rw [List.length_map]
    exact q H (Ex.refl H)
def spTIn (C : Addr) : Sp := fun vs H Q _ => ∃ (a : Addr) (D : List Str) (z : Str), vs = [.ref a, .str z] ∧ TnAt C H a D ∧ ∀ H', Ex H H' → Q (.bl (decide (z ∈ D))) H'
theorem ok_Turning_contains (T : Txt P K mg) : FnOk P w K mg base CX0 1 T.f_Turning_contains T.d_Turning_contains ["self", "x"] (spTIn T.C_Turning) := by
  refine T.F_Turning_contains.ok sc_Turning_contains (fun vs H Q E h => ?_) (fun cdv A outer s H vs Q E hr h => ?_)
  · obtain ⟨a, D, z, rfl, _⟩ := h
    rfl
  · obtain ⟨a, D, z, rfl, ⟨dx, p, ha, hp⟩, q⟩ := h
    refine ⟨_, (pss_one (ps_ret (pe_cmpR op_in_seq (pv 1) (pe_fld (pv 0) rfl) (by rfl)))), ?_⟩
    exact s_ret (ev_inStrT (ev_var rfl) (ev_trd T (ev_var rfl) ha) hp) fun H1 e1 => q H1 e1
theorem lt_units {n k : Nat} (h : n + 16 * k + 200 < cLine) : n + 64 < cLine := by omega
def spTEq (C : Addr) : Sp := fun vs H Q _ => ∃ (a b : Addr) (D F : List Str), vs = [.ref a, .ref b] ∧ TnAt C H a D ∧ TnAt C H b F ∧ Asc D ∧ Asc F ∧ ∀ H', Ex H H' → Q (.bl (decide (D = F))) H'
theorem ok_Turning_eq (T : Txt P K mg) : FnOk P w K mg base CX0 1 T.f_Turning_eq T.d_Turning_eq ["self", "other"] (spTEq T.C_Turning) := by
  refine T.F_Turning_eq.ok sc_Turning_eq (fun vs H Q E h => ?_) (fun cdv A outer s H vs Q E hr h => ?_)
  · obtain ⟨a, b, D, F, rfl, _⟩ := h
    rfl
  · obtain ⟨a, b, D, F, rfl, ⟨dx, p, ha, hp⟩, ⟨dy, r, hb, hr2⟩, l1, l2, q⟩ := h
    have hu := hr.un
    refine ⟨_, (pss_one (ps_ret (pe_and (pe_callB call_isi (by rfl) T.n_isinstance (by decide +kernel) (pa_cons (pv 1) (pa_cons (pe_glob (v := .ref T.C_Turning) rfl T.g_Turning rfl) pa_nil))) (pe_one (pe_cmpR (op_eqTT (by exact lt_units (k := 0) hu)) (pe_fld (pv 0) rfl) (pe_fld (pv 1) rfl) (nomark _)))))), ?_⟩
    refine s_ret (v := .bl (decide (D = F))) (ev_is (ev_andV (a := true) (ev_isTn T (ev_var rfl) hb) (fun _ => ev_op (ev_trd T (ev_var rfl) ha) (ev_trd T (ev_var rfl) hb) (fun H1 e1 Q q => ⟨p, r, D, F, rfl, rfl, st_of (e1 _ _ hp), st_of (e1 _ _ hr2), l1, l2, q H1 (Ex.refl H1)⟩))) (by simp)) fun H1 e1 => q H1 e1
/-- list(c) -/
theorem el_listT {C : Addr} {σ : L2.St} {H : Hp} {te : TE} {a : Addr} {D : List Str} (h : Ev te σ H (.ref a)) (c : TnAt C H a D) (few : D.length < 1000) : EvL (tCB (rListLt C (spTIter C) (spTLen C)) (tCons te tNil)) σ H (D.map V.str) := fun H1 e Q q => h H1 e _ fun H2 e2 => by
  have c2 := c.mono (e.trans e2)
  obtain ⟨dx, p, ha, hp⟩ := id c2
  refine ⟨a, dx, _, rfl, ha, fun qa nq => ⟨a, D, rfl, c2.mono (Ex.new nq), fun it t H3 e3 ni hit ht => ⟨it, t, _, rfl, hit, ht, e3 _ _ (Ex.new nq _ _ ha), e3 _ _ upd_same, by rw [List.length_map]; exact few, ⟨a, D, rfl, (c2.mono (Ex.new nq)).mono e3, fun H4 e4 => ⟨⟨D.length, rfl, few⟩, e4 _ _ hit, e4 _ _ ht, e4 _ _ (e3 _ _ upd_same), q qa _ (fresh_back e2 nq) (fun c o hc => ?_) upd_same⟩⟩⟩⟩⟩
  have hc2 := e2 _ _ hc
  have n1 : c ≠ qa := ne_of_none hc2 nq
  have n2 : c ≠ it := ne_of_none (Ex.new nq _ _ hc2) ni
  rw [upd_ne n1, upd_ne n2]
  exact e4 _ _ (e3 _ _ (Ex.new nq _ _ hc2))
/-- len(c) -/
theorem ev_lenT {C : Addr} {σ : L2.St} {H : Hp} {te : TE} {a : Addr} {D : List Str} {E : XK} (h : Ev te σ H (.ref a)) (c : TnAt C H a D) (few : D.length < 1000) : Ev (tCB (rLenO C (spTLen C) E) (tCons te tNil)) σ H (.int (D.length : Int)) :=
  ev_cb (ea_cons h ea_nil) fun H1 e Q q => by
    have c2 := c.mono e
    obtain ⟨dx, p, ha, hp⟩ := id c2
    exact ⟨a, dx, _, rfl, ha, a, D, rfl, c2, fun H2 e2 => ⟨D.length, rfl, few, q H2 e2⟩⟩
theorem ev_inT {C : Addr} {σ : L2.St} {H : Hp} {ta tb : TE} {a : Addr} {z : Str} {D : List Str} {E : XK} (h1 : Ev ta σ H (.str z)) (h2 : Ev tb σ H (.ref a)) (c : TnAt C H a D) : Ev (tOp (rInO C false (spTIn C) E) ta tb) σ H (.bl (decide (z ∈ D))) :=
  ev_op h1 h2 fun H1 e1 Q q => by
    have c := c.mono e1
    obtain ⟨dx, p, ha, hp⟩ := id c
    exact ⟨a, dx, _, rfl, ha, a, D, z, rfl, c, fun H2 e2 => ⟨_, rfl, q H2 e2⟩⟩
theorem sum_le : ∀ {L : List Str} {k : Nat}, (∀ z ∈ L, z.length ≤ k) → (L.map (·.length)).sum ≤ L.length * k
  | [], _, _ => by simp
  | z :: r, k, h => by
    have a := h z List.mem_cons_self
    have b := sum_le (L := r) (k := k) fun y hy => h y (List.mem_cons_of_mem _ hy)
    simp only [List.map_cons, List.sum_cons, List.length_cons]
    have e : (r.length + 1) * k = r.length * k + k := Nat.succ_mul _ _
    omega
/-- sep.join(texts) -/
theorem ev_join {σ : L2.St} {H : Hp} {te : TE} {sep : Str} {p : Addr} {L : List Str} (h : Ev te σ H (.ref p)) (hp : SqL K H p (L.map V.str) ∨ SqT K H p (L.map V.str)) (few : L.length ≤ 100) (short : ∀ z ∈ L, z.cps.size ≤ 50) (s5 : sep.length ≤ 5) :
    Ev (tBM K "str" (fun x xs H Q => ∃ a p, ∃ ys : List Str, x = .str a ∧ xs = [.ref p] ∧ (SqL K H p (ys.map V.str) ∨ SqT K H p (ys.map V.str)) ∧ (ys.map (·.length)).sum + ys.length * a.length ≤ 16777216 ∧ Q (.str (Txt.join a ys)) H) (tC (.str sep)) (tCons te tNil)) σ H (.str (Txt.join sep L)) := fun H1 e1 Q q =>
  ⟨rfl, h H1 e1 _ fun H2 e2 => ⟨sep, p, L, rfl, rfl, hp.elim (fun z => .inl (ex_l (e1.trans e2) z)) (fun z => .inr (ex_t (e1.trans e2) z)), by
    have a := sum_le (L := L) (k := 50) short
    have b : L.length * sep.length ≤ 100 * 5 := Nat.mul_le_mul few s5
    omega, q H2 e2⟩⟩
def spTStr (C : Addr) : Sp := fun vs H Q _ => ∃ (a : Addr) (D : List Str), vs = [.ref a] ∧ TnAt C H a D ∧ NamesOk D ∧ ∀ H', Ex H H' → Q (.str (ttext D)) H'
theorem ok_Turning_str (T : Txt P K mg) : FnOk P w K mg base CX0 1 T.f_Turning_str T.d_Turning_str ["self"] (spTStr T.C_Turning) := by
  refine T.F_Turning_str.ok sc_Turning_str (fun vs H Q E h => ?_) (fun cdv A outer s H vs Q E hr h => ?_)
  · obtain ⟨a, D, rfl, _⟩ := h
    rfl
  · obtain ⟨a, D, rfl, ⟨dx, p, ha, hp⟩, ⟨few, lit⟩, q⟩ := h
    refine ⟨_, (pss_cons (ps_if (pt_not (pt_truth (pe_fld (pv 0) rfl) (by intro _; rfl))) (pss_one (ps_ret pe_str)) pss_nil)
      (pss_one (ps_ret (pe_bm PySem.F.plainAttrs_str PySem.F.slot_str_join PySem.F.type_str_join mt_join pe_str (pa_cons (pe_fld (pv 0) rfl) pa_nil))))), ?_⟩
    have tr : EvT (fun σ H Q => tFld K (tVar 0) "turned" σ H fun x H' => ∃ k, TruV K x H' k ∧ Q k H') [some (V.ref a)] H (!(D.map V.str).isEmpty) := fun H1 e1 Q q => (ev_trd T (ev_var rfl) ha) H1 e1 _ fun H2 e2 => ⟨_, .inr (.inl ⟨_, st_of (e2 _ _ (e1 _ _ hp)), rfl⟩), q H2 e2⟩
    refine q_when (b := (D.map V.str).isEmpty) (et_is (et_not tr) (by simp)) (fun c H1 e1 => ?_) (fun c H1 e1 => ?_)
    · have e : D = [] := by simpa using c
      subst e
      exact s_ret ev_c fun H2 e2 => q H2 (e1.trans e2)
    · have ne : D ≠ [] := by intro e; rw [e] at c; cases c
      have z := ev_join (K := K) (sep := " ") (ev_trd T (te := tVar 0) (σ := [some (V.ref a)]) (ev_var rfl) (e1 _ _ ha)) (.inr (st_of (e1 _ _ hp))) (by omega) (fun z m => Nat.le_trans (name_txt (lit z m)).1 (by decide)) (by decide)
      refine s_ret z fun H2 e2 => ?_
      have e : ttext D = Txt.join " " D := if_neg ne
      rw [← e]
      exact q H2 (e1.trans e2)
/-- str(c) -/
theorem ev_strT {C : Addr} {σ : L2.St} {H : Hp} {te : TE} {a : Addr} {D : List Str} {E : XK} (h : Ev te σ H (.ref a)) (c : TnAt C H a D) (ok : NamesOk D) : Ev (tCB (rStrO C (spTStr C) E) (tCons te tNil)) σ H (.str (ttext D)) :=
  ev_cb (ea_cons h ea_nil) fun H1 e Q q => by
    have c2 := c.mono e
    obtain ⟨dx, p, ha, hp⟩ := id c2
    exact ⟨a, dx, _, rfl, ha, a, D, rfl, c2, ok, fun H2 e2 => ⟨_, rfl, q H2 e2⟩⟩
/-- t[x] -/
def spTGet (C CB : Addr) : Sp := fun vs H Q E => ∃ (a : Addr) (D : List Str) (z : Str), vs = [.ref a, .str z] ∧ TnAt C H a D ∧ z.cps.size ≤ 50 ∧ (∀ c ∈ z.cps.toList, c < 128) ∧ (isName z = true → ∀ H', Ex H H' → Q (.bl (decide (z ∈ D))) H') ∧
  (isName z = false → ∀ H' d, Ex H H' → H' d = some (.xd [("text", .str z)]) → E (.ref CB) (some d) H')
theorem ok_Turning_getitem (T : Txt P K mg) : FnOk P w K mg base (L2N.CX P w) 4 T.f_Turning_getitem T.d_Turning_getitem ["self", "at"] (spTGet T.C_Turning T.C_BadName) := by
  refine T.F_Turning_getitem.okN sc_Turning_getitem (fun vs H Q E h => ?_) (fun cdv A outer s H vs Q E hr h => ?_)
  · obtain ⟨a, D, z, rfl, _⟩ := h
    rfl
  · obtain ⟨a, D, z, rfl, ⟨dx, p, ha, hp⟩, hz, hc, good, bad⟩ := h
    refine ⟨_, (pss_cons (ps_expr (pe_call (ok_check_name T) (hr.mono (by decide)) rfl T.g_check_name T.F_check_name.kp T.b_check_name .nil (L2N.passes_call (L2N.takes_of rfl rfl rfl rfl) (fun _ _ _ _ h => h)) (pa_cons (pv 1) pa_nil)))
      (pss_one (ps_ret (pe_cmpR op_in_seq (pv 1) (pe_fld (pv 0) rfl) (by rfl))))), ?_⟩
    refine ⟨_, rfl, z, rfl, hz, hc, fun hn H1 e1 => ?_, bad⟩
    exact s_ret (ev_inStrT (ev_var rfl) (ev_trd T (ev_var rfl) (e1 _ _ ha)) (e1 _ _ hp)) fun H2 e2 => good hn H2 (e1.trans e2)
theorem getO (T : Txt P K mg) : GetO K T.C_Turning T.f_Turning_getitem := ⟨T.m_Turning_getitem, by
  obtain ⟨⟨_, _, _, _, _, _, _, _, _, _, lk, _⟩, _⟩ := T.F_Turning_getitem
  unfold PySem.W.fnIn
  rw [lk], T.i_Turning_getitem⟩
/-- t[x], x a name -/
theorem ev_getT {C CB : Addr} {σ : L2.St} {H : Hp} {ta tb : TE} {a : Addr} {z : Str} {D : List Str} (h1 : Ev ta σ H (.ref a)) (h2 : Ev tb σ H (.str z)) (c : TnAt C H a D) (nm : isName z = true) : Ev (tSubO C (spTGet C CB) E0 ta tb) σ H (.bl (decide (z ∈ D))) := by
  obtain ⟨dx, p, ha, hp⟩ := id c
  have tx := name_txt nm
  exact ev_subO h1 h2 ha fun H1 e1 Q q E => ⟨a, D, z, rfl, c.mono e1, Nat.le_trans tx.1 (by decide), tx.2, fun _ H2 e2 => q H2 e2, fun no => absurd nm (by rw [no]; decide)⟩
end
/-! ### what is no literal -/
theorem not_lit {z : Str} (hd : dash z = false) (h : isName z = false) : isLit z = false := by unfold isLit; rw [bare_no hd]; exact h
theorem not_name {z : Str} (h : ∀ _ : isName z = true, False) : isName z = false := by
  cases e : isName z with
  | false => rfl
  | true => exact (h e).elim
theorem dash_cons {z : Str} {c : Nat} {r : List Nat} (e : z.cps.toList = c :: r) (h : c ≠ 45) : dash z = false := by
  unfold dash dashL
  rw [e]
  exact beq_eq_false_iff_ne.mpr fun q => h (Option.some.inj q)
theorem name_head {z : Str} {c : Nat} {r : List Nat} (e : z.cps.toList = c :: r) (h : isName z = true) : ltr c = true := by
  obtain ⟨_, _, hd, _⟩ := name_len h
  rw [e] at hd
  exact hd
theorem ltr45 {c : Nat} (h : ltr c = true) : c ≠ 45 := fun e => by rw [e] at h; exact absurd h (by decide)
theorem barred_at {i c : Nat} (h : (" !\"#$&'()*+,./:;<=>?@ABCDEFGHIJKLMNOPQRSTUVWXYZ[\\]^_`{|}~\n" : Str).cps[i]? = some c) : lod c = false ∧ c ≠ 45 := by
  rw [← Array.getElem?_toList] at h
  have q : ∀ c ∈ (" !\"#$&'()*+,./:;<=>?@ABCDEFGHIJKLMNOPQRSTUVWXYZ[\\]^_`{|}~\n" : Str).cps.toList, lod c = false ∧ c ≠ 45 := by decide
  exact q c (List.mem_of_getElem? h)
/-- _law_bad(source, name) -/
def spBadL : Sp := fun vs H Q _ => ∃ (a l : Addr) (ns : List Int) (nm : Str), vs = [.ref a, .str nm] ∧ SrcL H a l ns ∧ isName nm = true ∧ ∀ (H' : Hp) (z : Str), isLit z = false → Txt8 20 z → SrcL H' a l ns → But a H H' → Q (.str z) H'
theorem ok__law_bad (T : Txt P K mg) : FnOk P w K mg base CX0 2 T.f__law_bad T.d__law_bad ["_law_source_here", "_law_name"] spBadL := by
  refine T.F__law_bad.ok sc__law_bad (fun vs H Q E h => ?_) (fun cdv A outer s H vs Q E hr h => ?_)
  · obtain ⟨a, l, ns, nm, rfl, _⟩ := h
    rfl
  · obtain ⟨a, l, ns, nm, rfl, S, hn, q⟩ := h
    refine ⟨_, (pss_cons (ps_set (i := 2) sc__law_bad.nd rfl (.inl rfl) pe_str)
      (pss_cons (ps_set (i := 3) sc__law_bad.nd rfl (.inl rfl) (pe_call (okL__law_take T) (hr.mono (by decide)) rfl T.g__law_take T.F__law_take.kp T.b__law_take .nil pass0 (pa_cons (pv 0) (pa_cons pe_int pa_nil))))
      (pss_cons (ps_if (pt_cmpR op_eq (pv 3) pe_int (nomark _)) (pss_one (ps_ret pe_str)) pss_nil)
      (pss_cons (ps_if (pt_cmpR op_eq (pv 3) pe_int (nomark _)) (pss_one (ps_ret pe_str)) pss_nil)
      (pss_cons (ps_if (pt_cmpR op_eq (pv 3) pe_int (nomark _)) (pss_one (ps_ret (pe_op op_add_str pe_str (pv 1)))) pss_nil)
      (pss_cons (ps_if (pt_cmpR op_eq (pv 3) pe_int (nomark _)) (pss_one (ps_ret (pe_op op_add_str (pv 1) (pe_slice sl_str pe_str (po_some (pe_op op_sub (pe_callB call_len_str (by rfl) T.n_len PySem.boot_len (pa_cons (pv 1) pa_nil)) pe_int)) po_none)))) pss_nil)
      (pss_cons (ps_if (pt_cmpR op_eq (pv 3) pe_int (nomark _)) (pss_one (ps_ret (pe_op op_add_str pe_str (pe_slice sl_str (pv 1) (po_some pe_int) po_none)))) pss_nil)
      (pss_cons (ps_set (i := 4) sc__law_bad.nd rfl (.inl rfl) (pe_call (okL__law_take T) (hr.mono (by decide)) rfl T.g__law_take T.F__law_take.kp T.b__law_take .nil pass0 (pa_cons (pv 0) (pa_cons (pe_op op_add pe_int (pe_callB call_len_str (by rfl) T.n_len PySem.boot_len (pa_cons (pv 1) pa_nil))) pa_nil))))
      (pss_one (ps_ret (pe_op op_add_str (pe_op op_add_str (pe_slice sl_str (pv 1) po_none (po_some (pv 4))) (pe_item_str (pv 2) (pe_call (okL__law_take T) (hr.mono (by decide)) rfl T.g__law_take T.F__law_take.kp T.b__law_take .nil pass0 (pa_cons (pv 0) (pa_cons pe_int pa_nil))) (fun _ _ => rfl))) (pe_slice sl_str (pv 1) (po_some (pv 4)) po_none)))))))))))), ?_⟩
    obtain ⟨l1, l8, lh, la⟩ := name_len hn
    have nt := name_txt hn
    have ncode := len_codes nm
    obtain ⟨c0, r0, hc0⟩ : ∃ c r, nm.cps.toList = c :: r := by
      cases e : nm.cps.toList with
      | nil => rw [e] at l1; simp at l1
      | cons c r => exact ⟨c, r, rfl⟩
    have lc0 := name_head hc0 hn
    refine ⟨.ref a, rfl, a, 6, l, ns, rfl, S, by decide, by decide, fun H1 st s0 s1 S1 B1 => ?_⟩
    refine ⟨_, rfl, rfl, _, rfl, ite2 (fun e => ?_) (fun e => ?_)⟩
    · exact q H1 "" (by decide) ⟨by decide, by decide⟩ S1 B1
    refine ⟨_, rfl, rfl, _, rfl, ite2 (fun e => ?_) (fun e => ?_)⟩
    · exact q H1 "-" (by decide) ⟨by decide, by decide⟩ S1 B1
    refine ⟨_, rfl, rfl, _, rfl, ite2 (fun e => ?_) (fun e => ?_)⟩
    · refine ⟨_, rfl, _, _, rfl, rfl, line_of ?_, q H1 _ ?_ ?_ S1 B1⟩
      · have h1 : ("--" : Str).length = 2 := by decide
        omega
      · have e2 : ("--" ++ nm : Str) = "-" ++ ("-" ++ nm) := str_eq (by rw [minus_codes, minus_codes, app_codes]; rfl)
        rw [e2]
        unfold isLit
        rw [bare_minus]
        exact not_name fun h => absurd (name_head (minus_codes nm) h) (by decide)
      · exact ((show Txt8 2 "--" from ⟨by decide, by decide⟩).app nt).mono (by decide)
    refine ⟨_, rfl, rfl, _, rfl, ite2 (fun e => ?_) (fun e => ?_)⟩
    · refine ⟨_, rfl, _, rfl, nm, rfl, line_of (by omega), _, _, rfl, rfl, _, rfl, _, rfl, line_of (by decide), _, _, rfl, rfl, line_of ?_, q H1 _ ?_ ?_ S1 B1⟩
      · have := len_codes (cutS "abcdefgh" (some ((nm.length : Int) - 1)) none); have e3 := congrArg List.length (cut_fr "abcdefgh" (i := (nm.length : Int) - 1) (by omega)); rw [List.length_drop] at e3
        have e8 : ("abcdefgh" : Str).cps.toList.length = 8 := by decide
        omega
      · have e1 := app_codes nm (cutS "abcdefgh" (some ((nm.length : Int) - 1)) none)
        rw [cut_fr "abcdefgh" (by omega), hc0] at e1
        refine not_lit (dash_cons e1 (ltr45 lc0)) (not_name fun h => ?_)
        obtain ⟨_, h8, _, _⟩ := name_len h
        rw [e1, List.cons_append, List.length_cons, List.length_append, List.length_drop] at h8
        have e8 : ("abcdefgh" : Str).cps.toList.length = 8 := by decide
        rw [hc0, List.length_cons] at ncode
        rw [e8] at h8
        rw [hc0, List.length_cons] at l8
        omega
      · exact (nt.app (Txt8.cut (show Txt8 8 "abcdefgh" from ⟨by decide, by decide⟩) _ _)).mono (by decide)
    refine ⟨_, rfl, rfl, _, rfl, ite2 (fun e => ?_) (fun e => ?_)⟩
    · refine ⟨_, rfl, 1, rfl, _, rfl, line_of (by omega), _, _, rfl, rfl, line_of ?_, q H1 _ ?_ ?_ S1 B1⟩
      · have := len_codes (cutS nm (some 1) none); have e3 := congrArg List.length (cut_fr nm (i := 1) (by decide)); rw [List.length_drop] at e3
        have h1 : ("7" : Str).length = 1 := by decide
        omega
      · have e1 : ("7" ++ cutS nm (some 1) none : Str).cps.toList = 55 :: (cutS nm (some 1) none).cps.toList := by rw [app_codes]; rfl
        exact not_lit (dash_cons e1 (by decide)) (not_name fun h => absurd (name_head e1 h) (by decide))
      · exact ((show Txt8 1 "7" from ⟨by decide, by decide⟩).app (Txt8.cut nt _ _)).mono (by decide)
    refine ⟨.ref a, rfl, _, rfl, nm, rfl, line_of (by omega), _, _, rfl, rfl, a, _, l, ns, rfl, S1, by omega, by omega, fun H2 at_ a0 a1 S2 B2 => ?_⟩
    refine ⟨_, rfl, _, rfl, _, rfl, _, rfl, line_of (by omega), _, rfl, .ref a, rfl, a, 58, l, ns, rfl, S2, by decide, by decide, fun H3 k k0 k1 S3 B3 => ?_⟩
    obtain ⟨c, hc, hl, tc⟩ := item_of (z := (" !\"#$&'()*+,./:;<=>?@ABCDEFGHIJKLMNOPQRSTUVWXYZ[\\]^_`{|}~\n" : Str)) k0 k1 (by decide) (by decide)
    obtain ⟨nl, n45⟩ := barred_at hc
    have t1 := Txt8.cut nt none (some at_)
    have t2 := Txt8.cut nt (some at_) none
    have q1 := t1.1
    have q2 := t2.1
    have w1 : (cutS nm none (some at_)).length = (cutS nm none (some at_)).cps.size := rfl
    have w2 : (cutS nm (some at_) none).length = (cutS nm (some at_) none).cps.size := rfl
    have w3 : (cutS nm none (some at_) ++ ⟨#[c]⟩ : Str).length ≤ 9 := (t1.app tc).1
    refine ⟨_, _, c, rfl, rfl, k0, by omega, hl, hc, _, _, rfl, rfl, line_of (by show _ + 1 ≤ _; omega), _, rfl, _, rfl, _, rfl, _, rfl, line_of (by omega), _, _, rfl, rfl, line_of (by omega), q H3 _ ?_ (((t1.app tc).app t2).mono (by decide)) S3 ((B1.trans B2).trans B3)⟩
    have e1 : (cutS nm none (some at_) ++ ⟨#[c]⟩ ++ cutS nm (some at_) none : Str).cps.toList = nm.cps.toList.take at_.toNat ++ [c] ++ nm.cps.toList.drop at_.toNat := by rw [app_codes, app_codes, cut_to nm a0, cut_fr nm a0] <;> rfl
    refine not_lit ?_ (not_name fun h => ?_)
    · cases hk : at_.toNat with
      | zero => rw [hk, List.take_zero] at e1; exact dash_cons e1 n45
      | succ n => rw [hk, hc0] at e1; exact dash_cons (r := List.take n r0 ++ [c] ++ List.drop n r0) e1 (ltr45 lc0)
    · obtain ⟨_, _, _, al⟩ := name_len h
      rw [e1, List.all_append, List.all_append] at al
      simp [nl] at al
section
open Evl
theorem len_is {L : List Str} {k : Int} (e : decide (V.int ((L.map V.str).length : Int) = V.int k) = true) : (L.length : Int) = k := by
  have z := V.int.inj (of_decide_eq_true e)
  rw [List.length_map] at z
  exact z
theorem len_not {L : List Str} {k : Int} (e : ¬ decide (V.int ((L.map V.str).length : Int) = V.int k) = true) : (L.length : Int) ≠ k := fun z => e (decide_eq_true (by rw [List.length_map, z]))
/-- _law_made(row): 0 to 4 texts or 13 -/
def spMade (C CB CT : Addr) : Sp := fun vs H Q E => ∃ (r : Addr) (L : List Str), vs = [.ref r] ∧ H r = some (.lst (L.map V.str)) ∧ (L.length ≤ 4 ∨ L.length = 13) ∧ (∀ z ∈ L, Txt8 20 z) ∧ MkT C CB CT L H Q E
theorem ok__law_made (T : Txt P K mg) : FnOk P w K mg base (L2N.CX P w) 8 T.f__law_made T.d__law_made ["_law_row"] (spMade T.C_Turning T.C_BadName T.C_TooMany) := by
  refine T.F__law_made.okN sc__law_made (fun vs H Q E h => ?_) (fun cdv A outer s H vs Q E hr h => ?_)
  · obtain ⟨r, L, rfl, _⟩ := h
    rfl
  · obtain ⟨r, L, rfl, hr0, few, txt, go⟩ := h
    refine ⟨_, (pss_cons (ps_if (pt_cmpR op_eq (pe_callB call_len_seq (by rfl) T.n_len PySem.boot_len (pa_cons (pv 0) pa_nil)) pe_int (nomark _)) (pss_one (ps_ret (pe_makeR0 (mkTn T) (okR_Turning_init T) (hr.mono (by decide)) rfl T.g_Turning (L2N.passes_call (L2N.takes_of rfl rfl rfl rfl) (fun _ _ _ _ h => h)) ))) pss_nil)
      (pss_cons (ps_if (pt_cmpR op_eq (pe_callB call_len_seq (by rfl) T.n_len PySem.boot_len (pa_cons (pv 0) pa_nil)) pe_int (nomark _)) (pss_one (ps_ret (StX.pe_makeR (mkTn T) (okR_Turning_init T) (hr.mono (by decide)) rfl T.g_Turning (L2N.passes_call (L2N.takes_of rfl rfl rfl rfl) (fun _ _ _ _ h => h))  (pa_cons (pe_ix ix_list (pv 0) pe_int (fun _ _ => rfl)) pa_nil)))) pss_nil)
      (pss_cons (ps_if (pt_cmpR op_eq (pe_callB call_len_seq (by rfl) T.n_len PySem.boot_len (pa_cons (pv 0) pa_nil)) pe_int (nomark _)) (pss_one (ps_ret (StX.pe_makeR (mkTn T) (okR_Turning_init T) (hr.mono (by decide)) rfl T.g_Turning (L2N.passes_call (L2N.takes_of rfl rfl rfl rfl) (fun _ _ _ _ h => h))  (pa_cons (pe_ix ix_list (pv 0) pe_int (fun _ _ => rfl)) (pa_cons (pe_ix ix_list (pv 0) pe_int (fun _ _ => rfl)) pa_nil))))) pss_nil)
      (pss_cons (ps_if (pt_cmpR op_eq (pe_callB call_len_seq (by rfl) T.n_len PySem.boot_len (pa_cons (pv 0) pa_nil)) pe_int (nomark _)) (pss_one (ps_ret (StX.pe_makeR (mkTn T) (okR_Turning_init T) (hr.mono (by decide)) rfl T.g_Turning (L2N.passes_call (L2N.takes_of rfl rfl rfl rfl) (fun _ _ _ _ h => h))  (pa_cons (pe_ix ix_list (pv 0) pe_int (fun _ _ => rfl)) (pa_cons (pe_ix ix_list (pv 0) pe_int (fun _ _ => rfl)) (pa_cons (pe_ix ix_list (pv 0) pe_int (fun _ _ => rfl)) pa_nil)))))) pss_nil)
      (pss_cons (ps_if (pt_cmpR op_eq (pe_callB call_len_seq (by rfl) T.n_len PySem.boot_len (pa_cons (pv 0) pa_nil)) pe_int (nomark _)) (pss_one (ps_ret (StX.pe_makeR (mkTn T) (okR_Turning_init T) (hr.mono (by decide)) rfl T.g_Turning (L2N.passes_call (L2N.takes_of rfl rfl rfl rfl) (fun _ _ _ _ h => h))  (pa_cons (pe_ix ix_list (pv 0) pe_int (fun _ _ => rfl)) (pa_cons (pe_ix ix_list (pv 0) pe_int (fun _ _ => rfl)) (pa_cons (pe_ix ix_list (pv 0) pe_int (fun _ _ => rfl)) (pa_cons (pe_ix ix_list (pv 0) pe_int (fun _ _ => rfl)) pa_nil))))))) pss_nil)
      (pss_one (ps_ret (StX.pe_makeR (mkTn T) (okR_Turning_init T) (hr.mono (by decide)) rfl T.g_Turning (L2N.passes_call (L2N.takes_of rfl rfl rfl rfl) (fun _ _ _ _ h => h))  (pa_cons (pe_ix ix_list (pv 0) pe_int (fun _ _ => rfl)) (pa_cons (pe_ix ix_list (pv 0) pe_int (fun _ _ => rfl)) (pa_cons (pe_ix ix_list (pv 0) pe_int (fun _ _ => rfl)) (pa_cons (pe_ix ix_list (pv 0) pe_int (fun _ _ => rfl)) (pa_cons (pe_ix ix_list (pv 0) pe_int (fun _ _ => rfl)) (pa_cons (pe_ix ix_list (pv 0) pe_int (fun _ _ => rfl)) (pa_cons (pe_ix ix_list (pv 0) pe_int (fun _ _ => rfl)) (pa_cons (pe_ix ix_list (pv 0) pe_int (fun _ _ => rfl)) (pa_cons (pe_ix ix_list (pv 0) pe_int (fun _ _ => rfl)) (pa_cons (pe_ix ix_list (pv 0) pe_int (fun _ _ => rfl)) (pa_cons (pe_ix ix_list (pv 0) pe_int (fun _ _ => rfl)) (pa_cons (pe_ix ix_list (pv 0) pe_int (fun _ _ => rfl)) (pa_cons (pe_ix ix_list (pv 0) pe_int (fun _ _ => rfl)) pa_nil))))))))))))))))))))), ?_⟩
    refine ⟨.ref r, rfl, r, _, rfl, .inl (SqL.of hr0), rfl, _, rfl, ite2 (fun h0 => ?_) (fun h0 => ?_)⟩
    · have ln : L.length = 0 := by have z := len_is h0; omega
      obtain rfl : L = [] := List.eq_nil_of_length_eq_zero ln
      exact mkT_args (L := []) (show 0 ≤ 40 by decide) txt ea_nil go
    have n0 := len_not h0
    refine ⟨.ref r, rfl, r, _, rfl, .inl (SqL.of hr0), rfl, _, rfl, ite2 (fun h0 => ?_) (fun h0 => ?_)⟩
    · have ln : L.length = 1 := by have z := len_is h0; omega
      obtain ⟨a, rfl⟩ : ∃ a, L = [a] := by
        match L, ln with
        | [a], _ => exact ⟨a, rfl⟩
      exact mkT_args (L := [a]) (show 1 ≤ 40 by decide) txt (ea_cons (ev_op (ev_var rfl) ev_c (rv_ixL (sq_of hr0) (atI_nat (j := 0) rfl))) ea_nil) go
    have n1 := len_not h0
    refine ⟨.ref r, rfl, r, _, rfl, .inl (SqL.of hr0), rfl, _, rfl, ite2 (fun h0 => ?_) (fun h0 => ?_)⟩
    · have ln : L.length = 2 := by have z := len_is h0; omega
      obtain ⟨a, b, rfl⟩ : ∃ a b, L = [a, b] := by
        match L, ln with
        | [a, b], _ => exact ⟨a, b, rfl⟩
      exact mkT_args (L := [a, b]) (show 2 ≤ 40 by decide) txt (ea_cons (ev_op (ev_var rfl) ev_c (rv_ixL (sq_of hr0) (atI_nat (j := 0) rfl))) (ea_cons (ev_op (ev_var rfl) ev_c (rv_ixL (sq_of hr0) (atI_nat (j := 1) rfl))) ea_nil)) go
    have n2 := len_not h0
    refine ⟨.ref r, rfl, r, _, rfl, .inl (SqL.of hr0), rfl, _, rfl, ite2 (fun h0 => ?_) (fun h0 => ?_)⟩
    · have ln : L.length = 3 := by have z := len_is h0; omega
      obtain ⟨a, b, c, rfl⟩ : ∃ a b c, L = [a, b, c] := by
        match L, ln with
        | [a, b, c], _ => exact ⟨a, b, c, rfl⟩
      exact mkT_args (L := [a, b, c]) (show 3 ≤ 40 by decide) txt (ea_cons (ev_op (ev_var rfl) ev_c (rv_ixL (sq_of hr0) (atI_nat (j := 0) rfl))) (ea_cons (ev_op (ev_var rfl) ev_c (rv_ixL (sq_of hr0) (atI_nat (j := 1) rfl))) (ea_cons (ev_op (ev_var rfl) ev_c (rv_ixL (sq_of hr0) (atI_nat (j := 2) rfl))) ea_nil))) go
    have n3 := len_not h0
    refine ⟨.ref r, rfl, r, _, rfl, .inl (SqL.of hr0), rfl, _, rfl, ite2 (fun h0 => ?_) (fun h0 => ?_)⟩
    · have ln : L.length = 4 := by have z := len_is h0; omega
      obtain ⟨a, b, c, d, rfl⟩ : ∃ a b c d, L = [a, b, c, d] := by
        match L, ln with
        | [a, b, c, d], _ => exact ⟨a, b, c, d, rfl⟩
      exact mkT_args (L := [a, b, c, d]) (show 4 ≤ 40 by decide) txt (ea_cons (ev_op (ev_var rfl) ev_c (rv_ixL (sq_of hr0) (atI_nat (j := 0) rfl))) (ea_cons (ev_op (ev_var rfl) ev_c (rv_ixL (sq_of hr0) (atI_nat (j := 1) rfl))) (ea_cons (ev_op (ev_var rfl) ev_c (rv_ixL (sq_of hr0) (atI_nat (j := 2) rfl))) (ea_cons (ev_op (ev_var rfl) ev_c (rv_ixL (sq_of hr0) (atI_nat (j := 3) rfl))) ea_nil)))) go
    have n4 := len_not h0
    have ln : L.length = 13 := by omega
    obtain ⟨x0, x1, x2, x3, x4, x5, x6, x7, x8, x9, x10, x11, x12, rfl⟩ : ∃ x0 x1 x2 x3 x4 x5 x6 x7 x8 x9 x10 x11 x12, L = [x0, x1, x2, x3, x4, x5, x6, x7, x8, x9, x10, x11, x12] := by
      match L, ln with
      | [x0, x1, x2, x3, x4, x5, x6, x7, x8, x9, x10, x11, x12], _ => exact ⟨x0, x1, x2, x3, x4, x5, x6, x7, x8, x9, x10, x11, x12, rfl⟩
    exact mkT_args (L := [x0, x1, x2, x3, x4, x5, x6, x7, x8, x9, x10, x11, x12]) (show 13 ≤ 40 by decide) txt (ea_cons (ev_op (ev_var rfl) ev_c (rv_ixL (sq_of hr0) (atI_nat (j := 0) rfl))) (ea_cons (ev_op (ev_var rfl) ev_c (rv_ixL (sq_of hr0) (atI_nat (j := 1) rfl))) (ea_cons (ev_op (ev_var rfl) ev_c (rv_ixL (sq_of hr0) (atI_nat (j := 2) rfl))) (ea_cons (ev_op (ev_var rfl) ev_c (rv_ixL (sq_of hr0) (atI_nat (j := 3) rfl))) (ea_cons (ev_op (ev_var rfl) ev_c (rv_ixL (sq_of hr0) (atI_nat (j := 4) rfl))) (ea_cons (ev_op (ev_var rfl) ev_c (rv_ixL (sq_of hr0) (atI_nat (j := 5) rfl))) (ea_cons (ev_op (ev_var rfl) ev_c (rv_ixL (sq_of hr0) (atI_nat (j := 6) rfl))) (ea_cons (ev_op (ev_var rfl) ev_c (rv_ixL (sq_of hr0) (atI_nat (j := 7) rfl))) (ea_cons (ev_op (ev_var rfl) ev_c (rv_ixL (sq_of hr0) (atI_nat (j := 8) rfl))) (ea_cons (ev_op (ev_var rfl) ev_c (rv_ixL (sq_of hr0) (atI_nat (j := 9) rfl))) (ea_cons (ev_op (ev_var rfl) ev_c (rv_ixL (sq_of hr0) (atI_nat (j := 10) rfl))) (ea_cons (ev_op (ev_var rfl) ev_c (rv_ixL (sq_of hr0) (atI_nat (j := 11) rfl))) (ea_cons (ev_op (ev_var rfl) ev_c (rv_ixL (sq_of hr0) (atI_nat (j := 12) rfl))) ea_nil))))))))))))) go
theorem minus_name {z : Str} : isName ("-" ++ z) = false := by
  cases e : isName ("-" ++ z) with
  | false => rfl
  | true =>
    have d := name_dash e
    unfold dash dashL at d
    rw [minus_codes] at d
    cases d
/-- _law_no_name(source, name) -/
def spNoName : Sp := fun vs H Q _ => ∃ (a l : Addr) (ns : List Int) (nm : Str), vs = [.ref a, .str nm] ∧ SrcL H a l ns ∧ isName nm = true ∧ ∀ (H' : Hp) (z : Str), isName z = false → Txt8 20 z → SrcL H' a l ns → But a H H' → Q (.str z) H'
theorem ok__law_no_name (T : Txt P K mg) : FnOk P w K mg base CX0 3 T.f__law_no_name T.d__law_no_name ["_law_source_here", "_law_name"] spNoName := by
  refine T.F__law_no_name.ok sc__law_no_name (fun vs H Q E h => ?_) (fun cdv A outer s H vs Q E hr h => ?_)
  · obtain ⟨a, l, ns, nm, rfl, _⟩ := h
    rfl
  · obtain ⟨a, l, ns, nm, rfl, S, hn, q⟩ := h
    refine ⟨_, (pss_cons (ps_if (pt_cmpR op_eq (pe_call (okL__law_take T) (hr.mono (by decide)) rfl T.g__law_take T.F__law_take.kp T.b__law_take .nil pass0 (pa_cons (pv 0) (pa_cons pe_int pa_nil))) pe_int (nomark _)) (pss_one (ps_ret (pe_op op_add_str pe_str (pv 1)))) pss_nil)
      (pss_one (ps_ret (pe_call (ok__law_bad T) (hr.mono (by decide)) rfl T.g__law_bad T.F__law_bad.kp T.b__law_bad .nil pass0 (pa_cons (pv 0) (pa_cons (pv 1) pa_nil)))))), ?_⟩
    have tx := name_txt hn
    have lz : nm.length = nm.cps.size := rfl
    refine ⟨.ref a, rfl, a, 3, l, ns, rfl, S, by decide, by decide, fun H1 t t0 t1 S1 B1 => ⟨rfl, _, rfl, ite2 (fun _ => ?_) (fun _ => ?_)⟩⟩
    · exact ⟨_, rfl, _, _, rfl, rfl, line_of (minus_len (Nat.le_trans tx.1 (by decide))), q H1 _ minus_name (((show Txt8 1 "-" from ⟨by decide, by decide⟩).app tx).mono (by decide)) S1 B1⟩
    · exact ⟨.ref a, rfl, _, rfl, a, l, ns, nm, rfl, S1, hn, fun H2 z no tz S2 B2 => q H2 z (by
        cases e : isName z with
        | false => rfl
        | true => rw [name_lit e] at no; cases no) tz S2 (B1.trans B2)⟩
end
section
open Evl
theorem exm_no {nm : Str} {A C fI : Addr} {pars : Arguments} {body : List Stmt} {sc : Scope} (TC : Cls1 P K mg nm C fI pars body sc) (su : PySem.W.subIn K (.ref A) (.ref C) = some false) : PySem.W.exmOne K (.ref A) (.ref C) = some false := by
  obtain ⟨n, q, N, bs, bm, sn, sub, ab, col, dd, k0, k1, k2, k3, k5, hC, _⟩ := TC.cls
  have hcl : (PySem.W.clsIn K C).isSome = true := by unfold PySem.W.clsIn; rw [hC] <;> rfl
  have e1 : (PySem.W.subIn K (.ref C) (.type "BaseException") == some true) = true := by rw [TC.exC] <;> rfl
  have e2 : ((PySem.W.clsIn K C).isSome && PySem.W.typeIn K (.ref C) == some (.type "type")) = true := by rw [hcl, TC.tyC] <;> rfl
  show (if (PySem.W.subIn K (.ref C) (.type "BaseException") == some true) = true then (if ((PySem.W.clsIn K C).isSome && PySem.W.typeIn K (.ref C) == some (.type "type")) = true then PySem.W.subIn K (.ref A) (.ref C) else none) else none) = some false
  rw [if_pos e1, if_pos e2]
  exact su
/-- the first text that is no name -/
def badOne (L : List Str) : Option Str := L.find? fun y => !isName y
theorem badOne_at {L pre post : List Str} {z : Str} (e : L = pre ++ z :: post) (yes : ∀ y ∈ pre, isName y = true) (no : isName z = false) : badOne L = some z := by
  unfold badOne
  rw [e, List.find?_append, List.find?_eq_none.mpr (fun y hy => by rw [yes y hy]; decide), List.find?_cons, no]
  rfl
theorem badOne_none {L : List Str} (h : ∀ z ∈ L, isName z = true) : badOne L = none := List.find?_eq_none.mpr fun y hy => by rw [h y hy]; decide
/-- what _law_told and _law_due give -/
inductive Jk (H : Hp) (L R : List Str) : V → Prop
  | nam (p : Addr) (z : Str) : badOne L = some z → H p = some (.tup [.str "name", .str z, .bl true]) → Jk H L R (.ref p)
  | mny (p : Addr) : badOne L = none → 12 < R.length → H p = some (.tup [.str "many", .int 12, .bl true]) → Jk H L R (.ref p)
  | trn (p q : Addr) : badOne L = none → R.length ≤ 12 → H p = some (.tup [.str "turning", .ref q, .bl true]) → H q = some (.tup (R.map V.str)) → Jk H L R (.ref p)
theorem Jk.mono {H H' : Hp} {L R : List Str} {x : V} (t : Jk H L R x) (e : Ex H H') : Jk H' L R x := by
  cases t with
  | nam p z a b => exact .nam p z a (e _ _ b)
  | mny p a b c => exact .mny p a b (e _ _ c)
  | trn p q a b c d => exact .trn p q a b (e _ _ c) (e _ _ d)
theorem same_jk {L R : List Str} {H : Hp} {x y : V} (tx : Jk H L R x) (ty : Jk H L R y) : SameV H 2 x y := by
  cases tx with
  | nam p z a b => cases ty with
    | nam p' z' a' b' => rw [a] at a'; cases a'; exact same3 b b' (.flat rfl) (.flat rfl) (.flat rfl)
    | mny p' a' => rw [a] at a'; cases a'
    | trn p' q' a' => rw [a] at a'; cases a'
  | mny p a b c => cases ty with
    | nam p' z' a' => rw [a] at a'; cases a'
    | mny p' a' b' c' => exact same3 c c' (.flat rfl) (.flat rfl) (.flat rfl)
    | trn p' q' a' b' => omega
  | trn p q a b c d => cases ty with
    | nam p' z' a' => rw [a] at a'; cases a'
    | mny p' a' b' => omega
    | trn p' q' a' b' c' d' => exact same3 c c' (.flat rfl) (.txtT d d' (by omega)) (.flat rfl)
/-- _law_due(row, bad) -/
def spDueK : Sp := fun vs H Q _ => ∃ (r b : Addr) (L B : List Str), vs = [.ref r, .ref b] ∧ H r = some (.lst (L.map V.str)) ∧ H b = some (.lst (B.map V.str)) ∧ L.length ≤ 40 ∧ (∀ z ∈ L, z ∈ B ↔ isName z = false) ∧ ∀ v H', Ex H H' → (∀ R, Ord L R → Jk H' L R v) → Q v H'
theorem ok__law_due (T : Txt P K mg) : FnOk P w K mg base CX0 2 T.f__law_due T.d__law_due ["_law_row", "_law_bad_here"] spDueK := by
  refine T.F__law_due.ok sc__law_due (fun vs H Q E h => ?_) (fun cdv A outer s H vs Q E hr h => ?_)
  · obtain ⟨r, b, L, B, rfl, _⟩ := h
    rfl
  · obtain ⟨r, b, L, B, rfl, hR, hB, few, bad, q⟩ := h
    refine ⟨_, (pss_cons (ps_for PassesOwn.never rfl (pi_list (pv 0)) (pg_name (i := 2) sc__law_due.nd rfl (.inl rfl)) (pss_one (ps_if (pt_cmpR op_in_seq (pv 2) (pv 1) (by rfl)) (pss_one (ps_ret (pe_tup (pa_cons pe_str (pa_cons (pv 2) (pa_cons pe_bl pa_nil)))))) pss_nil)))
      (pss_cons (ps_if (pt_cmpR op_gt (pe_callB call_len_seq (by rfl) T.n_len PySem.boot_len (pa_cons (pe_call (ok__law_sorted T) (hr.mono (by decide)) rfl T.g__law_sorted T.F__law_sorted.kp T.b__law_sorted .nil pass0 (pa_cons (pv 0) pa_nil)) pa_nil)) pe_int (nomark _)) (pss_one (ps_ret (pe_tup (pa_cons pe_str (pa_cons pe_int (pa_cons pe_bl pa_nil)))))) pss_nil)
      (pss_one (ps_ret (pe_tup (pa_cons pe_str (pa_cons (pe_callTy call_tuple_of (by rfl) T.n_tuple (by decide +kernel) (pa_cons (pe_call (ok__law_sorted T) (hr.mono (by decide)) rfl T.g__law_sorted T.F__law_sorted.kp T.b__law_sorted .nil pass0 (pa_cons (pv 0) pa_nil)) pa_nil)) (pa_cons pe_bl pa_nil)))))))), ?_⟩
    obtain ⟨R, od⟩ := ord_any L
    refine q_forLn (K := K) (j := 2) (ev_var rfl) (sq_of hR) (fun i σ H' => ∃ v2 : Option V, σ = [some (V.ref r), some (.ref b), v2] ∧ Ex H H' ∧ ∀ y ∈ L.take i, isName y = true) (fun H1 e1 => ⟨none, rfl, e1, fun y hy => by simp at hy⟩) (fun i σ' H' _ ⟨_, _, e, _⟩ => sq_of (e _ _ hR)) ?_ ?_
    · rintro i y σ H1 hi ⟨v2, rfl, e1, yes⟩
      obtain ⟨z, hz, rfl⟩ := pick_str hi
      have zL := List.mem_of_getElem? hz
      refine s_when (b := decide (z ∈ B)) (et_test (ev_is (ev_op (x := .str z) (y := .ref b) (ev_var rfl) (ev_var rfl) (rv_isL (sq_of (e1 _ _ hB)) rfl (flat_str B))) (by rw [in_map]))) (fun c H2 e2 => ?_) (fun c H2 e2 => ⟨_, rfl, e1.trans e2, fun y hy => ?_⟩)
      · have no := (bad z zL).mp (of_decide_eq_true c)
        have lt := (List.getElem?_eq_some_iff.mp hz).1
        have qq := (List.getElem?_eq_some_iff.mp hz).2
        have z2 : L = L.take i ++ z :: L.drop (i + 1) := by
          have z3 : L.drop i = z :: L.drop (i + 1) := by rw [List.drop_eq_getElem_cons lt, qq]
          rw [← z3, List.take_append_drop]
        exact s_retU (eu_tup (ea_cons ev_c (ea_cons (ev_var rfl) (ea_cons ev_c ea_nil))) (by show 3 ≤ 100000; decide)) fun p H3 np e3 hp => q _ _ ((e1.trans e2).trans e3) fun R' _ => .nam p z (badOne_at z2 yes no) hp
      · rw [List.take_add_one, hz] at hy
        rcases List.mem_append.mp hy with h | h
        · exact yes y h
        · have e : y = z := by simpa using h
          rw [e]
          cases n : isName z with
          | true => rfl
          | false => exact absurd ((bad z zL).mpr n) (of_decide_eq_false c)
    · rintro σ H1 ⟨v2, rfl, e1, yes⟩
      rw [List.length_map, List.take_length] at yes
      have none := badOne_none yes
      have hR1 := e1 _ _ hR
      refine q_when (b := decide ((R.length : Int) > 12)) (et_test (ev_op (ev_is (ev_lenN (el_sortV (els_at (ev_var rfl) hR1) few od)) (by rw [List.length_map])) ev_c (fun H7 e7 Q q => ⟨_, _, rfl, rfl, q H7 (Ex.refl H7)⟩))) (fun c H2 e2 => ?_) (fun c H2 e2 => ?_)
      · have big : 12 < R.length := by have := of_decide_eq_true c; omega
        exact s_retU (eu_tup (ea_cons ev_c (ea_cons ev_c (ea_cons ev_c ea_nil))) (by show 3 ≤ 100000; decide)) fun p H3 np e3 hp => q _ _ ((e1.trans e2).trans e3) fun R' od' => by rw [od'.uniq od fun _ => Iff.rfl]; exact .mny p none big hp
      · have small : R.length ≤ 12 := by have := of_decide_eq_false c; omega
        refine ⟨_, rfl, r, L, rfl, e2 _ _ hR1, few, fun R' od' o H3 no e3 ho => ?_⟩
        rw [od'.uniq od fun _ => Iff.rfl] at ho
        refine ⟨o, _, rfl, .inl ⟨SqL.of ho, fun t nt => ⟨(by show 3 ≤ sizeLine; decide), fun u nu => ?_⟩⟩⟩
        exact q _ _ ((((e1.trans e2).trans e3).trans (Ex.new nt)).trans (Ex.new nu)) fun R' od' => by rw [od'.uniq od fun _ => Iff.rfl]; exact .trn u t none small upd_same (by rw [upd_ne (ne_of_none upd_same nu), upd_same])
/-- _law_told(row) -/
def spToldK : Sp := fun vs H Q _ => ∃ (r : Addr) (L : List Str), vs = [.ref r] ∧ H r = some (.lst (L.map V.str)) ∧ (L.length ≤ 4 ∨ L.length = 13) ∧ (∀ z ∈ L, Txt8 20 z) ∧ ∀ v H', Ex H H' → (∀ R, Ord L R → Jk H' L R v) → Q v H'
theorem ok__law_told (T : Txt P K mg) : FnOk P w K mg base CX0 10 T.f__law_told T.d__law_told ["_law_row"] spToldK := by
  refine T.F__law_told.ok sc__law_told (fun vs H Q E h => ?_) (fun cdv A outer s H vs Q E hr h => ?_)
  · obtain ⟨r, L, rfl, _⟩ := h
    rfl
  · obtain ⟨r, L, rfl, hR, few, txt, q⟩ := h
    refine ⟨_, (pss_cons (L2N.ps_try_manyAs (i := 1) (l := [(.ref T.C_BadName, fun a cls d => tSeq (tAsg (tAndV (tCB (rIsF K T.C_BadName a cls d) (tCons (tVar 1) (tCons (tC (.ref T.C_HornError)) tNil))) (tCB (rIsF K T.C_BadName a cls d) (tCons (tVar 1) (tCons (tC (.ty "ValueError")) tNil)))) (gName 3)) (tRet (tTup (tCons (tC (.str "name")) (tCons (tByF T.C_BadName a cls d "text" (tVar 1)) (tCons (tAndV (tVar 3) (tNotV (tCB (rIsFT K T.C_BadName a cls d) (tCons (tVar 1) (tCons (tTup (tCons (tC (.ref T.C_BadLiteral)) (tCons (tC (.ref T.C_TooMany)) tNil))) tNil))))) tNil)))))), (.ref T.C_TooMany, fun a cls d => tSeq (tAsg (tAndV (tCB (rIsF K T.C_TooMany a cls d) (tCons (tVar 1) (tCons (tC (.ref T.C_HornError)) tNil))) (tCB (rIsF K T.C_TooMany a cls d) (tCons (tVar 1) (tCons (tC (.ty "ValueError")) tNil)))) (gName 3)) (tRet (tTup (tCons (tC (.str "many")) (tCons (tByF T.C_TooMany a cls d "limit" (tVar 1)) (tCons (tAndV (tVar 3) (tNotV (tCB (rIsF K T.C_TooMany a cls d) (tCons (tVar 1) (tCons (tC (.ref T.C_BadLiteral)) tNil))))) tNil))))))])
      (tb := fun W => tAsg (tCallS (spMade T.C_Turning T.C_BadName T.C_TooMany) (WE W) (tCons (tVar 0) tNil)) (gName 2)) (Wout := fun _ _ _ _ => False) rfl rfl sc__law_told.nd rfl rfl takes0N
      (fun W pn xe tk _ => (pss_one (ps_set (i := 2) sc__law_told.nd rfl (.inl rfl) (pe_callS (ok__law_made T) (hr.mono (by decide)) rfl T.g__law_made T.F__law_made.kp T.b__law_made (fun σ => L2N.passAt tk σ) (by exact (pa_cons (pv 0) pa_nil))))))
      (.cons ⟨rfl, by decide, Or.inl T.E_BadName.gC⟩ (fun a oe cls d pn hz hf => (pss_cons (ps_set (i := 3) sc__law_told.nd rfl (.inl rfl) (pe_and (pe_callB (call_isF T.x_BadName hz.zc hf) (by rfl) T.n_isinstance (by decide +kernel) (pa_cons (pv 1) (pa_cons (pe_glob (v := .ref T.C_HornError) rfl T.g_HornError rfl) pa_nil))) (pe_one (pe_callB (call_isF T.x_BadName hz.zc hf) (by rfl) T.n_isinstance (by decide +kernel) (pa_cons (pv 1) (pa_cons (pe_bltn (v := .ty "ValueError") (u := .type "ValueError") (by rfl) T.n_ValueError (by decide +kernel) rfl) pa_nil)))))) (pss_one (ps_ret (pe_tup (pa_cons pe_str (pa_cons (pe_byF T.E_BadName T.o_BadName hz.zc hf (pv 1)) (pa_cons (pe_and (pv 3) (pe_one (pe_not (pe_callB (call_isFT T.x_BadName hz.zc hf) (by rfl) T.n_isinstance (by decide +kernel) (pa_cons (pv 1) (pa_cons (pe_tup (pa_cons (pe_glob (v := .ref T.C_BadLiteral) rfl T.E_BadLiteral.gC rfl) (pa_cons (pe_glob (v := .ref T.C_TooMany) rfl T.E_TooMany.gC rfl) pa_nil))) pa_nil)))))) pa_nil))))))))
      (.cons ⟨rfl, by decide, Or.inl T.E_TooMany.gC⟩ (fun a oe cls d pn hz hf => (pss_cons (ps_set (i := 3) sc__law_told.nd rfl (.inl rfl) (pe_and (pe_callB (call_isF T.x_TooMany hz.zc hf) (by rfl) T.n_isinstance (by decide +kernel) (pa_cons (pv 1) (pa_cons (pe_glob (v := .ref T.C_HornError) rfl T.g_HornError rfl) pa_nil))) (pe_one (pe_callB (call_isF T.x_TooMany hz.zc hf) (by rfl) T.n_isinstance (by decide +kernel) (pa_cons (pv 1) (pa_cons (pe_bltn (v := .ty "ValueError") (u := .type "ValueError") (by rfl) T.n_ValueError (by decide +kernel) rfl) pa_nil)))))) (pss_one (ps_ret (pe_tup (pa_cons pe_str (pa_cons (pe_byF T.E_TooMany T.o_TooMany hz.zc hf (pv 1)) (pa_cons (pe_and (pv 3) (pe_one (pe_not (pe_callB (call_isF T.x_TooMany hz.zc hf) (by rfl) T.n_isinstance (by decide +kernel) (pa_cons (pv 1) (pa_cons (pe_glob (v := .ref T.C_BadLiteral) rfl T.E_BadLiteral.gC rfl) pa_nil)))))) pa_nil)))))))) .nil)))
      (pss_one (ps_ret (pe_tup (pa_cons pe_str (pa_cons (pe_fld (pv 2) rfl) (pa_cons (pe_callB call_isi (by rfl) T.n_isinstance (by decide +kernel) (pa_cons (pv 2) (pa_cons (pe_glob (v := .ref T.C_Turning) rfl T.g_Turning rfl) pa_nil))) pa_nil))))))), ?_⟩
    obtain ⟨b3, k3, rfl⟩ := T.k_BadName_BadLiteral
    obtain ⟨b5, k5, rfl⟩ := T.k_BadName_HornError
    obtain ⟨b6, k6, rfl⟩ := T.k_BadName_ValueError
    obtain ⟨b7, k7, rfl⟩ := T.k_BadName_TooMany
    obtain ⟨b8, k8, rfl⟩ := T.k_TooMany_HornError
    obtain ⟨b9, k9, rfl⟩ := T.k_TooMany_ValueError
    obtain ⟨b0, k0, rfl⟩ := T.k_TooMany_BadLiteral
    have any : PySem.W.kitAny K (.ref T.C_BadName) [.ref T.C_BadLiteral, .ref T.C_TooMany] = some false := by
      unfold PySem.W.kitAny
      rw [k3]
      dsimp only
      unfold PySem.W.kitAny
      rw [k7]
      rfl
    obtain ⟨R, od⟩ := ord_any L
    refine ⟨_, rfl, r, L, rfl, hR, few, txt, ⟨fun pre z post eL yes no H1 d e1 hd => ?_, fun nm N odN big H1 d e1 hd => ?_, fun nm N odN small H1 x e1 t => ?_⟩⟩
    · refine ⟨true, T.E_BadName.te, fun _ x na => ?_, fun q => Bool.noConfusion q⟩
      have hxx : ∀ dx, some d = some dx → ∃ fs, H1 dx = some (.xd fs) := fun dx e => ⟨_, (Option.some.inj e) ▸ hd⟩
      refine ⟨_, rfl, rfl, .ref T.C_HornError, .ref T.C_HornError, _, rfl, fun u e => e, hxx, k5, _, rfl, iteT ?_⟩
      refine ⟨_, rfl, rfl, .ty "ValueError", .type "ValueError", _, rfl, fun u e => e, hxx, k6, ?_⟩
      refine ⟨_, rfl, rfl, rfl, d, _, rfl, hd, _, rfl, _, rfl, iteT ?_⟩
      refine ⟨_, rfl, (by show 2 ≤ sizeLine; decide), fun t nt => ⟨rfl, t, [.ref T.C_BadLiteral, .ref T.C_TooMany], [.ref T.C_BadLiteral, .ref T.C_TooMany], _, rfl, Evl.st_of upd_same, fun us ru => ?_, fun dx e => ⟨_, by rw [upd_ne (ne_of_none ((Option.some.inj e) ▸ hd) nt)]; exact (Option.some.inj e) ▸ hd⟩, any, _, rfl, (by show 3 ≤ sizeLine; decide), fun u nu => ?_⟩⟩
      · cases ru with
        | cons a1 r1 => cases r1 with
          | cons a2 r2 => cases r2; cases a1; cases a2; rfl
      · exact q _ _ ((e1.trans (Ex.new nt)).trans (Ex.new nu)) fun R' _ => .nam u z (badOne_at eL yes no) upd_same
    · refine ⟨false, exm_no T.E_BadName T.su_TooMany_BadName, fun q => Bool.noConfusion q, fun _ => ⟨true, T.E_TooMany.te, fun _ x na => ?_, fun q => Bool.noConfusion q⟩⟩
      have hxx : ∀ dx, some d = some dx → ∃ fs, H1 dx = some (.xd fs) := fun dx e => ⟨_, (Option.some.inj e) ▸ hd⟩
      refine ⟨_, rfl, rfl, .ref T.C_HornError, .ref T.C_HornError, _, rfl, fun u e => e, hxx, k8, _, rfl, iteT ?_⟩
      refine ⟨_, rfl, rfl, .ty "ValueError", .type "ValueError", _, rfl, fun u e => e, hxx, k9, ?_⟩
      refine ⟨_, rfl, rfl, rfl, d, _, rfl, hd, _, rfl, _, rfl, iteT ?_⟩
      refine ⟨_, rfl, rfl, .ref T.C_BadLiteral, .ref T.C_BadLiteral, _, rfl, fun u e => e, hxx, k0, _, rfl, (by show 3 ≤ sizeLine; decide), fun u nu => ?_⟩
      exact q _ _ (e1.trans (Ex.new nu)) fun R' od' => by rw [od'.uniq odN fun _ => Iff.rfl]; exact .mny u (badOne_none nm) big upd_same
    · obtain ⟨dx, p, hx, hp⟩ := t
      refine ⟨_, rfl, x, T.C_Turning, dx, _, .ref p, rfl, hx, T.cl_Turning, T.na_Turning_turned, rfl, _, rfl, .ref x, .ref T.C_Turning, .ref T.C_Turning, .ref T.C_Turning, true, rfl, .own _, ty_turning T hx, T.ins_Turning.me, (by show 3 ≤ sizeLine; decide), fun u nu => ?_⟩
      exact q _ _ (e1.trans (Ex.new nu)) fun R' od' => by rw [od'.uniq odN fun _ => Iff.rfl]; exact .trn u p (badOne_none nm) small upd_same (by rw [upd_ne (ne_of_none hp nu)]; exact hp)
end
open Evl in
theorem okH__law_same (T : Txt P K mg) : L2H.FnH P w K mg base CX0 1 T.f__law_same T.d__law_same ["_law_one", "_law_other"] spSame := by
  refine T.F__law_same.okH sc__law_same (fun vs H Q E h => ?_) (fun cdv A outer s H vs Q E p hot hr h => ?_)
  · obtain ⟨x, y, rfl, _⟩ := h
    rfl
  · obtain ⟨x, y, rfl, hx, hy, q⟩ := h
    obtain ⟨tx, kx, bx, ix, sx, lx, ux⟩ := kit_flat (K := K) hx
    obtain ⟨ty, ky, by_, iy, sy, ly, uy⟩ := kit_flat (K := K) hy
    have vx : ∀ (σ : L2.St) (H : Hp), σ[0]? = some (some x) → Ev (tVar 0) σ H x := fun σ H e => ev_var e
    have vy : ∀ (σ : L2.St) (H : Hp), σ[1]? = some (some y) → Ev (tVar 1) σ H y := fun σ H e => ev_var e
    refine ⟨_, (pss_cons (ps_if (PW.pt (pw_or (pt_val (pe_callB call_isi (by rfl) T.n_isinstance (by decide +kernel) (pa_cons (pv 0) (pa_cons (pe_bltn (v := .ty "bool") (u := .type "bool") (by rfl) T.n_bool (by decide +kernel) rfl) pa_nil)))) (pw_or1 (pt_val (pe_callB call_isi (by rfl) T.n_isinstance (by decide +kernel) (pa_cons (pv 1) (pa_cons (pe_bltn (v := .ty "bool") (u := .type "bool") (by rfl) T.n_bool (by decide +kernel) rfl) pa_nil))))))) (pss_one (ps_ret (pe_and (pe_callB call_isi (by rfl) T.n_isinstance (by decide +kernel) (pa_cons (pv 0) (pa_cons (pe_bltn (v := .ty "bool") (u := .type "bool") (by rfl) T.n_bool (by decide +kernel) rfl) pa_nil))) (pe_and (pe_callB call_isi (by rfl) T.n_isinstance (by decide +kernel) (pa_cons (pv 1) (pa_cons (pe_bltn (v := .ty "bool") (u := .type "bool") (by rfl) T.n_bool (by decide +kernel) rfl) pa_nil))) (pe_one (pe_cmpR op_eq (pv 0) (pv 1) (nomark _))))))) pss_nil)
      (pss_cons (ps_if (PW.pt (pw_or (pt_val (pe_callB call_isi (by rfl) T.n_isinstance (by decide +kernel) (pa_cons (pv 0) (pa_cons (pe_bltn (v := .ty "int") (u := .type "int") (by rfl) T.n_int (by decide +kernel) rfl) pa_nil)))) (pw_or1 (pt_val (pe_callB call_isi (by rfl) T.n_isinstance (by decide +kernel) (pa_cons (pv 1) (pa_cons (pe_bltn (v := .ty "int") (u := .type "int") (by rfl) T.n_int (by decide +kernel) rfl) pa_nil))))))) (pss_one (ps_ret (pe_and (pe_callB call_isi (by rfl) T.n_isinstance (by decide +kernel) (pa_cons (pv 0) (pa_cons (pe_bltn (v := .ty "int") (u := .type "int") (by rfl) T.n_int (by decide +kernel) rfl) pa_nil))) (pe_and (pe_callB call_isi (by rfl) T.n_isinstance (by decide +kernel) (pa_cons (pv 1) (pa_cons (pe_bltn (v := .ty "int") (u := .type "int") (by rfl) T.n_int (by decide +kernel) rfl) pa_nil))) (pe_one (pe_cmpR op_eq (pv 0) (pv 1) (nomark _))))))) pss_nil)
      (pss_cons (ps_if (PW.pt (pw_or (pt_val (pe_callB call_isi (by rfl) T.n_isinstance (by decide +kernel) (pa_cons (pv 0) (pa_cons (pe_bltn (v := .ty "str") (u := .type "str") (by rfl) T.n_str (by decide +kernel) rfl) pa_nil)))) (pw_or1 (pt_val (pe_callB call_isi (by rfl) T.n_isinstance (by decide +kernel) (pa_cons (pv 1) (pa_cons (pe_bltn (v := .ty "str") (u := .type "str") (by rfl) T.n_str (by decide +kernel) rfl) pa_nil))))))) (pss_one (ps_ret (pe_and (pe_callB call_isi (by rfl) T.n_isinstance (by decide +kernel) (pa_cons (pv 0) (pa_cons (pe_bltn (v := .ty "str") (u := .type "str") (by rfl) T.n_str (by decide +kernel) rfl) pa_nil))) (pe_and (pe_callB call_isi (by rfl) T.n_isinstance (by decide +kernel) (pa_cons (pv 1) (pa_cons (pe_bltn (v := .ty "str") (u := .type "str") (by rfl) T.n_str (by decide +kernel) rfl) pa_nil))) (pe_one (pe_cmpR op_eq (pv 0) (pv 1) (nomark _))))))) pss_nil)
      (pss_cons (ps_set (i := 2) sc__law_same.nd rfl (.inl rfl) (pe_and (pe_callB call_isi (by rfl) T.n_isinstance (by decide +kernel) (pa_cons (pv 0) (pa_cons (pe_bltn (v := .ty "list") (u := .type "list") (by rfl) T.n_list (by decide +kernel) rfl) pa_nil))) (pe_one (pe_callB call_isi (by rfl) T.n_isinstance (by decide +kernel) (pa_cons (pv 1) (pa_cons (pe_bltn (v := .ty "list") (u := .type "list") (by rfl) T.n_list (by decide +kernel) rfl) pa_nil))))))
      (pss_cons (ps_if (PW.pt (pw_and (pt_not (pt_val (pv 2))) (pw_and1 (pt_not (PW.pt (pw_and (pt_val (pe_callB call_isi (by rfl) T.n_isinstance (by decide +kernel) (pa_cons (pv 0) (pa_cons (pe_bltn (v := .ty "tuple") (u := .type "tuple") (by rfl) T.n_tuple (by decide +kernel) rfl) pa_nil)))) (pw_and1 (pt_val (pe_callB call_isi (by rfl) T.n_isinstance (by decide +kernel) (pa_cons (pv 1) (pa_cons (pe_bltn (v := .ty "tuple") (u := .type "tuple") (by rfl) T.n_tuple (by decide +kernel) rfl) pa_nil))))))))))) (pss_one (ps_ret (pe_and (pe_cmpR op_isN (pv 0) pe_non (nomark _)) (pe_one (pe_cmpR op_isN (pv 1) pe_non (nomark _)))))) pss_nil)
      (pss_one ps_never)))))), ?_⟩
    have cmp : ∀ (σ : L2.St) (H1 : Hp), σ[0]? = some (some x) → σ[1]? = some (some y) → scal x y = true → Ev (tOp rEq (tVar 0) (tVar 1)) σ H1 (.bl (decide (x = y))) := fun σ H1 e0 e1 hs => ev_op (ev_var e0) (ev_var e1) (rv_eq hs)
    refine q_when (et_or (et_B (ev_isi (vx _ _ rfl) kx bx)) (fun _ => et_B (ev_isi (vy _ _ rfl) ky by_))) (fun hb H1 e1 => ?_) (fun hb H1 e1 => ?_)
    · refine s_ret (v := .bl (decide (x = y))) (ev_is (ev_andV (ev_isi (vx _ _ rfl) kx bx) (fun h1 => ev_andV (b := decide (x = y)) (ev_isi (vy _ _ rfl) ky by_) (fun h2 => cmp _ _ rfl rfl (scal_flat hx hy (.inl ⟨h1, h2⟩))))) ?_) (fun H2 e2 => q H2 (e1.trans e2))
      cases h1 : isBl x with
      | true =>
        cases h2 : isBl y with
        | true => rfl
        | false => rw [decide_eq_false (ne_bl h1 h2)]; rfl
      | false =>
        rw [h1] at hb
        have h2 : isBl y = true := hb
        rw [decide_eq_false (ne_bl h2 h1).symm]
        rfl
    · have nb : isBl x = false ∧ isBl y = false := by simpa using hb
      rw [nb.1] at ix
      rw [nb.2] at iy
      refine q_when (et_or (et_B (ev_isi (vx _ _ rfl) kx ix)) (fun _ => et_B (ev_isi (vy _ _ rfl) ky iy))) (fun hi H2 e2 => ?_) (fun hi H2 e2 => ?_)
      · refine s_ret (v := .bl (decide (x = y))) (ev_is (ev_andV (ev_isi (vx _ _ rfl) kx ix) (fun h1 => ev_andV (b := decide (x = y)) (ev_isi (vy _ _ rfl) ky iy) (fun h2 => cmp _ _ rfl rfl (scal_flat hx hy (.inr (.inl ⟨h1, h2⟩)))))) ?_) (fun H3 e3 => q H3 ((e1.trans e2).trans e3))
        cases x <;> cases y <;> simp_all [isIn, isBl]
      · have ni : isIn x = false ∧ isIn y = false := by simpa using hi
        refine q_when (et_or (et_B (ev_isi (vx _ _ rfl) kx sx)) (fun _ => et_B (ev_isi (vy _ _ rfl) ky sy))) (fun hs H3 e3 => ?_) (fun hs H3 e3 => ?_)
        · refine s_ret (v := .bl (decide (x = y))) (ev_is (ev_andV (ev_isi (vx _ _ rfl) kx sx) (fun h1 => ev_andV (b := decide (x = y)) (ev_isi (vy _ _ rfl) ky sy) (fun h2 => cmp _ _ rfl rfl (scal_flat hx hy (.inr (.inr ⟨h1, h2⟩)))))) ?_) (fun H4 e4 => q H4 (((e1.trans e2).trans e3).trans e4))
          cases x <;> cases y <;> simp_all [isSt, isBl]
        · have ns : isSt x = false ∧ isSt y = false := by simpa using hs
          have xn : x = .non := non_of hx nb.1 ni.1 ns.1
          have yn : y = .non := non_of hy nb.2 ni.2 ns.2
          refine q_asg (v := .bl false) (ev_is (ev_andV (b := false) (ev_isi (vx _ _ rfl) kx lx) (fun _ => ev_isi (vy _ _ rfl) ky ly)) rfl) (fun H4 e4 => ?_)
          refine q_when (b := true) (et_is (et_and (et_not (et_B (ev_var rfl))) (fun _ => et_not (et_and (b := false) (et_B (ev_isi (vx _ _ rfl) kx ux)) (fun _ => et_B (ev_isi (vy _ _ rfl) ky uy))))) rfl) (fun _ H5 e5 => ?_) (fun hf => by cases hf)
          refine s_ret (v := .bl true) (ev_is (ev_andV (a := true) (b := true) (ev_op (vx _ _ rfl) ev_c (fun H6 _ Q' q' => ⟨rfl, ?_⟩)) (fun _ => ev_op (vy _ _ rfl) ev_c (fun H6 _ Q' q' => ⟨rfl, ?_⟩))) rfl) (fun H6 e6 => ?_)
          · rw [xn]
            exact q' H6 (Ex.refl H6)
          · rw [yn]
            exact q' H6 (Ex.refl H6)
          · have z := q H6 (((((e1.trans e2).trans e3).trans e4).trans e5).trans e6)
            rw [xn, yn] at z
            exact z
section
open Evl
/-- _law_no_index(turning, text), the text no name -/
def spNoIx (C : Addr) : Sp := fun vs H Q _ => ∃ (a : Addr) (D : List Str) (z : Str), vs = [.ref a, .str z] ∧ TnAt C H a D ∧ z.cps.size ≤ 50 ∧ (∀ c ∈ z.cps.toList, c < 128) ∧ isName z = false ∧ ∀ H', Ex H H' → Q (.bl true) H'
theorem ok__law_no_index (T : Txt P K mg) : FnOk P w K mg base CX0 8 T.f__law_no_index T.d__law_no_index ["_law_turning_here", "_law_text"] (spNoIx T.C_Turning) := by
  refine T.F__law_no_index.ok sc__law_no_index (fun vs H Q E h => ?_) (fun cdv A outer s H vs Q E hr h => ?_)
  · obtain ⟨a, D, z, rfl, _⟩ := h
    rfl
  · obtain ⟨a, D, z, rfl, t, hz, hc, no, q⟩ := h
    refine ⟨_, (pss_cons (L2N.ps_try_as (i := 2) (tb := fun W => tAsg (tSubOS T.C_Turning (spTGet T.C_Turning T.C_BadName) (WE W) (tVar 0) (tVar 1)) (gName 3))
      (ts := fun a cls d => tRet (tAndV (tCallS spSame (fun _ => E0) (tCons (tByF T.C_BadName a cls d "text" (tVar 2)) (tCons (tVar 1) tNil))) (tAndV (tCB (rIsF K T.C_BadName a cls d) (tCons (tVar 2) (tCons (tC (.ref T.C_HornError)) tNil))) (tNotV (tCB (rIsF K T.C_BadName a cls d) (tCons (tVar 2) (tCons (tC (.ref T.C_BadLiteral)) tNil)))))))
      (Wout := fun _ _ _ _ => False) rfl rfl sc__law_no_index.nd rfl rfl ⟨rfl, by decide, Or.inl T.E_BadName.gC⟩ takes0N
      (fun W pn xe tk _ => (pss_one (ps_set (i := 3) sc__law_no_index.nd rfl (.inl rfl) (pe_subOS (getO T) (ok_Turning_getitem T) (hr.mono (by decide)) T.b_Turning_getitem (fun σ => L2N.passAt tk σ) (by exact (pv 0)) (by exact (pv 1))))))
      (fun a oe cls d pn hz hf => (pss_one (ps_ret (pe_and (L2H.pe_callH (okH__law_same T) (L2H.RoomH.mono (room_suite hr) (by decide)) (hot_suite hz hf) rfl T.g__law_same T.F__law_same.kp T.b__law_same pass0H (pa_cons (pe_byF T.E_BadName T.o_BadName hz.zc hf (pv 2)) (pa_cons (pv 1) pa_nil))) (pe_and (pe_callB (call_isF T.x_BadName hz.zc hf) (by rfl) T.n_isinstance (by decide +kernel) (pa_cons (pv 2) (pa_cons (pe_glob (v := .ref T.C_HornError) rfl T.g_HornError rfl) pa_nil))) (pe_one (pe_not (pe_callB (call_isF T.x_BadName hz.zc hf) (by rfl) T.n_isinstance (by decide +kernel) (pa_cons (pv 2) (pa_cons (pe_glob (v := .ref T.C_BadLiteral) rfl T.E_BadLiteral.gC rfl) pa_nil)))))))))))
      (pss_one ps_never)), ?_⟩
    obtain ⟨dx, p, ha, hp⟩ := id t
    refine ⟨_, rfl, _, rfl, a, dx, _, rfl, ha, a, D, z, rfl, t, hz, hc, fun hn => absurd hn (by rw [no]; decide), fun _ H1 d e1 hd => ?_⟩
    refine ⟨true, T.E_BadName.te, fun _ a na => ?_, fun q => Bool.noConfusion q⟩
    obtain ⟨b1, k1, rfl⟩ := T.k_BadName_HornError
    obtain ⟨b3, k3, rfl⟩ := T.k_BadName_BadLiteral
    refine ⟨_, rfl, rfl, rfl, d, _, rfl, hd, _, rfl, .str z, .str z, rfl, rfl, rfl, fun H2 e2 => ?_⟩
    have hx : ∀ dx, some d = some dx → ∃ fs, H2 dx = some (.xd fs) := fun dx e => ⟨[("text", .str z)], (Option.some.inj e) ▸ (e2 _ _ hd)⟩
    rw [show decide (V.str z = V.str z) = true from decide_eq_true rfl]
    refine ⟨_, rfl, iteT ?_⟩
    refine ⟨_, rfl, rfl, .ref T.C_HornError, .ref T.C_HornError, _, rfl, fun u e => e, hx, k1, _, rfl, iteT ?_⟩
    refine ⟨_, rfl, rfl, .ref T.C_BadLiteral, .ref T.C_BadLiteral, _, rfl, fun u e => e, hx, k3, _, rfl, ?_⟩
    exact q H2 (e1.trans e2)
theorem ev_sNS {σ : L2.St} {H : Hp} {ta tb : TE} {n : Nat} {L : List Str} {E : XK} {r : Addr} (ha : EvL ta σ H (L.map V.str)) (hb : Ev tb σ H (.ref r)) (hr : H r = some (.lst (L.map V.str))) (few : L.length ≤ 100) : Ev (tCall (spSameN (n + 1)) [] E (tCons ta (tCons tb tNil))) σ H (.bl true) := fun H1 e1 Q q =>
  ha H1 e1 _ fun p H2 np e2 hp => hb H2 (e1.trans e2) _ fun H3 e3 => ⟨_, _, rfl, .txts (e3 _ _ hp) (e3 _ _ (e2 _ _ (e1 _ _ hr))) few, fun H4 e4 => q H4 ((e2.trans e3).trans e4)⟩
theorem ev_sNB {σ : L2.St} {H : Hp} {ta tb : TE} {n : Nat} {L : List Bool} {E : XK} {r : Addr} (ha : EvL ta σ H (L.map V.bl)) (hb : Ev tb σ H (.ref r)) (hr : H r = some (.lst (L.map V.bl))) (few : L.length ≤ 100) : Ev (tCall (spSameN (n + 1)) [] E (tCons ta (tCons tb tNil))) σ H (.bl true) := fun H1 e1 Q q =>
  ha H1 e1 _ fun p H2 np e2 hp => hb H2 (e1.trans e2) _ fun H3 e3 => ⟨_, _, rfl, .bools (e3 _ _ hp) (e3 _ _ (e2 _ _ (e1 _ _ hr))) few, fun H4 e4 => q H4 ((e2.trans e3).trans e4)⟩
theorem ev_niT {C : Addr} {σ : L2.St} {H : Hp} {ta tb : TE} {a : Addr} {z : Str} {D : List Str} {E : XK} (h1 : Ev ta σ H (.str z)) (h2 : Ev tb σ H (.ref a)) (c : TnAt C H a D) : Ev (tOp (rInO C true (spTIn C) E) ta tb) σ H (.bl (!decide (z ∈ D))) :=
  ev_op h1 h2 fun H1 e1 Q q => by
    have c2 := c.mono e1
    obtain ⟨dx, p, ha, hp⟩ := id c2
    exact ⟨a, dx, _, rfl, ha, a, D, z, rfl, c2, fun H2 e2 => ⟨_, rfl, q H2 e2⟩⟩
end
section
open Evl
/-- _law_reports(turning, turned, names, strings) -/
def spReps (C : Addr) : Sp := fun vs H Q _ => ∃ (a l o s : Addr) (N L M S : List Str), vs = [.ref a, .ref l, .ref o, .ref s] ∧ TnAt C H a N ∧ H l = some (.lst (L.map V.str)) ∧ H o = some (.lst (M.map V.str)) ∧ H s = some (.lst (S.map V.str)) ∧ Ord L N ∧ L.length ≤ 40 ∧ NamesOk N ∧ M.length ≤ 40 ∧ (∀ z ∈ M, isName z = true) ∧ S.length ≤ 40 ∧ (∀ z ∈ S, isName z = false ∧ Txt8 20 z) ∧ ∀ H', Ex H H' → Q (.bl true) H'
theorem ok__law_reports (T : Txt P K mg) : FnOk P w K mg base CX0 10 T.f__law_reports T.d__law_reports ["_law_turning_here", "_law_turned", "_law_names_here", "_law_strings"] (spReps T.C_Turning) := by
  refine T.F__law_reports.ok sc__law_reports (fun vs H Q E h => ?_) (fun cdv A outer s H vs Q E hr h => ?_)
  · obtain ⟨a, l, o, s, N, L, M, S, rfl, _⟩ := h
    rfl
  · obtain ⟨a, l, o, r, N, L, M, S, rfl, t, hL, hM, hS, od, few, ok, lM, nM, lS, bS, q⟩ := h
    have lc : LtC K T.C_Turning T.f_Turning_iter T.f_Turning_len := ⟨T.m_Turning_iter, T.i_Turning_iter, T.m_Turning_len, beq_iff_eq.mp T.i_Turning_len⟩
    refine ⟨_, (pss_cons (ps_set (i := 4) sc__law_reports.nd rfl (.inl rfl) (pe_call (ok__law_sorted T) (hr.mono (by decide)) rfl T.g__law_sorted T.F__law_sorted.kp T.b__law_sorted .nil pass0 (pa_cons (pv 1) pa_nil)))
      (pss_cons (ps_set (i := 5) sc__law_reports.nd rfl (.inl rfl) (pe_bm PySem.F.plainAttrs_str PySem.F.slot_str_join PySem.F.type_str_join mt_join pe_str (pa_cons (pv 4) pa_nil)))
      (pss_cons (ps_if (pt_cmpR op_eq (pe_callB call_len_seq (by rfl) T.n_len PySem.boot_len (pa_cons (pv 1) pa_nil)) pe_int (nomark _)) (pss_one (ps_set (i := 5) sc__law_reports.nd rfl (.inl rfl) pe_str)) pss_nil)
      (pss_cons (ps_if (PW.pt (pw_or (pt_not (pt_val (pe_callB call_isi (by rfl) T.n_isinstance (by decide +kernel) (pa_cons (pv 0) (pa_cons (pe_glob (v := .ref T.C_Turning) rfl T.g_Turning rfl) pa_nil))))) (pw_or1 (pt_not (pt_val (pe_call (okN__law_same T 1) (hr.mono (by decide)) rfl T.g__law_same T.F__law_same.kp T.b__law_same .nil pass0 (pa_cons (pe_fld (pv 0) rfl) (pa_cons (pe_callTy call_tuple_of (by rfl) T.n_tuple (by decide +kernel) (pa_cons (pv 4) pa_nil)) pa_nil)))))))) (pss_one (ps_ret pe_bl)) pss_nil)
      (pss_cons (ps_if (PW.pt (pw_or (pt_not (pt_val (pe_call (okN__law_same T 1) (hr.mono (by decide)) rfl T.g__law_same T.F__law_same.kp T.b__law_same .nil pass0 (pa_cons (pe_callTy (call_listLt lc rfl (ok_Turning_iter T) T.b_Turning_iter (ok_Turning_len T) T.b_Turning_len (hr.mono (by decide))) (by rfl) T.n_list (by decide +kernel) (pa_cons (pv 0) pa_nil)) (pa_cons (pv 4) pa_nil))))) (pw_or1 (pt_not (pt_val (pe_call (okN__law_same T 1) (hr.mono (by decide)) rfl T.g__law_same T.F__law_same.kp T.b__law_same .nil pass0 (pa_cons (pe_callB (call_lenO T.m_Turning_len (beq_iff_eq.mp T.i_Turning_len) (ok_Turning_len T) (hr.mono (by decide)) T.b_Turning_len pass0) (by rfl) T.n_len PySem.boot_len (pa_cons (pv 0) pa_nil)) (pa_cons (pe_callB call_len_seq (by rfl) T.n_len PySem.boot_len (pa_cons (pv 4) pa_nil)) pa_nil)))))))) (pss_one (ps_ret pe_bl)) pss_nil)
      (pss_cons (ps_if (pt_not (pt_val (pe_call (okN__law_same T 1) (hr.mono (by decide)) rfl T.g__law_same T.F__law_same.kp T.b__law_same .nil pass0 (pa_cons (pe_callTy (call_strO T.m_Turning_str T.i_Turning_str (ok_Turning_str T) (hr.mono (by decide)) T.b_Turning_str pass0) (by rfl) T.n_str (by decide +kernel) (pa_cons (pv 0) pa_nil)) (pa_cons (pv 5) pa_nil))))) (pss_one (ps_ret pe_bl)) pss_nil)
      (pss_cons (ps_setLc (i := 6) (own := [("_law_name", 7)]) (g := gName 7) (te := tOp (rIn K false) (tVar 7) (tVar 1)) (by rfl) sc__law_reports.nd rfl rfl (sw_true rfl rfl rfl (by decide +kernel)) (pi_list (pv 2)) (blkOk_by (own := [("_law_name", 7)]) (N := N__law_reports) (sc := defScope s__law_reports) (by decide +kernel)) (fun _ _ _ _ _ => pg_name (i := 7) sc__law_reports.nd rfl (Or.inl rfl)) (fun _ _ _ _ _ => pts_nil) (fun _ _ _ _ _ => (pe_cmpR op_in_seq (pv 7) (pv 1) (by rfl))))
      (pss_cons (ps_if (PW.pt (pw_or (pt_not (pt_val (pe_call (okN__law_same T 1) (hr.mono (by decide)) rfl T.g__law_same T.F__law_same.kp T.b__law_same .nil pass0 (pa_cons (pe_lc (own := [("_law_name", 7)]) (g := gName 7) (te := tOp (rInO T.C_Turning false (spTIn T.C_Turning) E0) (tVar 7) (tVar 0)) (by rfl) sc__law_reports.nd (pi_list (pv 2)) (blkOk_by (own := [("_law_name", 7)]) (N := N__law_reports) (sc := defScope s__law_reports) (by decide +kernel)) (fun _ _ _ _ _ => pg_name (i := 7) sc__law_reports.nd rfl (Or.inl rfl)) (fun _ _ _ _ _ => pts_nil) (fun _ _ _ _ _ => (pe_cmpR (op_inO T.m_Turning_contains T.i_Turning_contains (ok_Turning_contains T) (hr.mono (by decide)) T.b_Turning_contains pass0) (pv 7) (pv 0) (by rfl)))) (pa_cons (pv 6) pa_nil))))) (pw_or1 (pt_not (pt_val (pe_call (okN__law_same T 1) (hr.mono (by decide)) rfl T.g__law_same T.F__law_same.kp T.b__law_same .nil pass0 (pa_cons (pe_lc (own := [("_law_name", 7)]) (g := gName 7) (te := tSubO T.C_Turning (spTGet T.C_Turning T.C_BadName) E0 (tVar 0) (tVar 7)) (by rfl) sc__law_reports.nd (pi_list (pv 2)) (blkOk_by (own := [("_law_name", 7)]) (N := N__law_reports) (sc := defScope s__law_reports) (by decide +kernel)) (fun _ _ _ _ _ => pg_name (i := 7) sc__law_reports.nd rfl (Or.inl rfl)) (fun _ _ _ _ _ => pts_nil) (fun _ _ _ _ _ => (pe_subO (getO T) (ok_Turning_getitem T) (hr.mono (by decide)) T.b_Turning_getitem passN0 (pv 0) (pv 7)))) (pa_cons (pv 6) pa_nil)))))))) (pss_one (ps_ret pe_bl)) pss_nil)
      (pss_one (ps_ret (pe_callB (cr_all rfl) (by rfl) T.n_all (by decide +kernel) (pa_cons (pe_lc (own := [("_law_string", 8)]) (g := gName 8) (te := tAndV (tCall (spNoIx T.C_Turning) [] E0 (tCons (tVar 0) (tCons (tVar 8) tNil))) (tOp (rInO T.C_Turning true (spTIn T.C_Turning) E0) (tVar 8) (tVar 0))) (by rfl) sc__law_reports.nd (pi_list (pv 3)) (blkOk_by (own := [("_law_string", 8)]) (N := N__law_reports) (sc := defScope s__law_reports) (by decide +kernel)) (fun _ _ _ _ _ => pg_name (i := 8) sc__law_reports.nd rfl (Or.inl rfl)) (fun _ _ _ _ _ => pts_nil) (fun _ _ _ _ _ => (pe_and (pe_call (ok__law_no_index T) (hr.mono (by decide)) rfl T.g__law_no_index T.F__law_no_index.kp T.b__law_no_index .nil pass0 (pa_cons (pv 0) (pa_cons (pv 8) pa_nil))) (pe_one (pe_cmpR (op_niO T.m_Turning_contains T.i_Turning_contains (ok_Turning_contains T) (hr.mono (by decide)) T.b_Turning_contains pass0) (pv 8) (pv 0) (by rfl)))))) pa_nil)))))))))))), ?_⟩
    have lN := ok.1
    refine q_asgL (el_sortV (els_at (ev_var rfl) hL) few od) fun u H1 nu e1 hU => ?_
    have t := t.mono e1
    have hL := e1 _ _ hL
    have hM := e1 _ _ hM
    have hS := e1 _ _ hS
    refine q_asg (ev_join (K := K) (sep := " ") (ev_var rfl) (.inl (sq_of hU)) (by omega) (fun z m => Nat.le_trans (name_txt (ok.2 z m)).1 (by decide)) (by decide)) fun H2 e2 => ?_
    have t := t.mono e2
    have hL := e2 _ _ hL
    have hM := e2 _ _ hM
    have hS := e2 _ _ hS
    have hU := e2 _ _ hU
    have ln : L = [] ↔ N = [] := by
      constructor
      · intro e
        cases N with
        | nil => rfl
        | cons x r => have := (od.mem x).mp List.mem_cons_self; rw [e] at this; cases this
      · intro e
        cases L with
        | nil => rfl
        | cons x r => have := (od.mem x).mpr List.mem_cons_self; rw [e] at this; cases this
    refine q_ifAsg (b := decide (V.int (L.length : Int) = V.int 0)) (v := .str (ttext N)) (et_test (ev_op (ev_is (ev_len (ev_var rfl) (sq_of hL)) (by rw [List.length_map])) ev_c (rv_eq rfl))) (fun c => ?_) (fun c => ?_) fun H3 e3 => ?_
    · have e : L = [] := List.eq_nil_of_length_eq_zero (by have z := V.int.inj (of_decide_eq_true c); omega)
      exact ev_is ev_c (by unfold ttext; rw [if_pos (ln.mp e)])
    · have ne : N ≠ [] := fun e => by
        have z := ln.mpr e
        rw [z] at c
        exact absurd c (by decide)
      unfold ttext
      rw [if_neg ne]
      rfl
    have t := t.mono e3
    have hL := e3 _ _ hL
    have hM := e3 _ _ hM
    have hS := e3 _ _ hS
    have hU := e3 _ _ hU
    have e13 := (e1.trans e2).trans e3
    obtain ⟨dx, p, ha, hp⟩ := id t
    refine q_when (b := false) (et_is (et_or (et_not (et_B (ev_isTn T (ev_var rfl) ha))) (fun _ => et_not (et_B (ev_sNU (n := 0) (ev_trd T (ev_var rfl) ha) hp (fun H4 e4 Q q => ⟨_, rfl, u, _, rfl, .inl ⟨SqL.of (e4 _ _ hU), fun l nl => q l _ nl (Ex.new nl) upd_same⟩⟩) (by omega))))) rfl) (fun z => by cases z) (fun _ H4 e4 => ?_)
    have t := t.mono e4
    have hL := e4 _ _ hL
    have hM := e4 _ _ hM
    have hS := e4 _ _ hS
    have hU := e4 _ _ hU
    refine q_when (b := false) (et_is (et_or (et_not (et_B (ev_sNS (n := 0) (el_listT (ev_var rfl) t (by omega)) (ev_var rfl) hU (by omega)))) (fun _ => et_not (et_B (ev_sN (x := .int (N.length : Int)) (ev_lenT (ev_var rfl) t (by omega)) (ev_is (ev_len (ev_var rfl) (sq_of hU)) (by rw [List.length_map])) rfl)))) rfl) (fun z => by cases z) (fun _ H5 e5 => ?_)
    have t := t.mono e5
    have hL := e5 _ _ hL
    have hM := e5 _ _ hM
    have hS := e5 _ _ hS
    refine q_when (b := false) (et_is (et_not (et_B (ev_sN (x := .str (ttext N)) (ev_strT (ev_var rfl) t ok) (ev_var rfl) rfl))) rfl) (fun z => by cases z) (fun _ H6 e6 => ?_)
    have t := t.mono e6
    have hL := e6 _ _ hL
    have hM := e6 _ _ hM
    have hS := e6 _ _ hS
    have b1 : EvL (tLc (iList K (tVar 2)) (gName 7) tYes (tOp (rIn K false) (tVar 7) (tVar 1)) [7]) [some (V.ref a), some (.ref l), some (.ref o), some (.ref r), some (.ref u), some (.str (ttext N)), none, none, none] H6 ((M.map fun z => decide (z ∈ L)).map V.bl) := by
      rw [← all_map]
      exact el_fmV (K := K) (fun _ => true) (fun z => V.bl (decide (z ∈ L))) (ev_var (i := 2) rfl) hM (by omega) (fun _ => rfl) (fun _ _ _ _ => et_yes) fun z m _ H7 e7 => ev_is (ev_op (x := .str z) (y := .ref l) (ev_var rfl) (ev_var rfl) (rv_isL (sq_of (e7 _ _ hL)) rfl (flat_str L))) (by rw [in_map])
    refine q_asgL b1 fun d H7 nd e7 hd => ?_
    have t := t.mono e7
    have hM := e7 _ _ hM
    have hS := e7 _ _ hS
    have lenB : (M.map fun z => decide (z ∈ L)).length ≤ 100 := by rw [List.length_map]; omega
    have b2 : EvL (tLc (iList K (tVar 2)) (gName 7) tYes (tOp (rInO T.C_Turning false (spTIn T.C_Turning) E0) (tVar 7) (tVar 0)) [7]) [some (V.ref a), some (.ref l), some (.ref o), some (.ref r), some (.ref u), some (.str (ttext N)), some (.ref d), none, none] H7 ((M.map fun z => decide (z ∈ L)).map V.bl) := by
      rw [← all_map]
      exact el_fmV (K := K) (fun _ => true) (fun z => V.bl (decide (z ∈ L))) (ev_var (i := 2) rfl) hM (by omega) (fun _ => rfl) (fun _ _ _ _ => et_yes) fun z m _ H8 e8 => ev_is (ev_inT (ev_var rfl) (ev_var rfl) (t.mono e8)) (by rw [decide_eq_decide.mpr (od.mem z)])
    have b3 : EvL (tLc (iList K (tVar 2)) (gName 7) tYes (tSubO T.C_Turning (spTGet T.C_Turning T.C_BadName) E0 (tVar 0) (tVar 7)) [7]) [some (V.ref a), some (.ref l), some (.ref o), some (.ref r), some (.ref u), some (.str (ttext N)), some (.ref d), none, none] H7 ((M.map fun z => decide (z ∈ L)).map V.bl) := by
      rw [← all_map]
      exact el_fmV (K := K) (fun _ => true) (fun z => V.bl (decide (z ∈ L))) (ev_var (i := 2) rfl) hM (by omega) (fun _ => rfl) (fun _ _ _ _ => et_yes) fun z m _ H8 e8 => ev_is (ev_getT (ev_var rfl) (ev_var rfl) (t.mono e8) (nM z m)) (by rw [decide_eq_decide.mpr (od.mem z)])
    refine q_when (b := false) (et_is (et_or (et_not (et_B (ev_sNB (n := 0) b2 (ev_var rfl) hd lenB))) (fun _ => et_not (et_B (ev_sNB (n := 0) b3 (ev_var rfl) hd lenB)))) rfl) (fun z => by cases z) (fun _ H8 e8 => ?_)
    have t := t.mono e8
    have hS := e8 _ _ hS
    refine s_ret (v := .bl true) (ev_allV (bs := S.map fun _ => true) ?_ (by rw [List.all_map]; exact List.all_eq_true.mpr fun _ _ => rfl)) fun H9 e9 => q H9 ((((((e13.trans e4).trans e5).trans e6).trans e7).trans e8).trans e9)
    rw [← all_map]
    exact el_fmV (K := K) (fun _ => true) (fun z => V.bl true) (ev_var rfl) hS (by omega) (fun _ => rfl) (fun _ _ _ _ => et_yes) fun z m _ H9 e9 => by
      obtain ⟨no, tx⟩ := bS z m
      have nin : z ∉ N := fun h => absurd (ok.2 z h) (by rw [no]; decide)
      exact ev_is (ev_andV (a := true) (b := true) (ev_call (ea_cons (ev_var rfl) (ea_cons (ev_var rfl) ea_nil)) fun Ha ea Q q E => ⟨a, N, z, rfl, (t.mono e9).mono ea, Nat.le_trans tx.1 (by decide), tx.2, no, q⟩) (fun _ => ev_is (ev_niT (ev_var rfl) (ev_var rfl) (t.mono e9)) (by rw [decide_eq_false nin]; rfl))) rfl
end
section
open Evl
theorem lt_unit0 {n k : Nat} (h : n + 16 * k + 200 < cLine) : n < cLine := by omega
theorem s_retE {te : TE} {En : Ends} {σ : L2.St} {H : Hp} (h : te σ H En.rt) : tRet te En σ H := h
theorem But.ex {a : Addr} {H H1 H2 : Hp} (B : But a H H1) (e : Ex H1 H2) : But a H H2 := fun c o n h => e _ _ (B c o n h)
theorem takeV (l : List V) (i : Nat) : l.take (min i l.length) = l.take i := by rw [← List.take_take, List.take_length]
theorem dropV (l : List V) (i : Nat) : l.drop (min i l.length) = l.drop i := by
  by_cases h : i ≤ l.length
  · rw [Nat.min_eq_left h]
  · rw [Nat.min_eq_right (by omega), List.drop_length, List.drop_eq_nil_of_le (by omega)]
theorem cutV_to (L : List Str) (k : Nat) : cutV (L.map V.str) none (some (k : Int)) = (L.take k).map V.str := by
  unfold cutV
  rw [HT.sIx_nat, HT.sIx_none, List.drop_zero, Nat.sub_zero, takeV, List.map_take]
theorem cutV_fr (L : List Str) (k : Nat) : cutV (L.map V.str) (some (k : Int)) none = (L.drop k).map V.str := by
  unfold cutV
  rw [HT.sIx_nat, HT.sIx_none, dropV, ← List.map_drop]
  exact List.take_of_length_le (by rw [List.length_map, List.length_map, List.length_drop]; omega)
theorem name_asc {L : List Str} (h : ∀ z ∈ L, isName z = true) : Asc L := fun z hz => (name_txt (h z hz)).2
/-- _law_passed(source, names) -/
def spPassed : Sp := fun vs H Q _ => ∃ (a l : Addr) (ns : List Int) (b : Addr) (nms : List Str), vs = [.ref a, .ref b] ∧ SrcL H a l ns ∧ H b = some (.lst (nms.map V.str)) ∧ b ≠ a ∧ nms.length = 13 ∧
  ∀ (H' : Hp) (p : Addr) (L : List Str), H p = none → SrcL H' a l ns → But a H H' → H' p = some (.lst (L.map V.str)) → (L.length ≤ 4 ∨ L.length = 13) → (∀ z ∈ L, z ∈ nms) → Q (.ref p) H'
theorem ok__law_passed (T : Txt P K mg) : FnOk P w K mg base CX0 2 T.f__law_passed T.d__law_passed ["_law_source_here", "_law_names_here"] spPassed := by
  refine T.F__law_passed.ok sc__law_passed (fun vs H Q E h => ?_) (fun cdv A outer s H vs Q E hr h => ?_)
  · obtain ⟨a, l, ns, b, nms, rfl, _⟩ := h
    rfl
  · obtain ⟨a, l, ns, b, nms, rfl, S, hb, ba, n13, q⟩ := h
    refine ⟨_, (pss_cons (ps_set (i := 2) sc__law_passed.nd rfl (.inl rfl) (pe_call (okL__law_take T) (hr.mono (by decide)) rfl T.g__law_take T.F__law_take.kp T.b__law_take .nil pass0 (pa_cons (pv 0) (pa_cons pe_int pa_nil))))
      (pss_cons (ps_if (pt_cmpR op_lt (pv 2) pe_int (nomark _)) (pss_one (ps_ret (pe_lc (own := [("_law_k", 6)]) (g := gName 6) (te := tOp (rIxL K) (tVar 1) (tCall spTakeL [] E0 (tCons (tVar 0) (tCons (tC (.int 5)) tNil)))) (by rfl) sc__law_passed.nd (pi_range1 rfl T.n_range (pa_cons (pv 2) pa_nil)) (blkOk_by (own := [("_law_k", 6)]) (N := N__law_passed) (sc := defScope s__law_passed) (by decide +kernel)) (fun _ _ _ _ _ => pg_name (i := 6) sc__law_passed.nd rfl (Or.inl rfl)) (fun _ _ _ _ _ => pts_nil) (fun _ _ _ _ _ => (pe_ix (r := rIxL K) ix_list (pv 1) (pe_call (okL__law_take T) (hr.mono (by decide)) rfl T.g__law_take T.F__law_take.kp T.b__law_take .nil pass0 (pa_cons (pv 0) (pa_cons pe_int pa_nil))) (fun _ _ => rfl)))))) pss_nil)
      (pss_cons (ps_set (i := 3) sc__law_passed.nd rfl (.inl rfl) (pe_call (okL__law_take T) (hr.mono (by decide)) rfl T.g__law_take T.F__law_take.kp T.b__law_take .nil pass0 (pa_cons (pv 0) (pa_cons pe_int pa_nil))))
      (pss_cons (ps_set (i := 4) sc__law_passed.nd rfl (.inl rfl) (pe_op op_cat (pe_slice sl_list (pv 1) (po_some (pv 3)) po_none) (pe_slice sl_list (pv 1) po_none (po_some (pv 3)))))
      (Evl.pss_cut (ps_if (pt_cmpR op_eq (pe_call (okL__law_take T) (hr.mono (by decide)) rfl T.g__law_take T.F__law_take.kp T.b__law_take .nil pass0 (pa_cons (pv 0) (pa_cons pe_int pa_nil))) pe_int (nomark _)) (pss_cons (ps_set (i := 5) sc__law_passed.nd rfl (.inl rfl) (pe_call (okL__law_take T) (hr.mono (by decide)) rfl T.g__law_take T.F__law_take.kp T.b__law_take .nil pass0 (pa_cons (pv 0) (pa_cons pe_int pa_nil))))
      (pss_one (ps_asg (pe_ix (r := rIxL K) ix_list (pv 1) (pe_call (okL__law_take T) (hr.mono (by decide)) rfl T.g__law_take T.F__law_take.kp T.b__law_take .nil pass0 (pa_cons (pv 0) (pa_cons pe_int pa_nil))) (fun _ _ => rfl)) (pg_sub (pv 4) (pv 5) set_list)))) pss_nil)
      (pss_one (ps_ret (pv 4)))))))), ?_⟩
    have item : ∀ {k : Int}, 0 ≤ k → k < 13 → ∃ z, (nms.map V.str)[k.toNat]? = some (.str z) ∧ z ∈ nms := fun {k} k0 k1 => by
      have kl : k.toNat < nms.length := by omega
      exact ⟨nms[k.toNat], by rw [List.getElem?_map, List.getElem?_eq_getElem kl] <;> rfl, List.getElem_mem kl⟩
    refine ⟨.ref a, rfl, a, 6, l, ns, rfl, S, by decide, by decide, fun H1 m m0 m1 S1 B1 => ?_⟩
    have hb1 := B1 _ _ ba hb
    refine q_when (b := decide (m < 5)) (et_test (ev_op (ev_var rfl) ev_c (fun H7 e7 Q q => ⟨_, _, rfl, rfl, q H7 (Ex.refl H7)⟩))) (fun c H2 e2 => ?_) (fun c H2 e2 => ?_)
    · have m5 : m < 5 := of_decide_eq_true c
      have hb2 := e2 _ _ hb1
      have S2 := srl_ex S1 e2
      have B2 := B1.ex e2
      refine s_retE ⟨_, rfl, m, rfl, by omega, by omega, fun D nD => lc_range (lo := 0) (n := m.toNat) (fun i H' => SrcL H' a l ns ∧ But a H H' ∧ ∃ L : List Str, H' D = some (.lst (L.map V.str)) ∧ L.length = i ∧ ∀ z ∈ L, z ∈ nms) ⟨srl_new S2 nD, B2.trans fun c o n e => by rw [upd_ne (ne_of_none e nD)]; exact e, [], upd_same, rfl, fun z hz => by cases hz⟩ ?_ ?_⟩
      · rintro i H3 hi ⟨S3, B3, L, h3, ln, sub⟩
        refine ⟨rfl, ?_⟩
        unfold tYes
        dsimp only
        rw [if_pos rfl]
        have offD := srl_off S2 nD
        refine ⟨_, rfl, _, rfl, a, 5, l, ns, rfl, S3, by decide, by decide, fun H4 k k0 k1 S4 B4 => ?_⟩
        obtain ⟨z, hz, zm⟩ := item k0 (by omega)
        have h4 := B4 _ _ offD.1 h3
        refine ⟨b, _, k, _, rfl, rfl, SqL.of (B4 _ _ ba (B3 _ _ ba hb)), at_of (by omega) hz, _, h4, by rw [List.length_map]; exact sz_lt (by omega), srl_put S4 offD.1 offD.2, (B3.trans B4).upd2 (B2.fresh (srl_at S) nD offD.1), L ++ [z], by rw [upd_same, List.map_append] <;> rfl, by rw [List.length_append, ln] <;> rfl, fun y hy => ?_⟩
        rcases List.mem_append.mp hy with h | h
        · exact sub y h
        · rw [List.mem_singleton.mp h]; exact zm
      · rintro H3 ⟨S3, B3, L, h3, ln, sub⟩
        have offD := srl_off S2 nD
        exact q H3 D L (B2.fresh (srl_at S) nD offD.1) S3 B3 h3 (.inl (by omega)) sub
    · have S2 := srl_ex S1 e2
      have B2 := B1.ex e2
      refine ⟨.ref a, rfl, a, 13, l, ns, rfl, S2, by decide, by decide, fun H3 sh s0 s1 S3 B3 => ?_⟩
      have hb3 := B3 _ _ ba (e2 _ _ hb1)
      obtain ⟨n, rfl⟩ := Int.eq_ofNat_of_zero_le s0
      have cat : EvL (tOp rCat (tSl (rSlL K) (tVar 1) (tPart (tVar 3)) tNoPart) (tSl (rSlL K) (tVar 1) tNoPart (tPart (tVar 3)))) [some (V.ref a), some (.ref b), some (.int m), some (.int (n : Int)), none, none, none] H3 ((nms.drop n ++ nms.take n).map V.str) := by
        have z := el_cat (els_new (el_sl (K := K) (σ := [some (V.ref a), some (.ref b), some (.int m), some (.int (n : Int)), none, none, none]) (ev_var (i := 1) rfl) (eo_some (ev_var (i := 3) rfl)) eo_none (sq_of hb3))) (els_new (el_sl (K := K) (ev_var (i := 1) rfl) eo_none (eo_some (ev_var (i := 3) rfl)) (sq_of hb3))) (by rw [cutV_fr, cutV_to, List.length_map, List.length_map, List.length_drop, List.length_take]; omega)
        rw [cutV_fr, cutV_to, ← List.map_append] at z
        exact z
      refine q_asgL cat fun p H4 np e4 hp => ?_
      have S4 := srl_ex S3 e4
      have B4 := (B2.trans B3).ex e4
      have pa : p ≠ a := (srl_off S3 np).1
      have pl : p ≠ l := (srl_off S3 np).2
      have np0 : H p = none := (B2.trans B3).fresh (srl_at S) np pa
      have pb : b ≠ p := ne_of_none hb np0
      have lenR : (nms.drop n ++ nms.take n).length = 13 := by rw [List.length_append, List.length_drop, List.length_take]; omega
      have subR : ∀ z ∈ nms.drop n ++ nms.take n, z ∈ nms := fun z hz => by
        rcases List.mem_append.mp hz with h | h
        · exact List.mem_of_mem_drop h
        · exact List.mem_of_mem_take h
      generalize nms.drop n ++ nms.take n = R at hp lenR subR
      refine q_cut (M := fun σ' H' => ∃ (v5 : Option V) (L : List Str), σ' = [some (V.ref a), some (.ref b), some (.int m), some (.int (n : Int)), some (.ref p), v5, none] ∧ SrcL H' a l ns ∧ But a H H' ∧ H' p = some (.lst (L.map V.str)) ∧ L.length = 13 ∧ ∀ z ∈ L, z ∈ nms) ?_ ?_
      · refine ⟨.ref a, rfl, a, 2, l, ns, rfl, S4, by decide, by decide, fun H5 x x0 x1 S5 B5 => ⟨rfl, _, rfl, ite2 (fun _ => ?_) (fun _ => ?_)⟩⟩
        · refine ⟨.ref a, rfl, a, 13, l, ns, rfl, S5, by decide, by decide, fun H6 y y0 y1 S6 B6 => ?_⟩
          refine ⟨_, rfl, .ref a, rfl, a, 13, l, ns, rfl, S6, by decide, by decide, fun H7 k k0 k1 S7 B7 => ?_⟩
          obtain ⟨z, hz, zm⟩ := item k0 k1
          have hb7 := B7 _ _ ba (B6 _ _ ba (B5 _ _ ba (B4 _ _ ba hb)))
          have hp7 := B7 _ _ pa (B6 _ _ pa (B5 _ _ pa hp))
          obtain ⟨j, rfl⟩ := Int.eq_ofNat_of_zero_le y0
          refine ⟨b, _, k, _, rfl, rfl, SqL.of hb7, at_of (by omega) hz, _, rfl, _, rfl, p, _, _, j, rfl, rfl, hp7, ixN_nat (by rw [List.length_map]; omega), _, R.set j z, rfl, srl_put S7 pa pl, (((B4.trans B5).trans B6).trans B7).upd2 np0, by rw [upd_same, List.map_set], by rw [List.length_set]; exact lenR, fun y hy => ?_⟩
          rcases List.mem_or_eq_of_mem_set hy with h | h
          · exact subR y h
          · rw [h]; exact zm
        · exact ⟨_, R, rfl, S5, B4.trans B5, B5 _ _ pa hp, lenR, subR⟩
      · rintro σ' H5 ⟨v5, L, rfl, S5, B5, h5, ln, sub⟩
        exact ⟨_, rfl, q H5 p L np0 S5 B5 h5 (.inr ln) sub⟩
/-- _law_same(_law_told(row), _law_due(row, bad)) -/
theorem ev_jd {σ : L2.St} {H : Hp} {ta tb tc : TE} {r b : Addr} {L B : List Str} {E : XK} (h1 : Ev ta σ H (.ref r)) (h2 : Ev tb σ H (.ref r)) (h3 : Ev tc σ H (.ref b)) (hR : H r = some (.lst (L.map V.str))) (hB : H b = some (.lst (B.map V.str))) (few : L.length ≤ 4 ∨ L.length = 13) (txt : ∀ z ∈ L, Txt8 20 z) (bad : ∀ z ∈ L, z ∈ B ↔ isName z = false) :
    Ev (tCall (spSameN 2) [] E (tCons (tCall spToldK [] E0 (tCons ta tNil)) (tCons (tCall spDueK [] E0 (tCons tb (tCons tc tNil))) tNil))) σ H (.bl true) := fun H1 e1 Q q => by
  obtain ⟨R, od⟩ := ord_any L
  exact h1 H1 e1 _ fun H2 e2 => ⟨r, L, rfl, (e1.trans e2) _ _ hR, few, txt, fun v H3 e3 jt => h2 H3 ((e1.trans e2).trans e3) _ fun H4 e4 => h3 H4 (((e1.trans e2).trans e3).trans e4) _ fun H5 e5 => by
    have e15 := (((e1.trans e2).trans e3).trans e4).trans e5
    exact ⟨r, b, L, B, rfl, e15 _ _ hR, e15 _ _ hB, by omega, bad, fun v2 H6 e6 jt2 => ⟨v, v2, rfl, same_jk (R := R) (((jt R od).mono (e4.trans e5)).mono e6) (jt2 R od), fun H7 e7 => q H7 (((((e2.trans e3).trans e4).trans e5).trans e6).trans e7)⟩⟩⟩
theorem tn_var2 {C : Addr} {σ : L2.St} {H : Hp} {te : TE} {a : Addr} {N : List Str} (h : Ev te σ H (.ref a)) (t : TnAt C H a N) : EvTn C te σ H N := tn_var h t
/-- _law_made(row) of names, few of them -/
theorem en_made {C CB CT : Addr} {σ : L2.St} {H : Hp} {te : TE} {r : Addr} {L N : List Str} (h : Ev te σ H (.ref r)) (hr : H r = some (.lst (L.map V.str))) (few : L.length ≤ 4 ∨ L.length = 13) (nm : ∀ z ∈ L, isName z = true) (od : Ord L N) (small : N.length ≤ 12) : EvTn C (tCall (spMade C CB CT) [] E0 (tCons te tNil)) σ H N := fun H1 e1 Q q =>
  h H1 e1 _ fun H2 e2 => ⟨r, L, rfl, e2 _ _ (e1 _ _ hr), few, fun z hz => (name_txt (nm z hz)).mono (by decide), mkt_row nm od small fun x H3 e3 t => q x H3 (e2.trans e3) t⟩
/-- s == t -/
theorem ev_eqT (T : Txt P K mg) {σ : L2.St} {H : Hp} {ta tb : TE} {a : Addr} {N M : List Str} {E : XK} (h1 : Ev ta σ H (.ref a)) (t1 : TnAt T.C_Turning H a N) (h2 : EvTn T.C_Turning tb σ H M) (n1 : ∀ z ∈ N, isName z = true) (n2 : ∀ z ∈ M, isName z = true) : Ev (tOp (rCmO K T.C_Turning (spTEq T.C_Turning) E) ta tb) σ H (.bl (decide (N = M))) := fun H1 e1 Q q =>
  h1 H1 e1 _ fun H2 e2 => h2 H2 (e1.trans e2) _ fun b H3 e3 tb => by
    have ta := t1.mono ((e1.trans e2).trans e3)
    obtain ⟨dx, p, ha, _⟩ := id ta
    obtain ⟨dy, r, hb, _⟩ := id tb
    exact ⟨a, dx, _, .ref T.C_Turning, rfl, ha, ty_turning T hb, (by unfold PySem.W.notFirst; simp), a, b, N, M, rfl, ta, tb, name_asc n1, name_asc n2, fun H4 e4 => q H4 ((e2.trans e3).trans e4)⟩
theorem ev_reps {C : Addr} {σ : L2.St} {H : Hp} {ta tl tm ts : TE} {a o s : Addr} {N L M S : List Str} {E : XK} (h1 : Ev ta σ H (.ref a)) (t : TnAt C H a N) (h2 : EvLs tl σ H (L.map V.str)) (h3 : Ev tm σ H (.ref o)) (hM : H o = some (.lst (M.map V.str))) (h4 : Ev ts σ H (.ref s)) (hS : H s = some (.lst (S.map V.str))) (od : Ord L N) (few : L.length ≤ 40) (ok : NamesOk N) (lM : M.length ≤ 40) (nM : ∀ z ∈ M, isName z = true) (lS : S.length ≤ 40) (bS : ∀ z ∈ S, isName z = false ∧ Txt8 20 z) :
    Ev (tCall (spReps C) [] E (tCons ta (tCons tl (tCons tm (tCons ts tNil))))) σ H (.bl true) := fun H1 e1 Q q =>
  h1 H1 e1 _ fun H2 e2 => h2 H2 (e1.trans e2) _ fun l H3 e3 hl => h3 H3 ((e1.trans e2).trans e3) _ fun H4 e4 => h4 H4 (((e1.trans e2).trans e3).trans e4) _ fun H5 e5 => by
    have e15 := (((e1.trans e2).trans e3).trans e4).trans e5
    exact ⟨a, l, o, s, N, L, M, S, rfl, t.mono e15, (e4.trans e5) _ _ hl, e15 _ _ hM, e15 _ _ hS, od, few, ok, lM, nM, lS, bS, fun H6 e6 => q H6 ((((e2.trans e3).trans e4).trans e5).trans e6)⟩
end
section
open Evl
theorem s_asgE' {te : TE} {i : Nat} {tz : TS} {En : Ends} {σ : L2.St} {H : Hp} (h : te σ H fun v H1 => tz En (σ.set i (some v)) H1) : tSeq (tAsg te (gName i)) tz En σ H := h
theorem badTx {L : List Str} (h : ∀ z ∈ L, isName z = false ∧ Txt8 20 z) : ∀ z ∈ L, Txt8 20 z := fun z hz => (h z hz).2
theorem ev_limit (T : Txt P K mg) {σ : L2.St} {H : Hp} : Ev (ClX.tCVal K (tC (.ref T.C_Turning)) "LIMIT") σ H (.int 12) := fun H1 _ Q q => by
  obtain ⟨u12, cv12⟩ := T.V_Turning_LIMIT
  exact ⟨T.C_Turning, .type "type", .int 12, u12, rfl, T.R_Turning, cv12, q H1 (Ex.refl H1)⟩
theorem ok_law (T : Txt P K mg) : FnOk P w K mg base CX0 14 T.f_law T.d_law ["_law_script"] (spLaw K) := by
  refine T.F_law.ok sc_law (fun vs H Q E h => ?_) (fun cdv A outer s H vs Q E hr h => ?_)
  · obtain ⟨a, ns, rfl, _⟩ := h
    rfl
  · obtain ⟨a, ns0, rfl, hS, hl, kk⟩ := h
    have hu := hr.un
    refine ⟨_, (pss_cons (ps_set (i := 1) sc_law.nd rfl (.inr rfl) (pe_call (ok__law_source T) (hr.mono (by decide)) rfl T.g__law_source T.F__law_source.kp T.b__law_source .nil pass0 (pa_cons (pv 0) pa_nil)))
      (pss_cons (ps_set (i := 2) sc_law.nd rfl (.inr rfl) (pe_call (ok__law_names T) (hr.mono (by decide)) rfl T.g__law_names T.F__law_names.kp T.b__law_names .nil pass0 (pa_cons (pv 1) (pa_cons pe_int pa_nil))))
      (pss_cons (ps_set (i := 3) sc_law.nd rfl (.inl rfl) (pe_call (ok__law_passed T) (hr.mono (by decide)) rfl T.g__law_passed T.F__law_passed.kp T.b__law_passed .nil pass0 (pa_cons (pv 1) (pa_cons (pv 2) pa_nil))))
      (pss_cons (ps_set (i := 4) sc_law.nd rfl (.inl rfl) (pe_lst pa_nil))
      (Evl.pss_cut (ps_if (PW.pt (pw_and (pt_cmpR op_gt (pe_callB call_len_seq (by rfl) T.n_len PySem.boot_len (pa_cons (pv 3) pa_nil)) pe_int (nomark _)) (pw_and1 (pt_cmpR op_eq (pe_call (okL__law_take T) (hr.mono (by decide)) rfl T.g__law_take T.F__law_take.kp T.b__law_take .nil pass0 (pa_cons (pv 1) (pa_cons pe_int pa_nil))) pe_int (nomark _))))) (pss_one (ps_for PassesOwn.never rfl (pi_range1 rfl T.n_range (pa_cons (pe_op op_add pe_int (pe_call (okL__law_take T) (hr.mono (by decide)) rfl T.g__law_take T.F__law_take.kp T.b__law_take .nil pass0 (pa_cons (pv 1) (pa_cons pe_int pa_nil)))) pa_nil)) (pg_name (i := 9) sc_law.nd rfl (.inl rfl)) (pss_cons (ps_expr (pe_bm PySem.F.plainAttrs_list PySem.F.slot_list_append PySem.F.type_list_append mt_append (pv 4) (pa_cons (pe_call (ok__law_no_name T) (hr.mono (by decide)) rfl T.g__law_no_name T.F__law_no_name.kp T.b__law_no_name .nil pass0 (pa_cons (pv 1) (pa_cons (pe_ix ix_list (pv 2) (pv 9) (fun _ _ => rfl)) pa_nil))) pa_nil)))
      (pss_one (ps_asg (pe_ix ix_list (pv 4) (pv 9) (fun _ _ => rfl)) (pg_sub (pv 3) (pe_call (okL__law_take T) (hr.mono (by decide)) rfl T.g__law_take T.F__law_take.kp T.b__law_take .nil pass0 (pa_cons (pv 1) (pa_cons (pe_callB call_len_seq (by rfl) T.n_len PySem.boot_len (pa_cons (pv 3) pa_nil)) pa_nil))) set_list)))))) pss_nil)
      (pss_cons (ps_set (i := 5) sc_law.nd rfl (.inl rfl) (pe_revL (pv 3)))
      (pss_cons (ps_if (PW.pt (pw_or (pt_not (pt_val (pe_call (okN__law_same T 2) (hr.mono (by decide)) rfl T.g__law_same T.F__law_same.kp T.b__law_same .nil pass0 (pa_cons (pe_call (ok__law_told T) (hr.mono (by decide)) rfl T.g__law_told T.F__law_told.kp T.b__law_told .nil pass0 (pa_cons (pv 3) pa_nil)) (pa_cons (pe_call (ok__law_due T) (hr.mono (by decide)) rfl T.g__law_due T.F__law_due.kp T.b__law_due .nil pass0 (pa_cons (pv 3) (pa_cons (pv 4) pa_nil))) pa_nil))))) (pw_or1 (pt_not (pt_val (pe_call (okN__law_same T 2) (hr.mono (by decide)) rfl T.g__law_same T.F__law_same.kp T.b__law_same .nil pass0 (pa_cons (pe_call (ok__law_told T) (hr.mono (by decide)) rfl T.g__law_told T.F__law_told.kp T.b__law_told .nil pass0 (pa_cons (pv 5) pa_nil)) (pa_cons (pe_call (ok__law_due T) (hr.mono (by decide)) rfl T.g__law_due T.F__law_due.kp T.b__law_due .nil pass0 (pa_cons (pv 5) (pa_cons (pv 4) pa_nil))) pa_nil)))))))) (pss_one (ps_ret pe_bl)) pss_nil)
      (pss_cons (ps_set (i := 6) sc_law.nd rfl (.inl rfl) (pe_slice sl_list (pv 2) po_none (po_some (pe_call (okL__law_take T) (hr.mono (by decide)) rfl T.g__law_take T.F__law_take.kp T.b__law_take .nil pass0 (pa_cons (pv 1) (pa_cons pe_int pa_nil))))))
      (pss_cons (ps_set (i := 7) sc_law.nd rfl (.inl rfl) (pe_call (ok__law_turning T) (hr.mono (by decide)) rfl T.g__law_turning T.F__law_turning.kp T.b__law_turning .nil pass0 (pa_cons (pv 6) pa_nil)))
      (pss_cons (ps_setLc (i := 8) (own := [("_law_k", 9)]) (g := gName 9) (te := tCall spNoName [] E0 (tCons (tVar 1) (tCons (tOp (rIxL K) (tVar 2) (tVar 9)) tNil))) (by rfl) sc_law.nd rfl rfl (sw_true rfl rfl rfl (by decide +kernel)) (pi_range1 rfl T.n_range (pa_cons pe_int pa_nil)) (blkOk_by (own := [("_law_k", 9)]) (N := N_law) (sc := defScope s_law) (by decide +kernel)) (fun _ _ _ _ _ => pg_name (i := 9) sc_law.nd rfl (Or.inl rfl)) (fun _ _ _ _ _ => pts_nil) (fun _ _ _ _ _ => (pe_call (ok__law_no_name T) (hr.mono (by decide)) rfl T.g__law_no_name T.F__law_no_name.kp T.b__law_no_name .nil pass0 (pa_cons (pv 1) (pa_cons (pe_ix ix_list (pv 2) (pv 9) (fun _ _ => rfl)) pa_nil)))))
      (pss_cons (ps_if (PW.pt (pw_or (pt_not (pt_val (pe_call (ok__law_reports T) (hr.mono (by decide)) rfl T.g__law_reports T.F__law_reports.kp T.b__law_reports .nil pass0 (pa_cons (pv 7) (pa_cons (pv 6) (pa_cons (pv 2) (pa_cons (pv 8) pa_nil))))))) (pw_or1 (pt_not (pt_val (pe_call (okN__law_same T 2) (hr.mono (by decide)) rfl T.g__law_same T.F__law_same.kp T.b__law_same .nil pass0 (pa_cons (ClX.pe_cval (pe_glob (v := .ref T.C_Turning) rfl T.g_Turning rfl)) (pa_cons pe_int pa_nil)))))))) (pss_one (ps_ret pe_bl)) pss_nil)
      (pss_cons (ps_if (pt_cmpR op_eq (pe_ix ix_tup (pe_call (ok__law_due T) (hr.mono (by decide)) rfl T.g__law_due T.F__law_due.kp T.b__law_due .nil pass0 (pa_cons (pv 3) (pa_cons (pv 4) pa_nil))) pe_int (fun _ _ => rfl)) pe_str (nomark _)) (pss_cons (ps_set (i := 10) sc_law.nd rfl (.inl rfl) (pe_call (ok__law_made T) (hr.mono (by decide)) rfl T.g__law_made T.F__law_made.kp T.b__law_made .nil passN0 (pa_cons (pv 3) pa_nil)))
      (pss_cons (ps_set (i := 11) sc_law.nd rfl (.inl rfl) (pe_cmpR (op_eqLL (by exact lt_units (k := 13) hu)) (pe_call (ok__law_sorted T) (hr.mono (by decide)) rfl T.g__law_sorted T.F__law_sorted.kp T.b__law_sorted .nil pass0 (pa_cons (pv 3) pa_nil)) (pe_call (ok__law_sorted T) (hr.mono (by decide)) rfl T.g__law_sorted T.F__law_sorted.kp T.b__law_sorted .nil pass0 (pa_cons (pv 6) pa_nil)) (nomark _)))
      (pss_cons (ps_if (pt_not (pt_val (pe_call (okN__law_same T 2) (hr.mono (by decide)) rfl T.g__law_same T.F__law_same.kp T.b__law_same .nil pass0 (pa_cons (pe_lst (pa_cons (pe_cmpR (op_cmO ⟨T.m_Turning_eq, T.i_Turning_eq⟩ (fun _ _ => rfl) (by exact lt_unit0 (k := 13) hu) (ok_Turning_eq T) (hr.mono (by decide)) T.b_Turning_eq pass0) (pv 10) (pv 7) (nomark _)) (pa_cons (pe_cmpR (op_cmO ⟨T.m_Turning_eq, T.i_Turning_eq⟩ (fun _ _ => rfl) (by exact lt_unit0 (k := 13) hu) (ok_Turning_eq T) (hr.mono (by decide)) T.b_Turning_eq pass0) (pv 10) (pe_call (ok__law_made T) (hr.mono (by decide)) rfl T.g__law_made T.F__law_made.kp T.b__law_made .nil passN0 (pa_cons (pv 5) pa_nil)) (nomark _)) pa_nil))) (pa_cons (pe_lst (pa_cons (pv 11) (pa_cons pe_bl pa_nil))) pa_nil))))) (pss_one (ps_ret pe_bl)) pss_nil)
      (pss_one (ps_ret (pe_call (ok__law_reports T) (hr.mono (by decide)) rfl T.g__law_reports T.F__law_reports.kp T.b__law_reports .nil pass0 (pa_cons (pv 10) (pa_cons (pe_call (ok__law_sorted T) (hr.mono (by decide)) rfl T.g__law_sorted T.F__law_sorted.kp T.b__law_sorted .nil pass0 (pa_cons (pv 3) pa_nil)) (pa_cons (pv 2) (pa_cons (pv 8) pa_nil)))))))))) pss_nil)
      (pss_one (ps_ret pe_bl)))))))))))))), ?_⟩
    refine ⟨.ref a, rfl, a, ns0, rfl, hS, fun H1 u S1 nu0 same => ?_⟩
    obtain ⟨l, ns, SL⟩ := S1
    refine ⟨.ref u, rfl, u, l, ns, 13, rfl, SL, by decide, by decide, fun H2 pn nms n2 S2 B2 h2 cnt ok nd => ?_⟩
    have c13 : nms.length = 13 := cnt
    have pnu := (srl_off SL n2).1
    refine ⟨.ref u, rfl, .ref pn, rfl, u, l, ns, pn, nms, rfl, S2, h2, pnu, c13, fun H3 pr L0 n3 S3 B3 h3 len0 sub0 => ?_⟩
    have offr := srl_off S2 n3
    have hN := B3 _ _ pnu h2
    have prn : pr ≠ pn := fun e => by rw [e, h2] at n3; cases n3
    have nmL0 : ∀ z ∈ L0, isName z = true := fun z hz => ok z (sub0 z hz)
    refine ⟨(by show 0 ≤ sizeLine; decide), fun pb nb => ?_⟩
    have offb := srl_off S3 nb
    have pbn : pb ≠ pn := fun e => by rw [e, hN] at nb; cases nb
    have pbr : pb ≠ pr := fun e => by rw [e, h3] at nb; cases nb
    have nw := Ex.new (o := .lst []) nb
    have S4 := srl_new S3 nb (o := .lst [])
    refine q_cut (M := fun σ' H' => ∃ (v9 : Option V) (L B : List Str), σ' = [some (V.ref a), some (.ref u), some (.ref pn), some (.ref pr), some (.ref pb), none, none, none, none, v9, none, none] ∧ SrcL H' u l ns ∧ H' pn = some (.lst (nms.map V.str)) ∧ H' pr = some (.lst (L.map V.str)) ∧ H' pb = some (.lst (B.map V.str)) ∧ L.length = L0.length ∧ (∀ z ∈ B, isName z = false ∧ Txt8 20 z) ∧ (∀ z ∈ L, isName z = true ∨ z ∈ B)) ?_ ?_
    · refine ⟨.ref pr, rfl, pr, _, rfl, .inl (SqL.of (nw _ _ h3)), _, _, rfl, rfl, _, rfl, ite2 (fun big => ?_) (fun _ => ?_)⟩
      · have l0 : 0 < L0.length := by
          have z := of_decide_eq_true big
          rw [List.length_map] at z
          omega
        refine ⟨.ref u, rfl, u, 4, l, ns, rfl, S4, by decide, by decide, fun H5 x x0 x1 S5 B5 => ⟨rfl, _, rfl, ite2 (fun _ => ?_) (fun _ => ?_)⟩⟩
        · refine ⟨.ref u, rfl, u, 2, l, ns, rfl, S5, by decide, by decide, fun H6 m m0 m1 S6 B6 => ⟨_, _, rfl, rfl, ?_⟩⟩
          have hN6 := B6 _ _ pnu (B5 _ _ pnu (nw _ _ hN))
          have hR6 := B6 _ _ offr.1 (B5 _ _ offr.1 (nw _ _ h3))
          have hB6 := B6 _ _ offb.1 (B5 _ _ offb.1 upd_same)
          refine ⟨1 + m, rfl, by omega, by omega, for_range (lo := 0) (n := (1 + m).toNat) (fun i σ H' => ∃ (v9 : Option V) (L B : List Str), σ = [some (V.ref a), some (.ref u), some (.ref pn), some (.ref pr), some (.ref pb), none, none, none, none, v9, none, none] ∧ SrcL H' u l ns ∧ H' pn = some (.lst (nms.map V.str)) ∧ H' pr = some (.lst (L.map V.str)) ∧ H' pb = some (.lst (B.map V.str)) ∧ B.length = i ∧ L.length = L0.length ∧ (∀ z ∈ B, isName z = false ∧ Txt8 20 z) ∧ (∀ z ∈ L, isName z = true ∨ z ∈ B))
            ⟨_, L0, [], rfl, S6, hN6, hR6, hB6, rfl, rfl, fun z hz => (by cases hz), fun z hz => .inl (nmL0 z hz)⟩ ?_ ?_⟩
          · rintro i σ H7 hi ⟨v9, L, B, rfl, S7, hN7, hR7, hB7, lB, lL, bad, mix⟩
            have il : i < nms.length := by omega
            have hk : (nms.map V.str)[i]? = some (.str nms[i]) := by rw [List.getElem?_map, List.getElem?_eq_getElem il] <;> rfl
            refine ⟨.ref pb, rfl, Or.inl ⟨rfl, _, SqL.of hB7⟩, ?_⟩
            refine ⟨.ref u, rfl, .ref pn, rfl, _, rfl, pn, _, 0 + (i : Int), _, rfl, rfl, SqL.of hN7, (by rw [Int.zero_add]; exact atI_nat (j := i) hk), u, l, ns, nms[i], rfl, S7, ok _ (List.getElem_mem il), fun H8 z no tz S8 B8 => ?_⟩
            have hN8 := B8 _ _ pnu hN7
            have hR8 := B8 _ _ offr.1 hR7
            have hB8 := B8 _ _ offb.1 hB7
            refine ⟨pb, _, _, rfl, rfl, hB8, by rw [List.length_map]; exact sz_lt (by omega), ?_⟩
            have S9 : SrcL (upd H8 pb (.lst (B.map V.str ++ [.str z]))) u l ns := srl_put S8 offb.1 offb.2
            have hB9 : (upd H8 pb (.lst (B.map V.str ++ [.str z]))) pb = some (.lst ((B ++ [z]).map V.str)) := by rw [upd_same, List.map_append] <;> rfl
            have hN9 : (upd H8 pb (.lst (B.map V.str ++ [.str z]))) pn = some (.lst (nms.map V.str)) := by rw [upd_ne pbn.symm]; exact hN8
            have hR9 : (upd H8 pb (.lst (B.map V.str ++ [.str z]))) pr = some (.lst (L.map V.str)) := by rw [upd_ne pbr.symm]; exact hR8
            have hbk : ((B ++ [z]).map V.str)[i]? = some (.str z) := by rw [List.getElem?_map, List.getElem?_append_right (by omega), lB, Nat.sub_self] <;> rfl
            refine ⟨_, rfl, _, rfl, pb, _, 0 + (i : Int), _, rfl, rfl, SqL.of hB9, (by rw [Int.zero_add]; exact atI_nat (j := i) hbk), ?_⟩
            refine ⟨_, rfl, .ref u, rfl, .ref pr, rfl, pr, _, rfl, .inl (SqL.of hR9), u, _, l, ns, rfl, S9, by rw [List.length_map]; omega, by rw [List.length_map]; omega, fun Ha k k0 k1 Sa Ba => ?_⟩
            rw [List.length_map] at k1
            obtain ⟨j, rfl⟩ := Int.eq_ofNat_of_zero_le k0
            have jl : j < L.length := by omega
            refine ⟨pr, _, _, j, rfl, rfl, Ba _ _ offr.1 hR9, ixN_nat (by rw [List.length_map]; omega), _, L.set j z, B ++ [z], rfl, srl_put Sa offr.1 offr.2, by rw [upd_ne prn.symm]; exact Ba _ _ pnu hN9, by rw [upd_same, List.map_set], by rw [upd_ne pbr]; exact Ba _ _ offb.1 hB9, by rw [List.length_append, lB] <;> rfl, by rw [List.length_set]; exact lL, fun y hy => ?_, fun y hy => ?_⟩
            · rcases List.mem_append.mp hy with h | h
              · exact bad y h
              · rw [List.mem_singleton.mp h]; exact ⟨no, tz⟩
            · rcases List.mem_or_eq_of_mem_set hy with h | h
              · exact (mix y h).imp_right fun m => List.mem_append_left _ m
              · rw [h]; exact .inr (List.mem_append_right _ List.mem_cons_self)
          · rintro σ H7 ⟨v9, L, B, rfl, S7, hN7, hR7, hB7, lB, lL, bad, mix⟩
            exact ⟨_, L, B, rfl, S7, hN7, hR7, hB7, lL, bad, mix⟩
        · exact ⟨_, L0, [], rfl, S5, B5 _ _ pnu (nw _ _ hN), B5 _ _ offr.1 (nw _ _ h3), B5 _ _ offb.1 upd_same, rfl, fun z hz => (by cases hz), fun z hz => .inl (nmL0 z hz)⟩
      · exact iteF ⟨_, L0, [], rfl, S4, nw _ _ hN, nw _ _ h3, upd_same, rfl, fun z hz => (by cases hz), fun z hz => .inl (nmL0 z hz)⟩
    rintro σ' H5 ⟨v9, L, B, rfl, S5, hN, hR, hB, lenL, bad, mix⟩
    have len : L.length ≤ 4 ∨ L.length = 13 := by rw [lenL]; exact len0
    have txt : ∀ z ∈ L, Txt8 20 z := fun z hz => (mix z hz).elim (fun h => (name_txt h).mono (by decide)) (fun h => (bad z h).2)
    have iff : ∀ z ∈ L, z ∈ B ↔ isName z = false := fun z hz => ⟨fun h => (bad z h).1, fun h => (mix z hz).elim (fun y => by rw [h] at y; cases y) id⟩
    have rev : EvL (tRevL K (tVar 3)) [some (V.ref a), some (.ref u), some (.ref pn), some (.ref pr), some (.ref pb), none, none, none, none, v9, none, none] H5 (L.reverse.map V.str) := fun H8 e8 Q q => ⟨_, rfl, pr, _, rfl, SqL.of (e8 _ _ hR), fun p np => q p _ np (Ex.new np) (by rw [upd_same, List.map_reverse])⟩
    refine q_asgL rev fun pk H6 nk e6 hK => ?_
    have hN := e6 _ _ hN
    have hR := e6 _ _ hR
    have hB := e6 _ _ hB
    have S6 := srl_ex S5 e6
    have lenK : L.reverse.length ≤ 4 ∨ L.reverse.length = 13 := by rw [List.length_reverse]; exact len
    refine q_when (b := false) (et_is (et_or (et_not (et_B (ev_jd (ev_var rfl) (ev_var rfl) (ev_var rfl) hR hB len txt iff))) (fun _ => et_not (et_B (ev_jd (ev_var rfl) (ev_var rfl) (ev_var rfl) hK hB lenK (fun z hz => txt z (List.mem_reverse.mp hz)) (fun z hz => iff z (List.mem_reverse.mp hz)))))) rfl) (fun z => by cases z) (fun _ H7 e7 => ?_)
    have hN := e7 _ _ hN
    have hR := e7 _ _ hR
    have hB := e7 _ _ hB
    have hK := e7 _ _ hK
    have S7 := srl_ex S6 e7
    refine ⟨_, rfl, .ref u, rfl, u, 13, l, ns, rfl, S7, by decide, by decide, fun H8 x x0 x1 S8 B8 => ?_⟩
    obtain ⟨n, rfl⟩ := Int.eq_ofNat_of_zero_le x0
    have pku : pk ≠ u := (srl_off S5 nk).1
    have hN8 := B8 _ _ pnu hN
    refine ⟨(n : Int), rfl, pn, _, rfl, SqL.of hN8, fun pg ng => ?_⟩
    have nwg := Ex.new (o := .lst (cutV (nms.map V.str) none (some (n : Int)))) ng
    have hG : (upd H8 pg (.lst (cutV (nms.map V.str) none (some (n : Int))))) pg = some (.lst ((nms.take n).map V.str)) := by rw [upd_same, cutV_to]
    have hN := nwg _ _ hN8
    have hR := nwg _ _ (B8 _ _ offr.1 hR)
    have hB := nwg _ _ (B8 _ _ offb.1 hB)
    have hK := nwg _ _ (B8 _ _ pku hK)
    have S9 := srl_ex S8 nwg
    have ndG : (nms.take n).Nodup := nd.sublist (List.take_sublist _ _)
    have lG : (nms.take n).length ≤ 12 := by rw [List.length_take]; omega
    have nmG : ∀ z ∈ nms.take n, isName z = true := fun z hz => ok z (List.mem_of_mem_take hz)
    generalize upd H8 pg (.lst (cutV (nms.map V.str) none (some (n : Int)))) = H9 at hG hN hR hB hK S9
    generalize nms.take n = G at hG ndG lG nmG
    obtain ⟨N, odN⟩ := ord_any G
    have okN : NamesOk N := ⟨by rw [ord_len ndG odN]; exact lG, fun z hz => nmG z ((odN.mem z).mp hz)⟩
    refine q_asgT (en_turning (ev_var rfl) hG ndG lG nmG odN) fun t Ha ea ht => ?_
    have hN := ea _ _ hN
    have hR := ea _ _ hR
    have hB := ea _ _ hB
    have hK := ea _ _ hK
    have hG := ea _ _ hG
    have Sa := srl_ex S9 ea
    refine s_asgE' ⟨3, rfl, by omega, by omega, fun D nD => lc_range (lo := 0) (n := 3) (fun i H' => SrcL H' u l ns ∧ But u Ha H' ∧ ∃ X : List Str, H' D = some (.lst (X.map V.str)) ∧ X.length = i ∧ ∀ z ∈ X, isName z = false ∧ Txt8 20 z) ⟨srl_new Sa nD, fun c o n e => by rw [upd_ne (ne_of_none e nD)]; exact e, [], upd_same, rfl, fun z hz => by cases hz⟩ ?_ ?_⟩
    · rintro i Hb hi ⟨Sb, Bb, X, hX, lX, badX⟩
      refine ⟨rfl, ?_⟩
      unfold tYes
      dsimp only
      rw [if_pos rfl]
      have offD := srl_off Sa nD
      have il : i < nms.length := by omega
      have hk : (nms.map V.str)[i]? = some (.str nms[i]) := by rw [List.getElem?_map, List.getElem?_eq_getElem il] <;> rfl
      refine ⟨_, rfl, _, rfl, _, rfl, pn, _, 0 + (i : Int), _, rfl, rfl, SqL.of (Bb _ _ pnu hN), (by rw [Int.zero_add]; exact atI_nat (j := i) hk), u, l, ns, nms[i], rfl, Sb, ok _ (List.getElem_mem il), fun Hc z no tz Sc Bc => ?_⟩
      refine ⟨_, Bc _ _ offD.1 hX, by rw [List.length_map]; exact sz_lt (by omega), srl_put Sc offD.1 offD.2, (Bb.trans Bc).upd2 nD, X ++ [z], by rw [upd_same, List.map_append] <;> rfl, by rw [List.length_append, lX] <;> rfl, fun y hy => ?_⟩
      rcases List.mem_append.mp hy with h | h
      · exact badX y h
      · rw [List.mem_singleton.mp h]; exact ⟨no, tz⟩
    rintro Hb ⟨Sb, Bb, X, hX, lX, badX⟩
    have hN := Bb _ _ pnu hN
    have hR := Bb _ _ offr.1 hR
    have hB := Bb _ _ offb.1 hB
    have hK := Bb _ _ pku hK
    have pgu : pg ≠ u := (srl_off S8 ng).1
    have hG := Bb _ _ pgu hG
    have ht : TnAt T.C_Turning Hb t N := by
      obtain ⟨dx, p, h1, h2⟩ := ht
      have o1 : t ≠ u := fun e => by
        obtain ⟨⟨_, _, _, _, _, hu2⟩, _⟩ := Sa
        rw [e, hu2] at h1; cases h1
      have o2 : p ≠ u := fun e => by
        obtain ⟨⟨_, _, _, _, _, hu2⟩, _⟩ := Sa
        rw [e, hu2] at h2; cases h2
      exact ⟨dx, p, Bb _ _ o1 h1, Bb _ _ o2 h2⟩
    refine q_when (b := false) (et_is (et_or (et_not (et_B (ev_reps (ev_var rfl) ht (els_at (ev_var rfl) hG) (ev_var rfl) hN (ev_var rfl) hX odN (by omega) okN (by omega) ok (by omega) badX))) (fun _ => et_not (et_B (ev_sN (x := .int 12) (ev_limit T) ev_c rfl)))) rfl) (fun z => by cases z) (fun _ Hc ec => ?_)
    have hN := ec _ _ hN
    have hR := ec _ _ hR
    have hB := ec _ _ hB
    have hK := ec _ _ hK
    have hG := ec _ _ hG
    have hX := ec _ _ hX
    have ht := ht.mono ec
    obtain ⟨R, odR⟩ := ord_any L
    have lenR : R.length ≤ 13 := by have := perm_len_le odR.nd fun x hx => (odR.mem x).mp hx; omega
    refine ⟨_, rfl, _, rfl, pr, pb, L, B, rfl, hR, hB, by omega, iff, fun v Hd ed jt => ?_⟩
    have jv := jt R odR
    cases jv with
    | nam p z a1 a2 => exact ⟨p, _, 0, _, rfl, rfl, st_of a2, atI_nat (j := 0) rfl, rfl, _, rfl, ite2 (fun e => absurd e (by decide)) (fun _ => kk Hd)⟩
    | mny p a1 a2 a3 => exact ⟨p, _, 0, _, rfl, rfl, st_of a3, atI_nat (j := 0) rfl, rfl, _, rfl, ite2 (fun e => absurd e (by decide)) (fun _ => kk Hd)⟩
    | trn p q0 none small a3 a4 =>
      refine ⟨p, _, 0, _, rfl, rfl, st_of a3, atI_nat (j := 0) rfl, rfl, _, rfl, ite2 (fun _ => ?_) (fun e => absurd (by decide) e)⟩
      have nmL : ∀ z ∈ L, isName z = true := fun z hz => by
        have y := List.find?_eq_none.mp none z hz
        cases c : isName z with
        | true => rfl
        | false => rw [c] at y; exact absurd rfl y
      have nmR : ∀ z ∈ R, isName z = true := fun z hz => nmL z ((odR.mem z).mp hz)
      have odK : Ord L.reverse R := odR.cong fun x => List.mem_reverse.symm
      have hN := ed _ _ hN
      have hR := ed _ _ hR
      have hK := ed _ _ hK
      have hG := ed _ _ hG
      have hX := ed _ _ hX
      have ht := ht.mono ed
      refine q_asgT (en_made (ev_var rfl) hR len nmL odR small) fun o He ee ho => ?_
      have hN := ee _ _ hN
      have hR := ee _ _ hR
      have hK := ee _ _ hK
      have hG := ee _ _ hG
      have hX := ee _ _ hX
      have ht := ht.mono ee
      refine q_asg (v := .bl (decide (R = N))) (ev_opLL (el_sortV (els_at (ev_var rfl) hR) (by omega) odR) (el_sortV (els_at (ev_var rfl) hG) (by omega) odN) fun p r H1 hp hr2 e1 H2 e2 Q q => ⟨p, r, R, N, rfl, rfl, sq_of (e2 _ _ hp), sq_of (e2 _ _ hr2), name_asc nmR, name_asc okN.2, q H2 (Ex.refl H2)⟩) fun Hf ef => ?_
      have hN := ef _ _ hN
      have hR := ef _ _ hR
      have hK := ef _ _ hK
      have hX := ef _ _ hX
      have ht := ht.mono ef
      have ho := ho.mono ef
      refine q_when (b := false) (et_is (et_not (et_B (ev_sNBB (n := 1) (L := [decide (R = N), true]) (el_lst (ea_cons (ev_eqT T (ev_var rfl) ho (tn_var (ev_var rfl) ht) nmR okN.2) (ea_cons (ev_is (ev_eqT T (ev_var rfl) ho (en_made (ev_var rfl) hK lenK (fun z hz => nmL z (List.mem_reverse.mp hz)) odK small) nmR nmR) (by rw [decide_eq_true rfl])) ea_nil)) (by show 2 ≤ 100000; omega)) (el_lst (ea_cons (ev_var rfl) (ea_cons ev_c ea_nil)) (by show 2 ≤ 100000; omega)) (by show 2 ≤ 100; omega)))) rfl) (fun z => by cases z) (fun _ Hg eg => ?_)
      have hN := eg _ _ hN
      have hR := eg _ _ hR
      have hX := eg _ _ hX
      have ho := ho.mono eg
      exact s_ret (ev_reps (ev_var rfl) ho (els_new (el_sortV (els_at (ev_var rfl) hR) (by omega) odR)) (ev_var rfl) hN (ev_var rfl) hX (ord_self odR) (by omega) ⟨small, nmR⟩ (by omega) ok (by omega) badX) fun Hh _ => kk Hh
end

end
theorem all_mk {l : PySem.W.OpenLaw} {w : World} {K : PySem.W.Frag} {h : Heap} {mg : Str → Option Value} {fa : Addr} (X : K.In h) (G : h.Ns mainGlobals mg) (hfa : mg "law" = some (.ref fa))
    {C_Clause C_Turning f0 f1 f2 f3 f4 f5 f6 f7 f8 f9 f10 f11 f12 f13 f14 f15 f16 f17 f18 f19 f20 f21 f22 f23 f24 f25 f26 f27 f28 f29 f30 f31 f32 f33 f34 f35 f36 f37 f38 f39 C_HornError C_BadName i_BadName cda1 cc1 C_BadLiteral i_BadLiteral cda2 cc2 C_BothSigns i_BothSigns cda3 cc3 C_TooMany i_TooMany cda4 cc4 : Addr} {od0 an0 od1 an1 od2 an2 od3 an3 od4 an4 od5 an5 od6 an6 od7 an7 od8 an8 od9 an9 od10 an10 od11 an11 od12 an12 od13 an13 od14 an14 od15 an15 od16 an16 od17 an17 od18 an18 od19 an19 od20 an20 od21 an21 od22 an22 od23 an23 od24 an24 od25 an25 od26 an26 od27 an27 od28 an28 od29 an29 od30 an30 od31 an31 od32 an32 od33 an33 od34 an34 od35 an35 od36 an36 od37 an37 od38 an38 od39 an39 : Option Addr} {sl0 sl1 sl2 sl3 sl4 sl5 sl6 sl7 sl8 sl9 sl10 sl11 sl12 sl13 sl14 sl15 sl16 sl17 sl18 sl19 sl20 sl21 sl22 sl23 sl24 sl25 sl26 sl27 sl28 sl29 sl30 sl31 sl32 sl33 sl34 sl35 sl36 sl37 sl38 sl39 : Array (Option Value)} {oc0 kV0 dc0 pm0 cd0 ct0 oc1 kV1 dc1 pm1 cd1 ct1 oc2 kV2 dc2 pm2 cd2 ct2 oc3 kV3 dc3 pm3 cd3 ct3 oc4 kV4 dc4 pm4 cd4 ct4 oc5 kV5 dc5 pm5 cd5 ct5 oc6 kV6 dc6 pm6 cd6 ct6 oc7 kV7 dc7 pm7 cd7 ct7 oc8 kV8 dc8 pm8 cd8 ct8 oc9 kV9 dc9 pm9 cd9 ct9 oc10 kV10 dc10 pm10 cd10 ct10 oc11 kV11 dc11 pm11 cd11 ct11 oc12 kV12 dc12 pm12 cd12 ct12 oc13 kV13 dc13 pm13 cd13 ct13 oc14 kV14 dc14 pm14 cd14 ct14 oc15 kV15 dc15 pm15 cd15 ct15 oc16 kV16 dc16 pm16 cd16 ct16 oc17 kV17 dc17 pm17 cd17 ct17 oc18 kV18 dc18 pm18 cd18 ct18 oc19 kV19 dc19 pm19 cd19 ct19 oc20 kV20 dc20 pm20 cd20 ct20 oc21 kV21 dc21 pm21 cd21 ct21 oc22 kV22 dc22 pm22 cd22 ct22 oc23 kV23 dc23 pm23 cd23 ct23 oc24 kV24 dc24 pm24 cd24 ct24 oc25 kV25 dc25 pm25 cd25 ct25 oc26 kV26 dc26 pm26 cd26 ct26 oc27 kV27 dc27 pm27 cd27 ct27 oc28 kV28 dc28 pm28 cd28 ct28 oc29 kV29 dc29 pm29 cd29 ct29 oc30 kV30 dc30 pm30 cd30 ct30 oc31 kV31 dc31 pm31 cd31 ct31 oc32 kV32 dc32 pm32 cd32 ct32 oc33 kV33 dc33 pm33 cd33 ct33 oc34 kV34 dc34 pm34 cd34 ct34 oc35 kV35 dc35 pm35 cd35 ct35 oc36 kV36 dc36 pm36 cd36 ct36 oc37 kV37 dc37 pm37 cd37 ct37 oc38 kV38 dc38 pm38 cd38 ct38 oc39 kV39 dc39 pm39 cd39 ct39 : Value} {tk0 tk1 tk2 cvt_Clause_LIMIT cvt_Turning_LIMIT : Tok}
    {n_1 q_1 : Str} {N_1 : Addr} {bs_1 bm_1 : List Value} {sn_1 : List Str} {sub_1 : List Value} {ab_1 : Bool} {col_1 : Option Bool} {dd_1 : Option Addr} {w0_1 w1_1 w2_1 w3_1 w5_1 : Option Value} {oce_1 dce_1 pme_1 cte_1 ccl_1 cl_1 : Value} {ode_1 ane_1 cdd_1 cld_1 : Option Addr} {sle_1 ccs_1 csl_1 : Array (Option Value)} {vs_1 : Array Value} {file_1 : Str} {tf_1 : Tok}
    {n_2 q_2 : Str} {N_2 : Addr} {bs_2 bm_2 : List Value} {sn_2 : List Str} {sub_2 : List Value} {ab_2 : Bool} {col_2 : Option Bool} {dd_2 : Option Addr} {w0_2 w1_2 w2_2 w3_2 w5_2 : Option Value} {oce_2 dce_2 pme_2 cte_2 ccl_2 cl_2 : Value} {ode_2 ane_2 cdd_2 cld_2 : Option Addr} {sle_2 ccs_2 csl_2 : Array (Option Value)} {vs_2 : Array Value} {file_2 : Str} {tf_2 : Tok}
    {n_3 q_3 : Str} {N_3 : Addr} {bs_3 bm_3 : List Value} {sn_3 : List Str} {sub_3 : List Value} {ab_3 : Bool} {col_3 : Option Bool} {dd_3 : Option Addr} {w0_3 w1_3 w2_3 w3_3 w5_3 : Option Value} {oce_3 dce_3 pme_3 cte_3 ccl_3 cl_3 : Value} {ode_3 ane_3 cdd_3 cld_3 : Option Addr} {sle_3 ccs_3 csl_3 : Array (Option Value)} {vs_3 : Array Value} {file_3 : Str} {tf_3 : Tok}
    {n_4 q_4 : Str} {N_4 : Addr} {bs_4 bm_4 : List Value} {sn_4 : List Str} {sub_4 : List Value} {ab_4 : Bool} {col_4 : Option Bool} {dd_4 : Option Addr} {w0_4 w1_4 w2_4 w3_4 w5_4 : Option Value} {oce_4 dce_4 pme_4 cte_4 ccl_4 cl_4 : Value} {ode_4 ane_4 cdd_4 cld_4 : Option Addr} {sle_4 ccs_4 csl_4 : Array (Option Value)} {vs_4 : Array Value} {file_4 : Str} {tf_4 : Tok}
    (cg0 : PySem.W.nsIn K mainGlobals "Clause" = some (some (.ref C_Clause)))
    (cpg0 : PySem.W.plainGet K C_Clause Str.empty = true)
    (chd0 : PySem.W.hasDictIn K C_Clause = true)
    (cpo0 : PySem.W.plainOver K C_Clause = true)
    (csa0 : PySem.W.findIn K (.ref C_Clause) "__setattr__" = some (some (.builtin "object.__setattr__")))
    (cmi0 : PySem.W.makesIn K C_Clause = true)
    (ckc0 : PySem.W.keepIn K (.ref C_Clause) = true)
    (cha0 : PySem.W.findIn K (.ref C_Clause) "__class__" = some (some (.builtin "object.__class__")))
    (cmo0 : PySem.W.mroIn K C_Clause (.type "object") = some true)
    (cme0 : PySem.W.kitOne K (.ref C_Clause) (.ref C_Clause) = some true)
    (cna0_0 : PySem.W.findIn K (.ref C_Clause) "literals" = some none)
    (cg1 : PySem.W.nsIn K mainGlobals "Turning" = some (some (.ref C_Turning)))
    (cpg1 : PySem.W.plainGet K C_Turning Str.empty = true)
    (chd1 : PySem.W.hasDictIn K C_Turning = true)
    (cpo1 : PySem.W.plainOver K C_Turning = true)
    (csa1 : PySem.W.findIn K (.ref C_Turning) "__setattr__" = some (some (.builtin "object.__setattr__")))
    (cmi1 : PySem.W.makesIn K C_Turning = true)
    (ckc1 : PySem.W.keepIn K (.ref C_Turning) = true)
    (cha1 : PySem.W.findIn K (.ref C_Turning) "__class__" = some (some (.builtin "object.__class__")))
    (cmo1 : PySem.W.mroIn K C_Turning (.type "object") = some true)
    (cme1 : PySem.W.kitOne K (.ref C_Turning) (.ref C_Turning) = some true)
    (cna1_0 : PySem.W.findIn K (.ref C_Turning) "turned" = some none)
    (om_Turning : mro2 K C_Turning = true)
    (ckt0 : PySem.W.kitOne K (.type "str") (.ref C_Clause) = some false)
    (cvr_Clause : PySem.W.readsIn K C_Clause (.type "type") = true)
    (cvg_Clause : PySem.W.specialIn K (.ref C_Clause) "__getattribute__" = some (some (.builtin "type.__getattribute__")))
    (cvf_Clause_LIMIT : PySem.W.findCls K (.ref C_Clause) (.type "type") "LIMIT" = some (.val (.int 6 cvt_Clause_LIMIT)))
    (cvr_Turning : PySem.W.readsIn K C_Turning (.type "type") = true)
    (cvg_Turning : PySem.W.specialIn K (.ref C_Turning) "__getattribute__" = some (some (.builtin "type.__getattribute__")))
    (cvf_Turning_LIMIT : PySem.W.findCls K (.ref C_Turning) (.type "type") "LIMIT" = some (.val (.int 12 cvt_Turning_LIMIT)))
    (a0 : PySem.W.nsIn K mainGlobals "is_name" = some (some (.ref f0)))
    (l0 : K.lookup f0 = some ⟨oc0, od0, .func (PySem.W.fnOf "is_name" "is_name" (defArgs s_is_name) (defBody s_is_name) (defScope s_is_name) .none kV0 dc0 pm0 an0 cd0 ct0), sl0⟩)
    (c0 : PySem.W.codeIn K cd0 "is_name" = true)
    (k0 : PySem.W.keepIn K (.ref f0) = true)
    (a1 : PySem.W.nsIn K mainGlobals "is_literal" = some (some (.ref f1)))
    (l1 : K.lookup f1 = some ⟨oc1, od1, .func (PySem.W.fnOf "is_literal" "is_literal" (defArgs s_is_literal) (defBody s_is_literal) (defScope s_is_literal) .none kV1 dc1 pm1 an1 cd1 ct1), sl1⟩)
    (c1 : PySem.W.codeIn K cd1 "is_literal" = true)
    (k1 : PySem.W.keepIn K (.ref f1) = true)
    (a2 : PySem.W.nsIn K mainGlobals "check_name" = some (some (.ref f2)))
    (l2 : K.lookup f2 = some ⟨oc2, od2, .func (PySem.W.fnOf "check_name" "check_name" (defArgs s_check_name) (defBody s_check_name) (defScope s_check_name) .none kV2 dc2 pm2 an2 cd2 ct2), sl2⟩)
    (c2 : PySem.W.codeIn K cd2 "check_name" = true)
    (k2 : PySem.W.keepIn K (.ref f2) = true)
    (a3 : PySem.W.nsIn K mainGlobals "check_literal" = some (some (.ref f3)))
    (l3 : K.lookup f3 = some ⟨oc3, od3, .func (PySem.W.fnOf "check_literal" "check_literal" (defArgs s_check_literal) (defBody s_check_literal) (defScope s_check_literal) .none kV3 dc3 pm3 an3 cd3 ct3), sl3⟩)
    (c3 : PySem.W.codeIn K cd3 "check_literal" = true)
    (k3 : PySem.W.keepIn K (.ref f3) = true)
    (a4 : PySem.W.nsIn K mainGlobals "name_of" = some (some (.ref f4)))
    (l4 : K.lookup f4 = some ⟨oc4, od4, .func (PySem.W.fnOf "name_of" "name_of" (defArgs s_name_of) (defBody s_name_of) (defScope s_name_of) .none kV4 dc4 pm4 an4 cd4 ct4), sl4⟩)
    (c4 : PySem.W.codeIn K cd4 "name_of" = true)
    (k4 : PySem.W.keepIn K (.ref f4) = true)
    (a5 : PySem.W.nsIn K mainGlobals "is_positive" = some (some (.ref f5)))
    (l5 : K.lookup f5 = some ⟨oc5, od5, .func (PySem.W.fnOf "is_positive" "is_positive" (defArgs s_is_positive) (defBody s_is_positive) (defScope s_is_positive) .none kV5 dc5 pm5 an5 cd5 ct5), sl5⟩)
    (c5 : PySem.W.codeIn K cd5 "is_positive" = true)
    (k5 : PySem.W.keepIn K (.ref f5) = true)
    (a6 : PySem.W.nsIn K mainGlobals "negated" = some (some (.ref f6)))
    (l6 : K.lookup f6 = some ⟨oc6, od6, .func (PySem.W.fnOf "negated" "negated" (defArgs s_negated) (defBody s_negated) (defScope s_negated) .none kV6 dc6 pm6 an6 cd6 ct6), sl6⟩)
    (c6 : PySem.W.codeIn K cd6 "negated" = true)
    (k6 : PySem.W.keepIn K (.ref f6) = true)
    (a7 : PySem.W.nsIn K mainGlobals "names_in_order" = some (some (.ref f7)))
    (l7 : K.lookup f7 = some ⟨oc7, od7, .func (PySem.W.fnOf "names_in_order" "names_in_order" (defArgs s_names_in_order) (defBody s_names_in_order) (defScope s_names_in_order) .none kV7 dc7 pm7 an7 cd7 ct7), sl7⟩)
    (c7 : PySem.W.codeIn K cd7 "names_in_order" = true)
    (k7 : PySem.W.keepIn K (.ref f7) = true)
    (a8 : PySem.W.nsIn K mainGlobals "both_signs" = some (some (.ref f8)))
    (l8 : K.lookup f8 = some ⟨oc8, od8, .func (PySem.W.fnOf "both_signs" "both_signs" (defArgs s_both_signs) (defBody s_both_signs) (defScope s_both_signs) .none kV8 dc8 pm8 an8 cd8 ct8), sl8⟩)
    (c8 : PySem.W.codeIn K cd8 "both_signs" = true)
    (k8 : PySem.W.keepIn K (.ref f8) = true)
    (a9 : PySem.W.nsIn K mainGlobals "in_order" = some (some (.ref f9)))
    (l9 : K.lookup f9 = some ⟨oc9, od9, .func (PySem.W.fnOf "in_order" "in_order" (defArgs s_in_order) (defBody s_in_order) (defScope s_in_order) .none kV9 dc9 pm9 an9 cd9 ct9), sl9⟩)
    (c9 : PySem.W.codeIn K cd9 "in_order" = true)
    (k9 : PySem.W.keepIn K (.ref f9) = true)
    (a10 : PySem.W.nsIn K mainGlobals "check_signs" = some (some (.ref f10)))
    (l10 : K.lookup f10 = some ⟨oc10, od10, .func (PySem.W.fnOf "check_signs" "check_signs" (defArgs s_check_signs) (defBody s_check_signs) (defScope s_check_signs) .none kV10 dc10 pm10 an10 cd10 ct10), sl10⟩)
    (c10 : PySem.W.codeIn K cd10 "check_signs" = true)
    (k10 : PySem.W.keepIn K (.ref f10) = true)
    (a11 : PySem.W.nsIn K mainGlobals "few_names" = some (some (.ref f11)))
    (l11 : K.lookup f11 = some ⟨oc11, od11, .func (PySem.W.fnOf "few_names" "few_names" (defArgs s_few_names) (defBody s_few_names) (defScope s_few_names) .none kV11 dc11 pm11 an11 cd11 ct11), sl11⟩)
    (c11 : PySem.W.codeIn K cd11 "few_names" = true)
    (k11 : PySem.W.keepIn K (.ref f11) = true)
    (a12 : PySem.W.findIn K (.ref C_Clause) "__init__" = some (some (.ref f12)))
    (l12 : K.lookup f12 = some ⟨oc12, od12, .func (PySem.W.fnOf "__init__" "Clause.__init__" (defArgs s_Clause_init) (defBody s_Clause_init) (defScope s_Clause_init) .none kV12 dc12 pm12 an12 cd12 ct12), sl12⟩)
    (if12 : PySem.W.isFn K (.ref f12) = true)
    (c12 : PySem.W.codeIn K cd12 "Clause.__init__" = true)
    (k12 : PySem.W.keepIn K (.ref f12) = true)
    (a13 : PySem.W.nsIn K mainGlobals "turned_literal" = some (some (.ref f13)))
    (l13 : K.lookup f13 = some ⟨oc13, od13, .func (PySem.W.fnOf "turned_literal" "turned_literal" (defArgs s_turned_literal) (defBody s_turned_literal) (defScope s_turned_literal) .none kV13 dc13 pm13 an13 cd13 ct13), sl13⟩)
    (c13 : PySem.W.codeIn K cd13 "turned_literal" = true)
    (k13 : PySem.W.keepIn K (.ref f13) = true)
    (a14 : PySem.W.nsIn K mainGlobals "turned_clause" = some (some (.ref f14)))
    (l14 : K.lookup f14 = some ⟨oc14, od14, .func (PySem.W.fnOf "turned_clause" "turned_clause" (defArgs s_turned_clause) (defBody s_turned_clause) (defScope s_turned_clause) .none kV14 dc14 pm14 an14 cd14 ct14), sl14⟩)
    (c14 : PySem.W.codeIn K cd14 "turned_clause" = true)
    (k14 : PySem.W.keepIn K (.ref f14) = true)
    (a15 : PySem.W.nsIn K mainGlobals "names_apart" = some (some (.ref f15)))
    (l15 : K.lookup f15 = some ⟨oc15, od15, .func (PySem.W.fnOf "names_apart" "names_apart" (defArgs s_names_apart) (defBody s_names_apart) (defScope s_names_apart) .none kV15 dc15 pm15 an15 cd15 ct15), sl15⟩)
    (c15 : PySem.W.codeIn K cd15 "names_apart" = true)
    (k15 : PySem.W.keepIn K (.ref f15) = true)
    (a16 : PySem.W.findIn K (.ref C_Turning) "__init__" = some (some (.ref f16)))
    (l16 : K.lookup f16 = some ⟨oc16, od16, .func (PySem.W.fnOf "__init__" "Turning.__init__" (defArgs s_Turning_init) (defBody s_Turning_init) (defScope s_Turning_init) .none kV16 dc16 pm16 an16 cd16 ct16), sl16⟩)
    (if16 : PySem.W.isFn K (.ref f16) = true)
    (c16 : PySem.W.codeIn K cd16 "Turning.__init__" = true)
    (k16 : PySem.W.keepIn K (.ref f16) = true)
    (a17 : PySem.W.findIn K (.ref C_Turning) "__iter__" = some (some (.ref f17)))
    (l17 : K.lookup f17 = some ⟨oc17, od17, .func (PySem.W.fnOf "__iter__" "Turning.__iter__" (defArgs s_Turning_iter) (defBody s_Turning_iter) (defScope s_Turning_iter) .none kV17 dc17 pm17 an17 cd17 ct17), sl17⟩)
    (if17 : PySem.W.isFn K (.ref f17) = true)
    (c17 : PySem.W.codeIn K cd17 "Turning.__iter__" = true)
    (k17 : PySem.W.keepIn K (.ref f17) = true)
    (a18 : PySem.W.findIn K (.ref C_Turning) "__len__" = some (some (.ref f18)))
    (l18 : K.lookup f18 = some ⟨oc18, od18, .func (PySem.W.fnOf "__len__" "Turning.__len__" (defArgs s_Turning_len) (defBody s_Turning_len) (defScope s_Turning_len) .none kV18 dc18 pm18 an18 cd18 ct18), sl18⟩)
    (if18 : PySem.W.isFn K (.ref f18) = true)
    (c18 : PySem.W.codeIn K cd18 "Turning.__len__" = true)
    (k18 : PySem.W.keepIn K (.ref f18) = true)
    (a19 : PySem.W.findIn K (.ref C_Turning) "__contains__" = some (some (.ref f19)))
    (l19 : K.lookup f19 = some ⟨oc19, od19, .func (PySem.W.fnOf "__contains__" "Turning.__contains__" (defArgs s_Turning_contains) (defBody s_Turning_contains) (defScope s_Turning_contains) .none kV19 dc19 pm19 an19 cd19 ct19), sl19⟩)
    (if19 : PySem.W.isFn K (.ref f19) = true)
    (c19 : PySem.W.codeIn K cd19 "Turning.__contains__" = true)
    (k19 : PySem.W.keepIn K (.ref f19) = true)
    (a20 : PySem.W.findIn K (.ref C_Turning) "__getitem__" = some (some (.ref f20)))
    (l20 : K.lookup f20 = some ⟨oc20, od20, .func (PySem.W.fnOf "__getitem__" "Turning.__getitem__" (defArgs s_Turning_getitem) (defBody s_Turning_getitem) (defScope s_Turning_getitem) .none kV20 dc20 pm20 an20 cd20 ct20), sl20⟩)
    (if20 : PySem.W.isFn K (.ref f20) = true)
    (c20 : PySem.W.codeIn K cd20 "Turning.__getitem__" = true)
    (k20 : PySem.W.keepIn K (.ref f20) = true)
    (a21 : PySem.W.findIn K (.ref C_Turning) "__eq__" = some (some (.ref f21)))
    (l21 : K.lookup f21 = some ⟨oc21, od21, .func (PySem.W.fnOf "__eq__" "Turning.__eq__" (defArgs s_Turning_eq) (defBody s_Turning_eq) (defScope s_Turning_eq) .none kV21 dc21 pm21 an21 cd21 ct21), sl21⟩)
    (if21 : PySem.W.isFn K (.ref f21) = true)
    (c21 : PySem.W.codeIn K cd21 "Turning.__eq__" = true)
    (k21 : PySem.W.keepIn K (.ref f21) = true)
    (a22 : PySem.W.findIn K (.ref C_Turning) "__xor__" = some (some (.ref f22)))
    (l22 : K.lookup f22 = some ⟨oc22, od22, .func (PySem.W.fnOf "__xor__" "Turning.__xor__" (defArgs s_Turning_xor) (defBody s_Turning_xor) (defScope s_Turning_xor) .none kV22 dc22 pm22 an22 cd22 ct22), sl22⟩)
    (if22 : PySem.W.isFn K (.ref f22) = true)
    (c22 : PySem.W.codeIn K cd22 "Turning.__xor__" = true)
    (k22 : PySem.W.keepIn K (.ref f22) = true)
    (a23 : PySem.W.findIn K (.ref C_Turning) "__str__" = some (some (.ref f23)))
    (l23 : K.lookup f23 = some ⟨oc23, od23, .func (PySem.W.fnOf "__str__" "Turning.__str__" (defArgs s_Turning_str) (defBody s_Turning_str) (defScope s_Turning_str) .none kV23 dc23 pm23 an23 cd23 ct23), sl23⟩)
    (if23 : PySem.W.isFn K (.ref f23) = true)
    (c23 : PySem.W.codeIn K cd23 "Turning.__str__" = true)
    (k23 : PySem.W.keepIn K (.ref f23) = true)
    (a24 : PySem.W.nsIn K mainGlobals "_law_source" = some (some (.ref f24)))
    (l24 : K.lookup f24 = some ⟨oc24, od24, .func (PySem.W.fnOf "_law_source" "_law_source" (defArgs s__law_source) (defBody s__law_source) (defScope s__law_source) .none kV24 dc24 pm24 an24 cd24 ct24), sl24⟩)
    (c24 : PySem.W.codeIn K cd24 "_law_source" = true)
    (k24 : PySem.W.keepIn K (.ref f24) = true)
    (a25 : PySem.W.nsIn K mainGlobals "_law_take" = some (some (.ref f25)))
    (l25 : K.lookup f25 = some ⟨oc25, od25, .func (PySem.W.fnOf "_law_take" "_law_take" (defArgs s__law_take) (defBody s__law_take) (defScope s__law_take) .none kV25 dc25 pm25 an25 cd25 ct25), sl25⟩)
    (c25 : PySem.W.codeIn K cd25 "_law_take" = true)
    (k25 : PySem.W.keepIn K (.ref f25) = true)
    (a26 : PySem.W.nsIn K mainGlobals "_law_word" = some (some (.ref f26)))
    (l26 : K.lookup f26 = some ⟨oc26, od26, .func (PySem.W.fnOf "_law_word" "_law_word" (defArgs s__law_word) (defBody s__law_word) (defScope s__law_word) .none kV26 dc26 pm26 an26 cd26 ct26), sl26⟩)
    (c26 : PySem.W.codeIn K cd26 "_law_word" = true)
    (k26 : PySem.W.keepIn K (.ref f26) = true)
    (a27 : PySem.W.nsIn K mainGlobals "_law_names" = some (some (.ref f27)))
    (l27 : K.lookup f27 = some ⟨oc27, od27, .func (PySem.W.fnOf "_law_names" "_law_names" (defArgs s__law_names) (defBody s__law_names) (defScope s__law_names) .none kV27 dc27 pm27 an27 cd27 ct27), sl27⟩)
    (c27 : PySem.W.codeIn K cd27 "_law_names" = true)
    (k27 : PySem.W.keepIn K (.ref f27) = true)
    (a28 : PySem.W.nsIn K mainGlobals "_law_sorted" = some (some (.ref f28)))
    (l28 : K.lookup f28 = some ⟨oc28, od28, .func (PySem.W.fnOf "_law_sorted" "_law_sorted" (defArgs s__law_sorted) (defBody s__law_sorted) (defScope s__law_sorted) .none kV28 dc28 pm28 an28 cd28 ct28), sl28⟩)
    (c28 : PySem.W.codeIn K cd28 "_law_sorted" = true)
    (k28 : PySem.W.keepIn K (.ref f28) = true)
    (a29 : PySem.W.nsIn K mainGlobals "_law_same" = some (some (.ref f29)))
    (l29 : K.lookup f29 = some ⟨oc29, od29, .func (PySem.W.fnOf "_law_same" "_law_same" (defArgs s__law_same) (defBody s__law_same) (defScope s__law_same) .none kV29 dc29 pm29 an29 cd29 ct29), sl29⟩)
    (c29 : PySem.W.codeIn K cd29 "_law_same" = true)
    (k29 : PySem.W.keepIn K (.ref f29) = true)
    (a30 : PySem.W.nsIn K mainGlobals "_law_turning" = some (some (.ref f30)))
    (l30 : K.lookup f30 = some ⟨oc30, od30, .func (PySem.W.fnOf "_law_turning" "_law_turning" (defArgs s__law_turning) (defBody s__law_turning) (defScope s__law_turning) .none kV30 dc30 pm30 an30 cd30 ct30), sl30⟩)
    (c30 : PySem.W.codeIn K cd30 "_law_turning" = true)
    (k30 : PySem.W.keepIn K (.ref f30) = true)
    (a31 : PySem.W.nsIn K mainGlobals "_law_bad" = some (some (.ref f31)))
    (l31 : K.lookup f31 = some ⟨oc31, od31, .func (PySem.W.fnOf "_law_bad" "_law_bad" (defArgs s__law_bad) (defBody s__law_bad) (defScope s__law_bad) .none kV31 dc31 pm31 an31 cd31 ct31), sl31⟩)
    (c31 : PySem.W.codeIn K cd31 "_law_bad" = true)
    (k31 : PySem.W.keepIn K (.ref f31) = true)
    (a32 : PySem.W.nsIn K mainGlobals "_law_no_name" = some (some (.ref f32)))
    (l32 : K.lookup f32 = some ⟨oc32, od32, .func (PySem.W.fnOf "_law_no_name" "_law_no_name" (defArgs s__law_no_name) (defBody s__law_no_name) (defScope s__law_no_name) .none kV32 dc32 pm32 an32 cd32 ct32), sl32⟩)
    (c32 : PySem.W.codeIn K cd32 "_law_no_name" = true)
    (k32 : PySem.W.keepIn K (.ref f32) = true)
    (a33 : PySem.W.nsIn K mainGlobals "_law_made" = some (some (.ref f33)))
    (l33 : K.lookup f33 = some ⟨oc33, od33, .func (PySem.W.fnOf "_law_made" "_law_made" (defArgs s__law_made) (defBody s__law_made) (defScope s__law_made) .none kV33 dc33 pm33 an33 cd33 ct33), sl33⟩)
    (c33 : PySem.W.codeIn K cd33 "_law_made" = true)
    (k33 : PySem.W.keepIn K (.ref f33) = true)
    (a34 : PySem.W.nsIn K mainGlobals "_law_passed" = some (some (.ref f34)))
    (l34 : K.lookup f34 = some ⟨oc34, od34, .func (PySem.W.fnOf "_law_passed" "_law_passed" (defArgs s__law_passed) (defBody s__law_passed) (defScope s__law_passed) .none kV34 dc34 pm34 an34 cd34 ct34), sl34⟩)
    (c34 : PySem.W.codeIn K cd34 "_law_passed" = true)
    (k34 : PySem.W.keepIn K (.ref f34) = true)
    (a35 : PySem.W.nsIn K mainGlobals "_law_due" = some (some (.ref f35)))
    (l35 : K.lookup f35 = some ⟨oc35, od35, .func (PySem.W.fnOf "_law_due" "_law_due" (defArgs s__law_due) (defBody s__law_due) (defScope s__law_due) .none kV35 dc35 pm35 an35 cd35 ct35), sl35⟩)
    (c35 : PySem.W.codeIn K cd35 "_law_due" = true)
    (k35 : PySem.W.keepIn K (.ref f35) = true)
    (a36 : PySem.W.nsIn K mainGlobals "_law_told" = some (some (.ref f36)))
    (l36 : K.lookup f36 = some ⟨oc36, od36, .func (PySem.W.fnOf "_law_told" "_law_told" (defArgs s__law_told) (defBody s__law_told) (defScope s__law_told) .none kV36 dc36 pm36 an36 cd36 ct36), sl36⟩)
    (c36 : PySem.W.codeIn K cd36 "_law_told" = true)
    (k36 : PySem.W.keepIn K (.ref f36) = true)
    (a37 : PySem.W.nsIn K mainGlobals "_law_no_index" = some (some (.ref f37)))
    (l37 : K.lookup f37 = some ⟨oc37, od37, .func (PySem.W.fnOf "_law_no_index" "_law_no_index" (defArgs s__law_no_index) (defBody s__law_no_index) (defScope s__law_no_index) .none kV37 dc37 pm37 an37 cd37 ct37), sl37⟩)
    (c37 : PySem.W.codeIn K cd37 "_law_no_index" = true)
    (k37 : PySem.W.keepIn K (.ref f37) = true)
    (a38 : PySem.W.nsIn K mainGlobals "_law_reports" = some (some (.ref f38)))
    (l38 : K.lookup f38 = some ⟨oc38, od38, .func (PySem.W.fnOf "_law_reports" "_law_reports" (defArgs s__law_reports) (defBody s__law_reports) (defScope s__law_reports) .none kV38 dc38 pm38 an38 cd38 ct38), sl38⟩)
    (c38 : PySem.W.codeIn K cd38 "_law_reports" = true)
    (k38 : PySem.W.keepIn K (.ref f38) = true)
    (a39 : PySem.W.nsIn K mainGlobals "law" = some (some (.ref f39)))
    (l39 : K.lookup f39 = some ⟨oc39, od39, .func (PySem.W.fnOf "law" "law" (defArgs s_law) (defBody s_law) (defScope s_law) .none kV39 dc39 pm39 an39 cd39 ct39), sl39⟩)
    (c39 : PySem.W.codeIn K cd39 "law" = true)
    (k39 : PySem.W.keepIn K (.ref f39) = true)
    (v0 : PySem.W.nsIn K mainGlobals "LETTERS" = some (some (.str "abcdefghijklmnopqrstuvwxyz" tk0)))
    (v1 : PySem.W.nsIn K mainGlobals "LETTERS_AND_DIGITS" = some (some (.str "abcdefghijklmnopqrstuvwxyz0123456789" tk1)))
    (v2 : PySem.W.nsIn K mainGlobals "LONGEST_NAME" = some (some (.int 8 tk2)))
    (eg0 : PySem.W.nsIn K mainGlobals "HornError" = some (some (.ref C_HornError)))
    (eg1 : PySem.W.nsIn K mainGlobals "BadName" = some (some (.ref C_BadName)))
    (el1 : K.lookup C_BadName = some (excClassObj n_1 q_1 C_BadName N_1 bs_1 bm_1 true sn_1 sub_1 ab_1 col_1 dd_1 w0_1 w1_1 w2_1 w3_1 w5_1 "ValueError.__new__"))
    (er1 : PySem.HandSPX.refsVE bm_1 = true)
    (esa1 : PySem.W.findIn K (.ref C_BadName) "__setattr__" = some (some (.builtin "object.__setattr__")))
    (ega1 : PySem.W.findIn K (.ref C_BadName) "__getattribute__" = some (some (.builtin "BaseException.__getattribute__")))
    (egg1 : PySem.W.findIn K (.ref C_BadName) "__getattr__" = some none)
    (ein1 : PySem.W.findIn K (.ref C_BadName) "__init__" = some (some (.ref i_BadName)))
    (ecl1 : PySem.W.findIn K (.ref C_BadName) "__class__" = some (some (.builtin "object.__class__")))
    (efn1 : PySem.W.findIn K (.ref C_BadName) "text" = some none)
    (eti1 : PySem.W.typeIn K (.ref i_BadName) = some (.type "function"))
    (ekc1 : PySem.W.keepIn K (.ref C_BadName) = true)
    (ebe1 : PySem.W.subIn K (.ref C_BadName) (.type "BaseException") = some true)
    (eve1 : PySem.W.subIn K (.ref C_BadName) (.type "ValueError") = some true)
    (ety1 : PySem.W.typeIn K (.ref C_BadName) = some (.type "type"))
    (ehd1 : PySem.W.hasDictIn K C_BadName = true)
    (eic1 : PySem.W.isClsIn K C_BadName = true)
    (ess1 : PySem.W.subIn K (.ref C_BadName) (.ref C_BadName) = some true)
    (eup1 : PySem.W.ks_superIn K C_BadName C_BadName "__init__" = some (some (.builtin "ValueError.__init__")))
    (emr1 : PySem.W.mroIn K C_BadName (.ref C_BadName) = some true)
    (emo1 : PySem.W.mroIn K C_BadName (.type "object") = some true)
    (elf1 : K.lookup i_BadName = some ⟨oce_1, ode_1, .func (PySem.W.ksFn "__init__" ("BadName" ++ ".__init__") ea_BadName eb_BadName (scope1 "text") .none .none dce_1 pme_1 ane_1 (.ref cda1) cte_1 cc1), sle_1⟩)
    (ecd1 : PySem.W.codeIn K (.ref cda1) ("BadName" ++ ".__init__") = true)
    (elc1 : K.lookup cda1 = some ⟨ccl_1, cdd_1, .fields vs_1, ccs_1⟩)
    (evs1 : vs_1[2]? = some (.str file_1 tf_1))
    (efi1 : (l.prog.main.file == file_1) = true)
    (ece1 : K.lookup cc1 = some ⟨cl_1, cld_1, .cell (some (.ref C_BadName)), csl_1⟩)
    (eg2 : PySem.W.nsIn K mainGlobals "BadLiteral" = some (some (.ref C_BadLiteral)))
    (el2 : K.lookup C_BadLiteral = some (excClassObj n_2 q_2 C_BadLiteral N_2 bs_2 bm_2 true sn_2 sub_2 ab_2 col_2 dd_2 w0_2 w1_2 w2_2 w3_2 w5_2 "ValueError.__new__"))
    (er2 : PySem.HandSPX.refsVE bm_2 = true)
    (esa2 : PySem.W.findIn K (.ref C_BadLiteral) "__setattr__" = some (some (.builtin "object.__setattr__")))
    (ega2 : PySem.W.findIn K (.ref C_BadLiteral) "__getattribute__" = some (some (.builtin "BaseException.__getattribute__")))
    (egg2 : PySem.W.findIn K (.ref C_BadLiteral) "__getattr__" = some none)
    (ein2 : PySem.W.findIn K (.ref C_BadLiteral) "__init__" = some (some (.ref i_BadLiteral)))
    (ecl2 : PySem.W.findIn K (.ref C_BadLiteral) "__class__" = some (some (.builtin "object.__class__")))
    (efn2 : PySem.W.findIn K (.ref C_BadLiteral) "text" = some none)
    (eti2 : PySem.W.typeIn K (.ref i_BadLiteral) = some (.type "function"))
    (ekc2 : PySem.W.keepIn K (.ref C_BadLiteral) = true)
    (ebe2 : PySem.W.subIn K (.ref C_BadLiteral) (.type "BaseException") = some true)
    (eve2 : PySem.W.subIn K (.ref C_BadLiteral) (.type "ValueError") = some true)
    (ety2 : PySem.W.typeIn K (.ref C_BadLiteral) = some (.type "type"))
    (ehd2 : PySem.W.hasDictIn K C_BadLiteral = true)
    (eic2 : PySem.W.isClsIn K C_BadLiteral = true)
    (ess2 : PySem.W.subIn K (.ref C_BadLiteral) (.ref C_BadLiteral) = some true)
    (eup2 : PySem.W.ks_superIn K C_BadLiteral C_BadLiteral "__init__" = some (some (.builtin "ValueError.__init__")))
    (emr2 : PySem.W.mroIn K C_BadLiteral (.ref C_BadLiteral) = some true)
    (emo2 : PySem.W.mroIn K C_BadLiteral (.type "object") = some true)
    (elf2 : K.lookup i_BadLiteral = some ⟨oce_2, ode_2, .func (PySem.W.ksFn "__init__" ("BadLiteral" ++ ".__init__") ea_BadLiteral eb_BadLiteral (scope1 "text") .none .none dce_2 pme_2 ane_2 (.ref cda2) cte_2 cc2), sle_2⟩)
    (ecd2 : PySem.W.codeIn K (.ref cda2) ("BadLiteral" ++ ".__init__") = true)
    (elc2 : K.lookup cda2 = some ⟨ccl_2, cdd_2, .fields vs_2, ccs_2⟩)
    (evs2 : vs_2[2]? = some (.str file_2 tf_2))
    (efi2 : (l.prog.main.file == file_2) = true)
    (ece2 : K.lookup cc2 = some ⟨cl_2, cld_2, .cell (some (.ref C_BadLiteral)), csl_2⟩)
    (eg3 : PySem.W.nsIn K mainGlobals "BothSigns" = some (some (.ref C_BothSigns)))
    (el3 : K.lookup C_BothSigns = some (excClassObj n_3 q_3 C_BothSigns N_3 bs_3 bm_3 true sn_3 sub_3 ab_3 col_3 dd_3 w0_3 w1_3 w2_3 w3_3 w5_3 "ValueError.__new__"))
    (er3 : PySem.HandSPX.refsVE bm_3 = true)
    (esa3 : PySem.W.findIn K (.ref C_BothSigns) "__setattr__" = some (some (.builtin "object.__setattr__")))
    (ega3 : PySem.W.findIn K (.ref C_BothSigns) "__getattribute__" = some (some (.builtin "BaseException.__getattribute__")))
    (egg3 : PySem.W.findIn K (.ref C_BothSigns) "__getattr__" = some none)
    (ein3 : PySem.W.findIn K (.ref C_BothSigns) "__init__" = some (some (.ref i_BothSigns)))
    (ecl3 : PySem.W.findIn K (.ref C_BothSigns) "__class__" = some (some (.builtin "object.__class__")))
    (efn3 : PySem.W.findIn K (.ref C_BothSigns) "name" = some none)
    (eti3 : PySem.W.typeIn K (.ref i_BothSigns) = some (.type "function"))
    (ekc3 : PySem.W.keepIn K (.ref C_BothSigns) = true)
    (ebe3 : PySem.W.subIn K (.ref C_BothSigns) (.type "BaseException") = some true)
    (eve3 : PySem.W.subIn K (.ref C_BothSigns) (.type "ValueError") = some true)
    (ety3 : PySem.W.typeIn K (.ref C_BothSigns) = some (.type "type"))
    (ehd3 : PySem.W.hasDictIn K C_BothSigns = true)
    (eic3 : PySem.W.isClsIn K C_BothSigns = true)
    (ess3 : PySem.W.subIn K (.ref C_BothSigns) (.ref C_BothSigns) = some true)
    (eup3 : PySem.W.ks_superIn K C_BothSigns C_BothSigns "__init__" = some (some (.builtin "ValueError.__init__")))
    (emr3 : PySem.W.mroIn K C_BothSigns (.ref C_BothSigns) = some true)
    (emo3 : PySem.W.mroIn K C_BothSigns (.type "object") = some true)
    (elf3 : K.lookup i_BothSigns = some ⟨oce_3, ode_3, .func (PySem.W.ksFn "__init__" ("BothSigns" ++ ".__init__") ea_BothSigns eb_BothSigns (scope1 "name") .none .none dce_3 pme_3 ane_3 (.ref cda3) cte_3 cc3), sle_3⟩)
    (ecd3 : PySem.W.codeIn K (.ref cda3) ("BothSigns" ++ ".__init__") = true)
    (elc3 : K.lookup cda3 = some ⟨ccl_3, cdd_3, .fields vs_3, ccs_3⟩)
    (evs3 : vs_3[2]? = some (.str file_3 tf_3))
    (efi3 : (l.prog.main.file == file_3) = true)
    (ece3 : K.lookup cc3 = some ⟨cl_3, cld_3, .cell (some (.ref C_BothSigns)), csl_3⟩)
    (eg4 : PySem.W.nsIn K mainGlobals "TooMany" = some (some (.ref C_TooMany)))
    (el4 : K.lookup C_TooMany = some (excClassObj n_4 q_4 C_TooMany N_4 bs_4 bm_4 true sn_4 sub_4 ab_4 col_4 dd_4 w0_4 w1_4 w2_4 w3_4 w5_4 "ValueError.__new__"))
    (er4 : PySem.HandSPX.refsVE bm_4 = true)
    (esa4 : PySem.W.findIn K (.ref C_TooMany) "__setattr__" = some (some (.builtin "object.__setattr__")))
    (ega4 : PySem.W.findIn K (.ref C_TooMany) "__getattribute__" = some (some (.builtin "BaseException.__getattribute__")))
    (egg4 : PySem.W.findIn K (.ref C_TooMany) "__getattr__" = some none)
    (ein4 : PySem.W.findIn K (.ref C_TooMany) "__init__" = some (some (.ref i_TooMany)))
    (ecl4 : PySem.W.findIn K (.ref C_TooMany) "__class__" = some (some (.builtin "object.__class__")))
    (efn4 : PySem.W.findIn K (.ref C_TooMany) "limit" = some none)
    (eti4 : PySem.W.typeIn K (.ref i_TooMany) = some (.type "function"))
    (ekc4 : PySem.W.keepIn K (.ref C_TooMany) = true)
    (ebe4 : PySem.W.subIn K (.ref C_TooMany) (.type "BaseException") = some true)
    (eve4 : PySem.W.subIn K (.ref C_TooMany) (.type "ValueError") = some true)
    (ety4 : PySem.W.typeIn K (.ref C_TooMany) = some (.type "type"))
    (ehd4 : PySem.W.hasDictIn K C_TooMany = true)
    (eic4 : PySem.W.isClsIn K C_TooMany = true)
    (ess4 : PySem.W.subIn K (.ref C_TooMany) (.ref C_TooMany) = some true)
    (eup4 : PySem.W.ks_superIn K C_TooMany C_TooMany "__init__" = some (some (.builtin "ValueError.__init__")))
    (emr4 : PySem.W.mroIn K C_TooMany (.ref C_TooMany) = some true)
    (emo4 : PySem.W.mroIn K C_TooMany (.type "object") = some true)
    (elf4 : K.lookup i_TooMany = some ⟨oce_4, ode_4, .func (PySem.W.ksFn "__init__" ("TooMany" ++ ".__init__") ea_TooMany eb_TooMany (scope1 "limit") .none .none dce_4 pme_4 ane_4 (.ref cda4) cte_4 cc4), sle_4⟩)
    (ecd4 : PySem.W.codeIn K (.ref cda4) ("TooMany" ++ ".__init__") = true)
    (elc4 : K.lookup cda4 = some ⟨ccl_4, cdd_4, .fields vs_4, ccs_4⟩)
    (evs4 : vs_4[2]? = some (.str file_4 tf_4))
    (efi4 : (l.prog.main.file == file_4) = true)
    (ece4 : K.lookup cc4 = some ⟨cl_4, cld_4, .cell (some (.ref C_TooMany)), csl_4⟩)
    (kt0 : PySem.W.kitOne K (.ref C_BadName) (.ref C_BadLiteral) = some false)
    (kt1 : PySem.W.kitOne K (.ref C_BadName) (.ref C_HornError) = some true)
    (kt2 : PySem.W.kitOne K (.ref C_BadName) (.ref C_TooMany) = some false)
    (kt3 : PySem.W.kitOne K (.ref C_BadName) (.type "ValueError") = some true)
    (kt4 : PySem.W.kitOne K (.ref C_BadLiteral) (.ref C_BadLiteral) = some true)
    (kt5 : PySem.W.kitOne K (.ref C_BadLiteral) (.ref C_HornError) = some true)
    (kt6 : PySem.W.kitOne K (.ref C_BadLiteral) (.ref C_TooMany) = some false)
    (kt7 : PySem.W.kitOne K (.ref C_BadLiteral) (.type "ValueError") = some true)
    (kt8 : PySem.W.kitOne K (.ref C_BothSigns) (.ref C_BadLiteral) = some false)
    (kt9 : PySem.W.kitOne K (.ref C_BothSigns) (.ref C_HornError) = some true)
    (kt10 : PySem.W.kitOne K (.ref C_BothSigns) (.ref C_TooMany) = some false)
    (kt11 : PySem.W.kitOne K (.ref C_BothSigns) (.type "ValueError") = some true)
    (kt12 : PySem.W.kitOne K (.ref C_TooMany) (.ref C_BadLiteral) = some false)
    (kt13 : PySem.W.kitOne K (.ref C_TooMany) (.ref C_HornError) = some true)
    (kt14 : PySem.W.kitOne K (.ref C_TooMany) (.ref C_TooMany) = some true)
    (kt15 : PySem.W.kitOne K (.ref C_TooMany) (.type "ValueError") = some true)
    (sun_TooMany_BadName : PySem.W.subIn K (.ref C_TooMany) (.ref C_BadName) = some false)
    (z0 : PySem.W.nsIn K mainGlobals "NotImplemented" = some none)
    (z1 : PySem.W.nsIn K mainGlobals "ValueError" = some none)
    (z2 : PySem.W.nsIn K mainGlobals "all" = some none)
    (z3 : PySem.W.nsIn K mainGlobals "bool" = some none)
    (z4 : PySem.W.nsIn K mainGlobals "int" = some none)
    (z5 : PySem.W.nsIn K mainGlobals "isinstance" = some none)
    (z6 : PySem.W.nsIn K mainGlobals "iter" = some none)
    (z7 : PySem.W.nsIn K mainGlobals "len" = some none)
    (z8 : PySem.W.nsIn K mainGlobals "list" = some none)
    (z9 : PySem.W.nsIn K mainGlobals "property" = some none)
    (z10 : PySem.W.nsIn K mainGlobals "range" = some none)
    (z11 : PySem.W.nsIn K mainGlobals "set" = some none)
    (z12 : PySem.W.nsIn K mainGlobals "sorted" = some none)
    (z13 : PySem.W.nsIn K mainGlobals "staticmethod" = some none)
    (z14 : PySem.W.nsIn K mainGlobals "str" = some none)
    (zsu : PySem.W.nsIn K mainGlobals "super" = some none)
    (z16 : PySem.W.nsIn K mainGlobals "tuple" = some none)
    (zop : PySem.W.nsIn K cStatics "thirdparty.any" = some none)
    (zsp : PySem.W.specialIn K (.builtin "object.__class__") "__get__" = some (some (.builtin "getset_descriptor.__get__")))
    (ztk : PySem.W.takesIn K (.builtin "object.__class__") = some true)
    (znm : (l.prog.main.scope.names.lookup ("super" : Str)).isSome = false)
    : ∃ fd : FuncData, (∀ (s : Shared) (v : Value), BindsTo s fd ⟨[v], []⟩ [("_law_script", v)]) ∧ ∀ base : Heap, K.In base → base.Ns mainGlobals mg → FnOk l.prog w K mg base CX0 14 fa fd ["_law_script"] (spLaw K) := by
  have e := hfa.symm.trans (PySem.W.mg_of X G a39)
  cases e
  have cl0 : Cls K C_Clause := ⟨cpg0, chd0, cpo0, csa0⟩
  have cl1 : Cls K C_Turning := ⟨cpg1, chd1, cpo1, csa1⟩
  have F0 := fun_mk (st := s_is_name) l0 c0 k0
  have b0 := F0.binds (ps := ["text"]) fun _ _ _ _ _ _ us hl => match us, hl with | [_], _ => rfl
  have F1 := fun_mk (st := s_is_literal) l1 c1 k1
  have b1 := F1.binds (ps := ["text"]) fun _ _ _ _ _ _ us hl => match us, hl with | [_], _ => rfl
  have F2 := fun_mk (st := s_check_name) l2 c2 k2
  have b2 := F2.binds (ps := ["text"]) fun _ _ _ _ _ _ us hl => match us, hl with | [_], _ => rfl
  have F3 := fun_mk (st := s_check_literal) l3 c3 k3
  have b3 := F3.binds (ps := ["text"]) fun _ _ _ _ _ _ us hl => match us, hl with | [_], _ => rfl
  have F4 := fun_mk (st := s_name_of) l4 c4 k4
  have b4 := F4.binds (ps := ["literal"]) fun _ _ _ _ _ _ us hl => match us, hl with | [_], _ => rfl
  have F5 := fun_mk (st := s_is_positive) l5 c5 k5
  have b5 := F5.binds (ps := ["literal"]) fun _ _ _ _ _ _ us hl => match us, hl with | [_], _ => rfl
  have F6 := fun_mk (st := s_negated) l6 c6 k6
  have b6 := F6.binds (ps := ["literal"]) fun _ _ _ _ _ _ us hl => match us, hl with | [_], _ => rfl
  have F7 := fun_mk (st := s_names_in_order) l7 c7 k7
  have b7 := F7.binds (ps := ["names"]) fun _ _ _ _ _ _ us hl => match us, hl with | [_], _ => rfl
  have F8 := fun_mk (st := s_both_signs) l8 c8 k8
  have b8 := F8.binds (ps := ["names"]) fun _ _ _ _ _ _ us hl => match us, hl with | [_], _ => rfl
  have F9 := fun_mk (st := s_in_order) l9 c9 k9
  have b9 := F9.binds (ps := ["literals"]) fun _ _ _ _ _ _ us hl => match us, hl with | [_], _ => rfl
  have F10 := fun_mk (st := s_check_signs) l10 c10 k10
  have b10 := F10.binds (ps := ["ordered"]) fun _ _ _ _ _ _ us hl => match us, hl with | [_], _ => rfl
  have F11 := fun_mk (st := s_few_names) l11 c11 k11
  have b11 := F11.binds (ps := ["names", "limit"]) fun _ _ _ _ _ _ us hl => match us, hl with | [_, _], _ => rfl
  have F12 := fun_mk (st := s_Clause_init) l12 c12 k12
  have F13 := fun_mk (st := s_turned_literal) l13 c13 k13
  have b13 := F13.binds (ps := ["turning", "literal"]) fun _ _ _ _ _ _ us hl => match us, hl with | [_, _], _ => rfl
  have F14 := fun_mk (st := s_turned_clause) l14 c14 k14
  have b14 := F14.binds (ps := ["turning", "clause"]) fun _ _ _ _ _ _ us hl => match us, hl with | [_, _], _ => rfl
  have F15 := fun_mk (st := s_names_apart) l15 c15 k15
  have b15 := F15.binds (ps := ["one", "other"]) fun _ _ _ _ _ _ us hl => match us, hl with | [_, _], _ => rfl
  have F16 := fun_mk (st := s_Turning_init) l16 c16 k16
  have F17 := fun_mk (st := s_Turning_iter) l17 c17 k17
  have b17 := F17.binds (ps := ["self"]) fun _ _ _ _ _ _ us hl => match us, hl with | [_], _ => rfl
  have F18 := fun_mk (st := s_Turning_len) l18 c18 k18
  have b18 := F18.binds (ps := ["self"]) fun _ _ _ _ _ _ us hl => match us, hl with | [_], _ => rfl
  have F19 := fun_mk (st := s_Turning_contains) l19 c19 k19
  have b19 := F19.binds (ps := ["self", "x"]) fun _ _ _ _ _ _ us hl => match us, hl with | [_, _], _ => rfl
  have F20 := fun_mk (st := s_Turning_getitem) l20 c20 k20
  have b20 := F20.binds (ps := ["self", "at"]) fun _ _ _ _ _ _ us hl => match us, hl with | [_, _], _ => rfl
  have F21 := fun_mk (st := s_Turning_eq) l21 c21 k21
  have b21 := F21.binds (ps := ["self", "other"]) fun _ _ _ _ _ _ us hl => match us, hl with | [_, _], _ => rfl
  have F22 := fun_mk (st := s_Turning_xor) l22 c22 k22
  have b22 := F22.binds (ps := ["self", "other"]) fun _ _ _ _ _ _ us hl => match us, hl with | [_, _], _ => rfl
  have F23 := fun_mk (st := s_Turning_str) l23 c23 k23
  have b23 := F23.binds (ps := ["self"]) fun _ _ _ _ _ _ us hl => match us, hl with | [_], _ => rfl
  have F24 := fun_mk (st := s__law_source) l24 c24 k24
  have b24 := F24.binds (ps := ["_law_script"]) fun _ _ _ _ _ _ us hl => match us, hl with | [_], _ => rfl
  have F25 := fun_mk (st := s__law_take) l25 c25 k25
  have b25 := F25.binds (ps := ["_law_source_here", "_law_many"]) fun _ _ _ _ _ _ us hl => match us, hl with | [_, _], _ => rfl
  have F26 := fun_mk (st := s__law_word) l26 c26 k26
  have b26 := F26.binds (ps := ["_law_source_here", "_law_size"]) fun _ _ _ _ _ _ us hl => match us, hl with | [_, _], _ => rfl
  have F27 := fun_mk (st := s__law_names) l27 c27 k27
  have b27 := F27.binds (ps := ["_law_source_here", "_law_many"]) fun _ _ _ _ _ _ us hl => match us, hl with | [_, _], _ => rfl
  have F28 := fun_mk (st := s__law_sorted) l28 c28 k28
  have b28 := F28.binds (ps := ["_law_names_here"]) fun _ _ _ _ _ _ us hl => match us, hl with | [_], _ => rfl
  have F29 := fun_mk (st := s__law_same) l29 c29 k29
  have b29 := F29.binds (ps := ["_law_one", "_law_other"]) fun _ _ _ _ _ _ us hl => match us, hl with | [_, _], _ => rfl
  have F30 := fun_mk (st := s__law_turning) l30 c30 k30
  have b30 := F30.binds (ps := ["_law_names_here"]) fun _ _ _ _ _ _ us hl => match us, hl with | [_], _ => rfl
  have F31 := fun_mk (st := s__law_bad) l31 c31 k31
  have b31 := F31.binds (ps := ["_law_source_here", "_law_name"]) fun _ _ _ _ _ _ us hl => match us, hl with | [_, _], _ => rfl
  have F32 := fun_mk (st := s__law_no_name) l32 c32 k32
  have b32 := F32.binds (ps := ["_law_source_here", "_law_name"]) fun _ _ _ _ _ _ us hl => match us, hl with | [_, _], _ => rfl
  have F33 := fun_mk (st := s__law_made) l33 c33 k33
  have b33 := F33.binds (ps := ["_law_row"]) fun _ _ _ _ _ _ us hl => match us, hl with | [_], _ => rfl
  have F34 := fun_mk (st := s__law_passed) l34 c34 k34
  have b34 := F34.binds (ps := ["_law_source_here", "_law_names_here"]) fun _ _ _ _ _ _ us hl => match us, hl with | [_, _], _ => rfl
  have F35 := fun_mk (st := s__law_due) l35 c35 k35
  have b35 := F35.binds (ps := ["_law_row", "_law_bad_here"]) fun _ _ _ _ _ _ us hl => match us, hl with | [_, _], _ => rfl
  have F36 := fun_mk (st := s__law_told) l36 c36 k36
  have b36 := F36.binds (ps := ["_law_row"]) fun _ _ _ _ _ _ us hl => match us, hl with | [_], _ => rfl
  have F37 := fun_mk (st := s__law_no_index) l37 c37 k37
  have b37 := F37.binds (ps := ["_law_turning_here", "_law_text"]) fun _ _ _ _ _ _ us hl => match us, hl with | [_, _], _ => rfl
  have F38 := fun_mk (st := s__law_reports) l38 c38 k38
  have b38 := F38.binds (ps := ["_law_turning_here", "_law_turned", "_law_names_here", "_law_strings"]) fun _ _ _ _ _ _ us hl => match us, hl with | [_, _, _, _], _ => rfl
  have F39 := fun_mk (st := s_law) l39 c39 k39
  have b39 := F39.binds (ps := ["_law_script"]) fun _ _ _ _ _ _ us hl => match us, hl with | [_], _ => rfl
  have E_BadName : Cls1 l.prog K mg "BadName" C_BadName i_BadName ea_BadName eb_BadName (scope1 "text") := { gC := PySem.W.mg_of X G eg1, cls := ⟨n_1, q_1, N_1, bs_1, bm_1, sn_1, sub_1, ab_1, col_1, dd_1, w0_1, w1_1, w2_1, w3_1, w5_1, el1, er1⟩, sa := esa1, ga := ega1, gg := egg1, iC := ein1, tC := eti1, kC := ekc1, exC := ebe1, veC := eve1, tyC := ety1, hdC := ehd1, te := exm_self ebe1 eic1 ety1 ess1, up := eup1, self := emr1, op := zop, noS := PySem.W.mg_none_of X G zsu, fn := ⟨oce_1, ode_1, dce_1, pme_1, ane_1, cda1, cc1, cte_1, sle_1, ccl_1, cl_1, cdd_1, cld_1, vs_1, ccs_1, csl_1, file_1, tf_1, elf1, ecd1, elc1, evs1, efi1, ece1⟩, noM := znm }
  have X_BadName : ExcC K C_BadName := ⟨ega1, egg1, ebe1, ehd1, ecl1, zsp, ztk, emo1⟩
  have E_BadLiteral : Cls1 l.prog K mg "BadLiteral" C_BadLiteral i_BadLiteral ea_BadLiteral eb_BadLiteral (scope1 "text") := { gC := PySem.W.mg_of X G eg2, cls := ⟨n_2, q_2, N_2, bs_2, bm_2, sn_2, sub_2, ab_2, col_2, dd_2, w0_2, w1_2, w2_2, w3_2, w5_2, el2, er2⟩, sa := esa2, ga := ega2, gg := egg2, iC := ein2, tC := eti2, kC := ekc2, exC := ebe2, veC := eve2, tyC := ety2, hdC := ehd2, te := exm_self ebe2 eic2 ety2 ess2, up := eup2, self := emr2, op := zop, noS := PySem.W.mg_none_of X G zsu, fn := ⟨oce_2, ode_2, dce_2, pme_2, ane_2, cda2, cc2, cte_2, sle_2, ccl_2, cl_2, cdd_2, cld_2, vs_2, ccs_2, csl_2, file_2, tf_2, elf2, ecd2, elc2, evs2, efi2, ece2⟩, noM := znm }
  have X_BadLiteral : ExcC K C_BadLiteral := ⟨ega2, egg2, ebe2, ehd2, ecl2, zsp, ztk, emo2⟩
  have E_BothSigns : Cls1 l.prog K mg "BothSigns" C_BothSigns i_BothSigns ea_BothSigns eb_BothSigns (scope1 "name") := { gC := PySem.W.mg_of X G eg3, cls := ⟨n_3, q_3, N_3, bs_3, bm_3, sn_3, sub_3, ab_3, col_3, dd_3, w0_3, w1_3, w2_3, w3_3, w5_3, el3, er3⟩, sa := esa3, ga := ega3, gg := egg3, iC := ein3, tC := eti3, kC := ekc3, exC := ebe3, veC := eve3, tyC := ety3, hdC := ehd3, te := exm_self ebe3 eic3 ety3 ess3, up := eup3, self := emr3, op := zop, noS := PySem.W.mg_none_of X G zsu, fn := ⟨oce_3, ode_3, dce_3, pme_3, ane_3, cda3, cc3, cte_3, sle_3, ccl_3, cl_3, cdd_3, cld_3, vs_3, ccs_3, csl_3, file_3, tf_3, elf3, ecd3, elc3, evs3, efi3, ece3⟩, noM := znm }
  have X_BothSigns : ExcC K C_BothSigns := ⟨ega3, egg3, ebe3, ehd3, ecl3, zsp, ztk, emo3⟩
  have E_TooMany : Cls1 l.prog K mg "TooMany" C_TooMany i_TooMany ea_TooMany eb_TooMany (scope1 "limit") := { gC := PySem.W.mg_of X G eg4, cls := ⟨n_4, q_4, N_4, bs_4, bm_4, sn_4, sub_4, ab_4, col_4, dd_4, w0_4, w1_4, w2_4, w3_4, w5_4, el4, er4⟩, sa := esa4, ga := ega4, gg := egg4, iC := ein4, tC := eti4, kC := ekc4, exC := ebe4, veC := eve4, tyC := ety4, hdC := ehd4, te := exm_self ebe4 eic4 ety4 ess4, up := eup4, self := emr4, op := zop, noS := PySem.W.mg_none_of X G zsu, fn := ⟨oce_4, ode_4, dce_4, pme_4, ane_4, cda4, cc4, cte_4, sle_4, ccl_4, cl_4, cdd_4, cld_4, vs_4, ccs_4, csl_4, file_4, tf_4, elf4, ecd4, elc4, evs4, efi4, ece4⟩, noM := znm }
  have X_TooMany : ExcC K C_TooMany := ⟨ega4, egg4, ebe4, ehd4, ecl4, zsp, ztk, emo4⟩
  let T : Txt l.prog K mg := { C_Clause := C_Clause, g_Clause := PySem.W.mg_of X G cg0, cl_Clause := cl0, mi_Clause := cmi0, kc_Clause := ckc0, ins_Clause := ⟨cl0, cha0, zsp, ztk, cmo0, cme0⟩, na_Clause_literals := cna0_0, C_Turning := C_Turning, g_Turning := PySem.W.mg_of X G cg1, cl_Turning := cl1, mi_Turning := cmi1, kc_Turning := ckc1, ins_Turning := ⟨cl1, cha1, zsp, ztk, cmo1, cme1⟩, na_Turning_turned := cna1_0, om_Turning := om_Turning, kt_str_Clause := ckt0, R_Clause := ⟨cvr_Clause, cvg_Clause⟩, V_Clause_LIMIT := ⟨_, cvf_Clause_LIMIT, ⟨_, rfl⟩⟩, R_Turning := ⟨cvr_Turning, cvg_Turning⟩, V_Turning_LIMIT := ⟨_, cvf_Turning_LIMIT, ⟨_, rfl⟩⟩, f_is_name := f0, d_is_name := _, F_is_name := F0, b_is_name := b0, g_is_name := PySem.W.mg_of X G a0, f_is_literal := f1, d_is_literal := _, F_is_literal := F1, b_is_literal := b1, g_is_literal := PySem.W.mg_of X G a1, f_check_name := f2, d_check_name := _, F_check_name := F2, b_check_name := b2, g_check_name := PySem.W.mg_of X G a2, f_check_literal := f3, d_check_literal := _, F_check_literal := F3, b_check_literal := b3, g_check_literal := PySem.W.mg_of X G a3, f_name_of := f4, d_name_of := _, F_name_of := F4, b_name_of := b4, g_name_of := PySem.W.mg_of X G a4, f_is_positive := f5, d_is_positive := _, F_is_positive := F5, b_is_positive := b5, g_is_positive := PySem.W.mg_of X G a5, f_negated := f6, d_negated := _, F_negated := F6, b_negated := b6, g_negated := PySem.W.mg_of X G a6, f_names_in_order := f7, d_names_in_order := _, F_names_in_order := F7, b_names_in_order := b7, g_names_in_order := PySem.W.mg_of X G a7, f_both_signs := f8, d_both_signs := _, F_both_signs := F8, b_both_signs := b8, g_both_signs := PySem.W.mg_of X G a8, f_in_order := f9, d_in_order := _, F_in_order := F9, b_in_order := b9, g_in_order := PySem.W.mg_of X G a9, f_check_signs := f10, d_check_signs := _, F_check_signs := F10, b_check_signs := b10, g_check_signs := PySem.W.mg_of X G a10, f_few_names := f11, d_few_names := _, F_few_names := F11, b_few_names := b11, g_few_names := PySem.W.mg_of X G a11, m_Clause_init := a12, i_Clause_init := if12, f_Clause_init := f12, d_Clause_init := _, F_Clause_init := F12, f_turned_literal := f13, d_turned_literal := _, F_turned_literal := F13, b_turned_literal := b13, g_turned_literal := PySem.W.mg_of X G a13, f_turned_clause := f14, d_turned_clause := _, F_turned_clause := F14, b_turned_clause := b14, g_turned_clause := PySem.W.mg_of X G a14, f_names_apart := f15, d_names_apart := _, F_names_apart := F15, b_names_apart := b15, g_names_apart := PySem.W.mg_of X G a15, m_Turning_init := a16, i_Turning_init := if16, f_Turning_init := f16, d_Turning_init := _, F_Turning_init := F16, m_Turning_iter := a17, i_Turning_iter := if17, f_Turning_iter := f17, d_Turning_iter := _, F_Turning_iter := F17, b_Turning_iter := b17, m_Turning_len := a18, i_Turning_len := if18, f_Turning_len := f18, d_Turning_len := _, F_Turning_len := F18, b_Turning_len := b18, m_Turning_contains := a19, i_Turning_contains := if19, f_Turning_contains := f19, d_Turning_contains := _, F_Turning_contains := F19, b_Turning_contains := b19, m_Turning_getitem := a20, i_Turning_getitem := if20, f_Turning_getitem := f20, d_Turning_getitem := _, F_Turning_getitem := F20, b_Turning_getitem := b20, m_Turning_eq := a21, i_Turning_eq := if21, f_Turning_eq := f21, d_Turning_eq := _, F_Turning_eq := F21, b_Turning_eq := b21, m_Turning_xor := a22, i_Turning_xor := if22, f_Turning_xor := f22, d_Turning_xor := _, F_Turning_xor := F22, b_Turning_xor := b22, m_Turning_str := a23, i_Turning_str := if23, f_Turning_str := f23, d_Turning_str := _, F_Turning_str := F23, b_Turning_str := b23, f__law_source := f24, d__law_source := _, F__law_source := F24, b__law_source := b24, g__law_source := PySem.W.mg_of X G a24, f__law_take := f25, d__law_take := _, F__law_take := F25, b__law_take := b25, g__law_take := PySem.W.mg_of X G a25, f__law_word := f26, d__law_word := _, F__law_word := F26, b__law_word := b26, g__law_word := PySem.W.mg_of X G a26, f__law_names := f27, d__law_names := _, F__law_names := F27, b__law_names := b27, g__law_names := PySem.W.mg_of X G a27, f__law_sorted := f28, d__law_sorted := _, F__law_sorted := F28, b__law_sorted := b28, g__law_sorted := PySem.W.mg_of X G a28, f__law_same := f29, d__law_same := _, F__law_same := F29, b__law_same := b29, g__law_same := PySem.W.mg_of X G a29, f__law_turning := f30, d__law_turning := _, F__law_turning := F30, b__law_turning := b30, g__law_turning := PySem.W.mg_of X G a30, f__law_bad := f31, d__law_bad := _, F__law_bad := F31, b__law_bad := b31, g__law_bad := PySem.W.mg_of X G a31, f__law_no_name := f32, d__law_no_name := _, F__law_no_name := F32, b__law_no_name := b32, g__law_no_name := PySem.W.mg_of X G a32, f__law_made := f33, d__law_made := _, F__law_made := F33, b__law_made := b33, g__law_made := PySem.W.mg_of X G a33, f__law_passed := f34, d__law_passed := _, F__law_passed := F34, b__law_passed := b34, g__law_passed := PySem.W.mg_of X G a34, f__law_due := f35, d__law_due := _, F__law_due := F35, b__law_due := b35, g__law_due := PySem.W.mg_of X G a35, f__law_told := f36, d__law_told := _, F__law_told := F36, b__law_told := b36, g__law_told := PySem.W.mg_of X G a36, f__law_no_index := f37, d__law_no_index := _, F__law_no_index := F37, b__law_no_index := b37, g__law_no_index := PySem.W.mg_of X G a37, f__law_reports := f38, d__law_reports := _, F__law_reports := F38, b__law_reports := b38, g__law_reports := PySem.W.mg_of X G a38, f_law := fa, d_law := _, F_law := F39, b_law := b39, g_law := PySem.W.mg_of X G a39, t_LETTERS := tk0, v_LETTERS := PySem.W.mg_of X G v0, t_LETTERS_AND_DIGITS := tk1, v_LETTERS_AND_DIGITS := PySem.W.mg_of X G v1, t_LONGEST_NAME := tk2, v_LONGEST_NAME := PySem.W.mg_of X G v2, C_HornError := C_HornError, g_HornError := PySem.W.mg_of X G eg0, C_BadName := C_BadName, i_BadName := i_BadName, E_BadName := E_BadName, x_BadName := X_BadName, o_BadName := efn1, C_BadLiteral := C_BadLiteral, i_BadLiteral := i_BadLiteral, E_BadLiteral := E_BadLiteral, x_BadLiteral := X_BadLiteral, o_BadLiteral := efn2, C_BothSigns := C_BothSigns, i_BothSigns := i_BothSigns, E_BothSigns := E_BothSigns, x_BothSigns := X_BothSigns, o_BothSigns := efn3, C_TooMany := C_TooMany, i_TooMany := i_TooMany, E_TooMany := E_TooMany, x_TooMany := X_TooMany, o_TooMany := efn4, k_BadName_BadLiteral := ⟨_, kt0, rfl⟩, k_BadName_HornError := ⟨_, kt1, rfl⟩, k_BadName_TooMany := ⟨_, kt2, rfl⟩, k_BadName_ValueError := ⟨_, kt3, rfl⟩, k_BadLiteral_BadLiteral := ⟨_, kt4, rfl⟩, k_BadLiteral_HornError := ⟨_, kt5, rfl⟩, k_BadLiteral_TooMany := ⟨_, kt6, rfl⟩, k_BadLiteral_ValueError := ⟨_, kt7, rfl⟩, k_BothSigns_BadLiteral := ⟨_, kt8, rfl⟩, k_BothSigns_HornError := ⟨_, kt9, rfl⟩, k_BothSigns_TooMany := ⟨_, kt10, rfl⟩, k_BothSigns_ValueError := ⟨_, kt11, rfl⟩, k_TooMany_BadLiteral := ⟨_, kt12, rfl⟩, k_TooMany_HornError := ⟨_, kt13, rfl⟩, k_TooMany_TooMany := ⟨_, kt14, rfl⟩, k_TooMany_ValueError := ⟨_, kt15, rfl⟩, su_TooMany_BadName := sun_TooMany_BadName, n_NotImplemented := PySem.W.mg_none_of X G z0, n_ValueError := PySem.W.mg_none_of X G z1, n_all := PySem.W.mg_none_of X G z2, n_bool := PySem.W.mg_none_of X G z3, n_int := PySem.W.mg_none_of X G z4, n_isinstance := PySem.W.mg_none_of X G z5, n_iter := PySem.W.mg_none_of X G z6, n_len := PySem.W.mg_none_of X G z7, n_list := PySem.W.mg_none_of X G z8, n_property := PySem.W.mg_none_of X G z9, n_range := PySem.W.mg_none_of X G z10, n_set := PySem.W.mg_none_of X G z11, n_sorted := PySem.W.mg_none_of X G z12, n_staticmethod := PySem.W.mg_none_of X G z13, n_str := PySem.W.mg_none_of X G z14, n_super := PySem.W.mg_none_of X G zsu, n_tuple := PySem.W.mg_none_of X G z16 }
  exact ⟨PySem.W.fnOf "law" "law" (defArgs s_law) (defBody s_law) (defScope s_law) .none kV39 dc39 pm39 an39 cd39 ct39, fun s v => .of_eq rfl, fun base _ _ => ok_law T⟩
end Hk10
open PySem PySem.W PyProof.Rows
set_option maxHeartbeats 0 in
theorem PySem.Challenge.cw_renamedhorn_k10_turnings_made_holds : PySem.Challenge.rw_renamedhorn_k10_turnings_made.Holds := by
  w_on; o_law; k_head; (case hw => w_witness2)
  k_fill
  refine L2.walk_of (l := PySem.Challenge.rw_renamedhorn_k10_turnings_made) (n := 63) (k := 14) (x := "_law_script") (CX := fun _ => L2.CX0) (sp := fun w => Hk10.spLaw _) rfl (by decide) rfl ⟨rfl, by decide, by decide⟩ (fun w h Y => PySem.W.kIn_of Y) ?F (fun _ _ a ns hl _ hS => ⟨a, ns, rfl, hS, hl, fun _ => rfl⟩) (fun _ _ _ _ _ h => h)
  case F =>
    intro w mg fa h KX G hmg
    refine' Hk10.all_mk KX G hmg ?cg0 ?cpg0 ?chd0 ?cpo0 ?csa0 ?cmi0 ?ckc0 ?cha0 ?cmo0 ?cme0 ?cna0_0 ?cg1 ?cpg1 ?chd1 ?cpo1 ?csa1 ?cmi1 ?ckc1 ?cha1 ?cmo1 ?cme1 ?cna1_0 ?om_Turning ?ckt0 ?cvr_Clause ?cvg_Clause ?cvf_Clause_LIMIT ?cvr_Turning ?cvg_Turning ?cvf_Turning_LIMIT ?a0 ?l0 ?c0 ?k0 ?a1 ?l1 ?c1 ?k1 ?a2 ?l2 ?c2 ?k2 ?a3 ?l3 ?c3 ?k3 ?a4 ?l4 ?c4 ?k4 ?a5 ?l5 ?c5 ?k5 ?a6 ?l6 ?c6 ?k6 ?a7 ?l7 ?c7 ?k7 ?a8 ?l8 ?c8 ?k8 ?a9 ?l9 ?c9 ?k9 ?a10 ?l10 ?c10 ?k10 ?a11 ?l11 ?c11 ?k11 ?a12 ?l12 ?if12 ?c12 ?k12 ?a13 ?l13 ?c13 ?k13 ?a14 ?l14 ?c14 ?k14 ?a15 ?l15 ?c15 ?k15 ?a16 ?l16 ?if16 ?c16 ?k16 ?a17 ?l17 ?if17 ?c17 ?k17 ?a18 ?l18 ?if18 ?c18 ?k18 ?a19 ?l19 ?if19 ?c19 ?k19 ?a20 ?l20 ?if20 ?c20 ?k20 ?a21 ?l21 ?if21 ?c21 ?k21 ?a22 ?l22 ?if22 ?c22 ?k22 ?a23 ?l23 ?if23 ?c23 ?k23 ?a24 ?l24 ?c24 ?k24 ?a25 ?l25 ?c25 ?k25 ?a26 ?l26 ?c26 ?k26 ?a27 ?l27 ?c27 ?k27 ?a28 ?l28 ?c28 ?k28 ?a29 ?l29 ?c29 ?k29 ?a30 ?l30 ?c30 ?k30 ?a31 ?l31 ?c31 ?k31 ?a32 ?l32 ?c32 ?k32 ?a33 ?l33 ?c33 ?k33 ?a34 ?l34 ?c34 ?k34 ?a35 ?l35 ?c35 ?k35 ?a36 ?l36 ?c36 ?k36 ?a37 ?l37 ?c37 ?k37 ?a38 ?l38 ?c38 ?k38 ?a39 ?l39 ?c39 ?k39 ?v0 ?v1 ?v2 ?eg0 ?eg1 ?el1 ?er1 ?esa1 ?ega1 ?egg1 ?ein1 ?ecl1 ?efn1 ?eti1 ?ekc1 ?ebe1 ?eve1 ?ety1 ?ehd1 ?eic1 ?ess1 ?eup1 ?emr1 ?emo1 ?elf1 ?ecd1 ?elc1 ?evs1 ?efi1 ?ece1 ?eg2 ?el2 ?er2 ?esa2 ?ega2 ?egg2 ?ein2 ?ecl2 ?efn2 ?eti2 ?ekc2 ?ebe2 ?eve2 ?ety2 ?ehd2 ?eic2 ?ess2 ?eup2 ?emr2 ?emo2 ?elf2 ?ecd2 ?elc2 ?evs2 ?efi2 ?ece2 ?eg3 ?el3 ?er3 ?esa3 ?ega3 ?egg3 ?ein3 ?ecl3 ?efn3 ?eti3 ?ekc3 ?ebe3 ?eve3 ?ety3 ?ehd3 ?eic3 ?ess3 ?eup3 ?emr3 ?emo3 ?elf3 ?ecd3 ?elc3 ?evs3 ?efi3 ?ece3 ?eg4 ?el4 ?er4 ?esa4 ?ega4 ?egg4 ?ein4 ?ecl4 ?efn4 ?eti4 ?ekc4 ?ebe4 ?eve4 ?ety4 ?ehd4 ?eic4 ?ess4 ?eup4 ?emr4 ?emo4 ?elf4 ?ecd4 ?elc4 ?evs4 ?efi4 ?ece4 ?kt0 ?kt1 ?kt2 ?kt3 ?kt4 ?kt5 ?kt6 ?kt7 ?kt8 ?kt9 ?kt10 ?kt11 ?kt12 ?kt13 ?kt14 ?kt15 ?sun_TooMany_BadName ?z0 ?z1 ?z2 ?z3 ?z4 ?z5 ?z6 ?z7 ?z8 ?z9 ?z10 ?z11 ?z12 ?z13 ?z14 ?zsu ?z16 ?zop ?zsp ?ztk ?znm
    (case cg0 => k_is); (case cpg0 => k_is); (case chd0 => k_is); (case cpo0 => k_is); (case csa0 => k_is); (case cmi0 => k_is); (case ckc0 => k_is); (case cha0 => k_is); (case cmo0 => k_is)
    (case cme0 => kit_is); (case cna0_0 => k_is); (case cg1 => k_is); (case cpg1 => k_is); (case chd1 => k_is); (case cpo1 => k_is); (case csa1 => k_is); (case cmi1 => k_is); (case ckc1 => k_is)
    (case cha1 => k_is); (case cmo1 => k_is); (case cme1 => kit_is); (case cna1_0 => k_is); (case om_Turning => (first | k_is | rfl | decide +kernel)); (case ckt0 => kit_is); (case cvr_Clause => k_is)
    (case cvg_Clause => k_is); (case cvf_Clause_LIMIT => k_is); (case cvr_Turning => k_is); (case cvg_Turning => k_is); (case cvf_Turning_LIMIT => k_is); (case a0 => k_is); (case l0 => k_is)
    (case c0 => k_is); (case k0 => k_is); (case a1 => k_is); (case l1 => k_is); (case c1 => k_is); (case k1 => k_is); (case a2 => k_is); (case l2 => k_is); (case c2 => k_is); (case k2 => k_is)
    (case a3 => k_is); (case l3 => k_is); (case c3 => k_is); (case k3 => k_is); (case a4 => k_is); (case l4 => k_is); (case c4 => k_is); (case k4 => k_is); (case a5 => k_is); (case l5 => k_is)
    (case c5 => k_is); (case k5 => k_is); (case a6 => k_is); (case l6 => k_is); (case c6 => k_is); (case k6 => k_is); (case a7 => k_is); (case l7 => k_is); (case c7 => k_is); (case k7 => k_is)
    (case a8 => k_is); (case l8 => k_is); (case c8 => k_is); (case k8 => k_is); (case a9 => k_is); (case l9 => k_is); (case c9 => k_is); (case k9 => k_is); (case a10 => k_is); (case l10 => k_is)
    (case c10 => k_is); (case k10 => k_is); (case a11 => k_is); (case l11 => k_is); (case c11 => k_is); (case k11 => k_is); (case a12 => k_is); (case l12 => k_is); (case if12 => k_is)
    (case c12 => k_is); (case k12 => k_is); (case a13 => k_is); (case l13 => k_is); (case c13 => k_is); (case k13 => k_is); (case a14 => k_is); (case l14 => k_is); (case c14 => k_is)
    (case k14 => k_is); (case a15 => k_is); (case l15 => k_is); (case c15 => k_is); (case k15 => k_is); (case a16 => k_is); (case l16 => k_is); (case if16 => k_is); (case c16 => k_is)
    (case k16 => k_is); (case a17 => k_is); (case l17 => k_is); (case if17 => k_is); (case c17 => k_is); (case k17 => k_is); (case a18 => k_is); (case l18 => k_is); (case if18 => k_is)
    (case c18 => k_is); (case k18 => k_is); (case a19 => k_is); (case l19 => k_is); (case if19 => k_is); (case c19 => k_is); (case k19 => k_is); (case a20 => k_is); (case l20 => k_is)
    (case if20 => k_is); (case c20 => k_is); (case k20 => k_is); (case a21 => k_is); (case l21 => k_is); (case if21 => k_is); (case c21 => k_is); (case k21 => k_is); (case a22 => k_is)
    (case l22 => k_is); (case if22 => k_is); (case c22 => k_is); (case k22 => k_is); (case a23 => k_is); (case l23 => k_is); (case if23 => k_is); (case c23 => k_is); (case k23 => k_is)
    (case a24 => k_is); (case l24 => k_is); (case c24 => k_is); (case k24 => k_is); (case a25 => k_is); (case l25 => k_is); (case c25 => k_is); (case k25 => k_is); (case a26 => k_is)
    (case l26 => k_is); (case c26 => k_is); (case k26 => k_is); (case a27 => k_is); (case l27 => k_is); (case c27 => k_is); (case k27 => k_is); (case a28 => k_is); (case l28 => k_is)
    (case c28 => k_is); (case k28 => k_is); (case a29 => k_is); (case l29 => k_is); (case c29 => k_is); (case k29 => k_is); (case a30 => k_is); (case l30 => k_is); (case c30 => k_is)
    (case k30 => k_is); (case a31 => k_is); (case l31 => k_is); (case c31 => k_is); (case k31 => k_is); (case a32 => k_is); (case l32 => k_is); (case c32 => k_is); (case k32 => k_is)
    (case a33 => k_is); (case l33 => k_is); (case c33 => k_is); (case k33 => k_is); (case a34 => k_is); (case l34 => k_is); (case c34 => k_is); (case k34 => k_is); (case a35 => k_is)
    (case l35 => k_is); (case c35 => k_is); (case k35 => k_is); (case a36 => k_is); (case l36 => k_is); (case c36 => k_is); (case k36 => k_is); (case a37 => k_is); (case l37 => k_is)
    (case c37 => k_is); (case k37 => k_is); (case a38 => k_is); (case l38 => k_is); (case c38 => k_is); (case k38 => k_is); (case a39 => k_is); (case l39 => k_is); (case c39 => k_is)
    (case k39 => k_is); (case v0 => k_is); (case v1 => k_is); (case v2 => k_is); (case eg0 => k_is); (case eg1 => k_is); (case el1 => k_is); (case er1 => decide +kernel); (case esa1 => k_is)
    (case ega1 => k_is); (case egg1 => k_is); (case ein1 => k_is); (case ecl1 => k_is); (case efn1 => k_is); (case eti1 => k_is); (case ekc1 => k_is); (case ebe1 => k_is); (case eve1 => k_is)
    (case ety1 => k_is); (case ehd1 => k_is); (case eic1 => k_is); (case ess1 => first | rfl | k_is); (case eup1 => ks_is); (case emr1 => k_is); (case emo1 => k_is); (case elf1 => k_is)
    (case ecd1 => k_is); (case elc1 => k_is); (case evs1 => rfl); (case efi1 => first | rfl | decide +kernel); (case ece1 => k_is); (case eg2 => k_is); (case el2 => k_is); (case er2 => decide +kernel)
    (case esa2 => k_is); (case ega2 => k_is); (case egg2 => k_is); (case ein2 => k_is); (case ecl2 => k_is); (case efn2 => k_is); (case eti2 => k_is); (case ekc2 => k_is); (case ebe2 => k_is)
    (case eve2 => k_is); (case ety2 => k_is); (case ehd2 => k_is); (case eic2 => k_is); (case ess2 => first | rfl | k_is); (case eup2 => ks_is); (case emr2 => k_is); (case emo2 => k_is)
    (case elf2 => k_is); (case ecd2 => k_is); (case elc2 => k_is); (case evs2 => rfl); (case efi2 => first | rfl | decide +kernel); (case ece2 => k_is); (case eg3 => k_is); (case el3 => k_is)
    (case er3 => decide +kernel); (case esa3 => k_is); (case ega3 => k_is); (case egg3 => k_is); (case ein3 => k_is); (case ecl3 => k_is); (case efn3 => k_is); (case eti3 => k_is); (case ekc3 => k_is)
    (case ebe3 => k_is); (case eve3 => k_is); (case ety3 => k_is); (case ehd3 => k_is); (case eic3 => k_is); (case ess3 => first | rfl | k_is); (case eup3 => ks_is); (case emr3 => k_is)
    (case emo3 => k_is); (case elf3 => k_is); (case ecd3 => k_is); (case elc3 => k_is); (case evs3 => rfl); (case efi3 => first | rfl | decide +kernel); (case ece3 => k_is); (case eg4 => k_is)
    (case el4 => k_is); (case er4 => decide +kernel); (case esa4 => k_is); (case ega4 => k_is); (case egg4 => k_is); (case ein4 => k_is); (case ecl4 => k_is); (case efn4 => k_is); (case eti4 => k_is)
    (case ekc4 => k_is); (case ebe4 => k_is); (case eve4 => k_is); (case ety4 => k_is); (case ehd4 => k_is); (case eic4 => k_is); (case ess4 => first | rfl | k_is); (case eup4 => ks_is)
    (case emr4 => k_is); (case emo4 => k_is); (case elf4 => k_is); (case ecd4 => k_is); (case elc4 => k_is); (case evs4 => rfl); (case efi4 => first | rfl | decide +kernel); (case ece4 => k_is)
    (case kt0 => kit_is); (case kt1 => kit_is); (case kt2 => kit_is); (case kt3 => kit_is); (case kt4 => kit_is); (case kt5 => kit_is); (case kt6 => kit_is); (case kt7 => kit_is); (case kt8 => kit_is)
    (case kt9 => kit_is); (case kt10 => kit_is); (case kt11 => kit_is); (case kt12 => kit_is); (case kt13 => kit_is); (case kt14 => kit_is); (case kt15 => kit_is); (case sun_TooMany_BadName => k_is)
    (case z0 => k_is); (case z1 => k_is); (case z2 => k_is); (case z3 => k_is); (case z4 => k_is); (case z5 => k_is); (case z6 => k_is); (case z7 => k_is); (case z8 => k_is); (case z9 => k_is)
    (case z10 => k_is); (case z11 => k_is); (case z12 => k_is); (case z13 => k_is); (case z14 => k_is); (case zsu => k_is); (case z16 => k_is); (case zop => k_is); (case zsp => k_is)
    (case ztk => k_is); (case znm => first | rfl | decide +kernel)
